/- All pixels of a raster of digits by the document, over any memory. Condition: the text is short, the head's numbers fit. -/
import Derived.Test.YtldhhhmihfcalaaZgAE
import Derived.Test.YtldhhhmihfcalaaZgAG
import Derived.Deep.RegionHeld3
import Derived.Deep.DeepCutAuto
namespace Go.Proofs.Ytldhhhmihfcalaa
open Go.RowKit
set_option linter.unusedVariables false

/-- a slice that is known, in memory that is neither the block k nor the value v's own -/
def SlF (q : IntKind) (w : World) (a : Option Addr) (n : Nat) (l : List Int) (k : Nat) (v : Value) : Prop :=
  l.length = n ∧ (n = 0 ∨ ∃ g o, a = some ⟨g, o, none⟩ ∧ g ≠ k ∧ v.ownBlock ≠ some g ∧ ∀ i, i < n → w.cell? ⟨g, o + i, none⟩ = some (.int q (l.getD i 0)))
theorem SlF.sl {q : IntKind} {w : World} {a : Option Addr} {n k : Nat} {l : List Int} {v : Value} (h : SlF q w a n l k v) : SlK q w a n l := by
  refine ⟨h.1, ?_⟩
  rcases h.2 with h | ⟨g, o, ha, _, _, hc⟩
  · exact .inl h
  · exact .inr ⟨g, o, ha, hc⟩
theorem slf_nil {q : IntKind} {w : World} {a : Option Addr} {k : Nat} {v : Value} : SlF q w a ([] : List Int).length [] k v := ⟨rfl, .inl rfl⟩
theorem SlF.put {q : IntKind} {w w' : World} {a : Option Addr} {n k : Nat} {l : List Int} {v : Value} (h : SlF q w a n l k v) (hg : w.grownBy w' (some k)) : SlF q w' a n l k v := by
  refine ⟨h.1, ?_⟩
  rcases h.2 with h | ⟨g, o, ha, h1, h2, hc⟩
  · exact .inl h
  · exact .inr ⟨g, o, ha, h1, h2, fun i hi => hg.cell (hc i hi) (by intro e; injection e with e; exact h1 e)⟩
theorem SlF.app {q : IntKind} {w w' : World} {a : Option Addr} {n k : Nat} {l : List Int} {v v' : Value} (h : SlF q w a n l k v) (hg : w.grownBy w' v.ownBlock) (hat : v'.ownBlock = v.ownBlock ∨ v'.ownBlock = some w.heap.size) : SlF q w' a n l k v' := by
  refine ⟨h.1, ?_⟩
  by_cases hn : n = 0
  · exact .inl hn
  rcases h.2 with h | ⟨g, o, ha, h1, h2, hc⟩
  · exact .inl h
  · refine .inr ⟨g, o, ha, h1, ?_, fun i hi => hg.cell (hc i hi) (fun e => h2 e.symm)⟩
    rcases hat with e | e
    · rw [e]; exact h2
    · rw [e]; intro e2; injection e2 with e2
      have h3 : g < w.heap.size := block_lt_of_cell (hc 0 (by omega))
      omega
theorem SlF.of {q : IntKind} {wr w : World} {a A : Option Addr} {n m k : Nat} {l O : List Int} {v : Value} (h : SlK q w a n l) (hf : (a = A ∧ l = O) ∨ Nw wr a) (hA : SlF q wr A m O k v) (hk : k < wr.heap.size) (hv : ∀ j, v.ownBlock = some j → j < wr.heap.size) : SlF q w a n l k v := by
  refine ⟨h.1, ?_⟩
  rcases h.2 with h0 | ⟨g, o, ha, hc⟩
  · exact .inl h0
  · by_cases hn : n = 0
    · exact .inl hn
    refine .inr ⟨g, o, ha, ?_, ?_, hc⟩
    · rcases hf with ⟨rfl, rfl⟩ | hf
      · rcases hA.2 with h0 | ⟨g', o', ha', h1, h2, _⟩
        · exact absurd (h.1.symm.trans (hA.1.trans h0)) hn
        · rw [ha] at ha'; cases ha'; exact h1
      · have h3 : wr.heap.size ≤ g := hf _ ha
        intro e; have e4 : g = k := e; omega
    · rcases hf with ⟨rfl, rfl⟩ | hf
      · rcases hA.2 with h0 | ⟨g', o', ha', h1, h2, _⟩
        · exact absurd (h.1.symm.trans (hA.1.trans h0)) hn
        · rw [ha] at ha'; cases ha'; exact h2
      · intro e; have h1 := hv g e; have h2 : wr.heap.size ≤ g := hf _ ha; omega
theorem bel_drewN' {B : Nat} {a w : World} (h : Below B a w) (n : Nat) : Below B a (w.drewN n) := ⟨h.os, h.tape, h.output, h.size, h.block⟩
theorem RbC.drew' {w : World} {b : Nat} {h : Hd.H} {N : Int} {v1 v2 : Value} {rows last e : Int} (H : RbC w b h N v1 v2 rows last e) : RbC w.drew b h N v1 v2 rows last e := H
/-- what a told byte's reader and row read as -/
def QF (A1 A2 : Option Addr) (O1 O2 : List Int) (q : Pl.S × List Int) (W w : World) (b1 b2 a : Option Addr) : Prop :=
  SlK .i64 w b1 q.1.one.length q.1.one ∧ SlK .u64 w b2 q.1.row.length q.1.row ∧ SlK .u64 w a q.2.length q.2 ∧ ((b1 = A1 ∧ q.1.one = O1) ∨ Nw W b1) ∧ ((b2 = A2 ∧ q.1.row = O2) ∨ Nw W b2) ∧ Nw W a
def RoundR (A1 A2 : Option Addr) (O1 O2 : List Int) (q : Pl.S × List Int) (wr : World) (m1 m2 m : Nat) (h2 : Hd.H) (N2 rows2 last2 er2 : Int) (s11 s12 : Value) (wx : World) : Prop :=
  ∃ na b1 e1 b2 e2 a c, s11 = .pointer (some ⟨na, 0, none⟩) ∧ s12 = .slice a m c ∧ RbC wx na h2 N2 (.slice b1 m1 e1) (.slice b2 m2 e2) rows2 last2 er2 ∧ wr.heap.size ≤ na ∧ Below wr.heap.size wr wx ∧ QF A1 A2 O1 O2 q wr wx b1 b2 a
section
variable {A1 A2 : Option Addr} {O1 O2 : List Int} {q : Pl.S × List Int} {wr W w9 : World} {m1 m2 m : Nat} {h2 : Hd.H} {N2 rows2 last2 er2 : Int} {b1 b2 a : Option Addr} {e1 e2 c : Nat}
theorem round1 (hW : wr.heap.size < W.heap.size) {n1 n2 : Nat} (S1 : SlK .i64 wr A1 n1 O1) (S2 : SlK .u64 wr A2 n2 O2) (hQ : QF A1 A2 O1 O2 q W w9 b1 b2 a) (hZ : RbC w9 wr.heap.size Hd.none 0 (.slice none 0 0) (.slice none 0 0) 0 0 0) (hB : Below wr.heap.size wr w9) :
    RoundR A1 A2 O1 O2 q wr m1 m2 m h2 N2 rows2 last2 er2 (.pointer (some ⟨wr.heap.size, 0, none⟩)) (.slice a m c) ((((((((((w9.setCell ⟨wr.heap.size, 0, none⟩ (.int .i64 h2.kd)).setCell ⟨wr.heap.size, 1, none⟩ (.int .i64 h2.w)).setCell ⟨wr.heap.size, 2, none⟩ (.int .i64 h2.h)).setCell ⟨wr.heap.size, 3, none⟩ (.int .i64 h2.m)).setCell ⟨wr.heap.size, 4, none⟩ (.int .i64 N2)).setCell ⟨wr.heap.size, 5, none⟩ (.slice b1 m1 e1)).setCell ⟨wr.heap.size, 6, none⟩ (.slice b2 m2 e2)).setCell ⟨wr.heap.size, 7, none⟩ (.int .i64 rows2)).setCell ⟨wr.heap.size, 8, none⟩ (.int .i64 last2)).setCell ⟨wr.heap.size, 9, none⟩ (.int .i64 er2)) := by
  obtain ⟨q1, q2, q3, f1, f2, f3⟩ := hQ
  have GP := RbC.grownAll w9 wr.heap.size h2 N2 (.slice b1 m1 e1) (.slice b2 m2 e2) rows2 last2 er2
  refine ⟨_, b1, e1, b2, e2, a, c, rfl, rfl, hZ.putAll h2 N2 _ _ rows2 last2 er2, Nat.le_refl _, hB.grown GP hB.size (fun j ej => by cases ej; exact Nat.le_refl _), slk_far (W0 := wr) q1 (f1.imp ?_ id) (Nat.le_refl _) hW GP, slk_far (W0 := wr) q2 (f2.imp ?_ id) (Nat.le_refl _) hW GP, slk_kept q3 (far_of f3 hW) GP, f1.imp id (nw_mono (Nat.le_of_lt hW)), f2.imp id (nw_mono (Nat.le_of_lt hW)), nw_mono (Nat.le_of_lt hW) f3⟩
  · rintro ⟨rfl, e⟩; rw [e, S1.1]; exact S1
  · rintro ⟨rfl, e⟩; rw [e, S2.1]; exact S2
theorem round2 (hW : wr.heap.size ≤ W.heap.size) (hQ : QF A1 A2 O1 O2 q W w9 b1 b2 a) (hB : Below wr.heap.size wr w9) :
    RoundR A1 A2 O1 O2 q wr m1 m2 m h2 N2 rows2 last2 er2 (.pointer (some ⟨w9.heap.size, 0, none⟩)) (.slice a m c) (w9.alloc (.cells #[.int .i64 h2.kd, .int .i64 h2.w, .int .i64 h2.h, .int .i64 h2.m, .int .i64 N2, .slice b1 m1 e1, .slice b2 m2 e2, .int .i64 rows2, .int .i64 last2, .int .i64 er2] 77)) := by
  obtain ⟨q1, q2, q3, f1, f2, f3⟩ := hQ
  have hb := box1' w9 (.cells #[.int .i64 h2.kd, .int .i64 h2.w, .int .i64 h2.h, .int .i64 h2.m, .int .i64 N2, .slice b1 m1 e1, .slice b2 m2 e2, .int .i64 rows2, .int .i64 last2, .int .i64 er2] 77)
  exact ⟨_, b1, e1, b2, e2, a, c, rfl, rfl, RbC.new w9 h2 N2 _ _ rows2 last2 er2, hB.size, hB.trans (hb.mono hB.size), q1.below hb, q2.below hb, q3.below hb, f1.imp id (nw_mono hW), f2.imp id (nw_mono hW), nw_mono hW f3⟩
end
set_option maxRecDepth 100000 in
set_option maxHeartbeats 8000000 in
theorem refPlRead_any (s : ByteArray) (hsz : s.size ≤ 100000) (h : Hd.H) (hf : Hj.Fit h) (w : World) :
    Calls Try.prog 39 #[.string s, agH h] w (RdR (Pl.readV h (bytesOf s)) w) := by
  have HM := Lib.hid (refPlMay_any h hf)
  by_cases hm : Pl.May h
  · simp only [decide_eq_true hm] at HM
    have HN := Lib.hid (refPlNew_any h)
    obtain ⟨t0, ht0⟩ : ∃ t, Pl.readV h (bytesOf s) = t := ⟨_, rfl⟩
    have HV0 : Hid (t0 = Pl.readF (Pl.new h) 0 [] (bytesOf s)) := by show _ = _; rw [← ht0]; exact if_pos hm
    have HG0 := Lib.hid (Pl.good_new hm)
    rw [ht0]
    obtain ⟨p0, pi, pz0, pz1, pz2⟩ : ∃ i, Try.prog.info? 88 = some i ∧ i.zero = some (.int .u64 0) ∧ i.size = 1 ∧ i.bytes = 8 := (by have h := Try.info_px8; cases hh : Try.prog.info? 88 with | none => rw [hh] at h; cases h | some i => rw [hh] at h; simp at h; exact ⟨i, rfl, h.1, h.2.1, h.2.2⟩)
    clear ht0 hf hm
    unfold agR agH at HN
    unfold agH at HM ⊢
    go_enter Try.func39, Try.ntmps39
    go_wp2_with fail
    refine (HM.out _).mono ?_
    rintro e w1 ⟨rfl, hb1⟩
    have HB1 := Lib.hid (((Below.refl _ w).alloc (Nat.le_refl _) _).trans (hb1.mono (by simp)))
    obtain ⟨n0, n1, n2, n3⟩ := ((Hb.new w 42 h).later hb1).cells
    clear hb1
    go_wp2_with fail
    refine (HN.out _).mono ?_
    rintro e w2 ⟨rfl, hb2⟩
    have HB2 := Lib.hid (HB1.out.trans (hb2.mono HB1.out.size))
    clear n0 n1 n2 n3 hb2
    go_upto_region 5 with fail
    generalize hW : w2.alloc (.cells #[.int .i64 h.kd, .int .i64 h.w, .int .i64 h.h, .int .i64 h.m, .int .i64 (-1), .slice none 0 0, .slice none 0 0, .int .i64 0, .int .i64 0, .int .i64 0] 77) = w3
    have HK3 : Hid (RbC w3 w2.heap.size h (-1) (.slice none 0 0) (.slice none 0 0) 0 0 0) := by show RbC _ _ _ _ _ _ _ _ _; rw [← hW]; exact RbC.new w2 _ _ _ _ _ _ _
    have HB3 : Hid (Below w.heap.size w w3) := by show Below _ _ _; rw [← hW]; exact HB2.out.alloc HB2.out.size _
    have HWK : Hid (w.heap.size ≤ w2.heap.size) := Lib.hid HB2.out.size
    clear hW HB1 HB2 HN HM
    obtain ⟨k, hk⟩ : ∃ k, w2.heap.size = k := ⟨_, rfl⟩
    rw [hk] at HK3 HWK ⊢
    clear hk
    go_wp2_with fail
    go_loopw [9, 10] (fun u9 u10 wr => ∃ (i : Nat) (st : Pl.S) (acc : List Int) (v : Value) (a1 a2 : Option Addr) (d1 d2 : Nat), i ≤ s.size ∧ u10 = .int .i64 i ∧ v = u9 ∧ RbC wr k st.h (Pl.nn st) (.slice a1 st.one.length d1) (.slice a2 st.row.length d2) st.rows st.last st.e ∧ SlF .i64 wr a1 st.one.length st.one k v ∧ SlF .u64 wr a2 st.row.length st.row k v ∧ Pl.Good st ∧ st.last = 0 ∧ wr.ownsRow (k + 1) 88 1 v acc.length (pixs acc) ∧ acc.length + st.row.length ≤ i ∧ Below w.heap.size w wr ∧ t0 = Pl.readF st i acc ((bytesOf s).drop i)) (fun _ u10 _ => s.size - (intOf u10).toNat)
    case atStart => exact ⟨0, Pl.new h, [], _, none, none, 0, 0, Nat.zero_le _, rfl, rfl, HK3.out, slf_nil, slf_nil, HG0.out, rfl, World.ownsRow_nil _ _ _ _, Nat.le_refl _, HB3.out, HV0.out⟩
    case round =>
      obtain ⟨i, st, acc, v, A1, A2, d1, d2, hi1, rfl, rfl, hK, hS1, hS2, hG, h0, hrow, hgr, hB, hV⟩ := hrel
      have e0 := hG.e0 (by omega)
      have e0' : st.last = 0 := h0
      have e00 : st.e = 0 := e0
      rw [h0, e0] at hK
      have HS1 := Lib.hid hS1
      have HS2 := Lib.hid hS2
      have HB := Lib.hid hB
      have HG := Lib.hid hG
      have HKK := Lib.hid hK.lt
      obtain ⟨n, hn⟩ : ∃ n, acc.length = n := ⟨_, rfl⟩
      have HNL := Lib.hid hn
      rw [hn] at hgr hrow
      have HROW := Lib.hid hrow
      have hn9 : n ≤ 100000 := by omega
      have HGR := Lib.hid hgr
      obtain ⟨hh, hhh⟩ : ∃ hh, st.h = hh := ⟨_, rfl⟩
      obtain ⟨N, hN⟩ : ∃ N, Pl.nn st = N := ⟨_, rfl⟩
      obtain ⟨n1, hn1⟩ : ∃ n1, st.one.length = n1 := ⟨_, rfl⟩
      obtain ⟨n2, hn2⟩ : ∃ n2, st.row.length = n2 := ⟨_, rfl⟩
      obtain ⟨rows, hrows⟩ : ∃ rows, st.rows = rows := ⟨_, rfl⟩
      rw [hhh, hN, hn1, hn2, hrows] at hK
      have HK := Lib.hid hK
      have hkl : k < wr.heap.size := hK.lt
      obtain ⟨o0, o1, o2, o3, o4, o5, o6, o7, o8, o9⟩ := hK.cells
      obtain ⟨g0, g1, g2, g3, g4, g5, g6, g7, g8, g9⟩ := hK.frs
      have hBt : Below wr.heap.size wr wr := .refl _ _
      clear hrow hB h0 hn hK hS1 hS2 HK3 HB3 HG0 HV0
      by_cases hlt : i < s.size
      · rw [bytesOf_drop s i hlt] at hV
        have c0 : (0 : Int) ≤ (s[i].toNat : Int) := by omega
        have c1 : (s[i].toNat : Int) ≤ 255 := by have := s[i].toNat_lt; omega
        have hg' := Pl.put_grow st (s[i].toNat : Int)
        have hGq := Pl.good_put hG (s[i].toNat : Int)
        have hGl := hGq.last
        have hPP := fun (W : World) (hb : Below wr.heap.size wr W) => refPut_any HG.out (s[i].toNat : Int) c0 c1 W A1 A2 d1 d2 (HS1.out.sl.below hb) (HS2.out.sl.below hb)
        obtain ⟨q, hq⟩ : ∃ q, Pl.put st (s[i].toNat : Int) = q := ⟨_, rfl⟩
        rw [hq] at hPP hg' hGq hGl
        obtain ⟨m, hm⟩ : ∃ m, q.2.length = m := ⟨_, rfl⟩
        obtain ⟨h2, hh2⟩ : ∃ h2, q.1.h = h2 := ⟨_, rfl⟩
        obtain ⟨N2, hN2⟩ : ∃ N, Pl.nn q.1 = N := ⟨_, rfl⟩
        obtain ⟨m1, hm1⟩ : ∃ n1, q.1.one.length = n1 := ⟨_, rfl⟩
        obtain ⟨m2, hm2⟩ : ∃ n2, q.1.row.length = n2 := ⟨_, rfl⟩
        obtain ⟨rows2, hrows2⟩ : ∃ rows, q.1.rows = rows := ⟨_, rfl⟩
        obtain ⟨last2, hlast2⟩ : ∃ l, q.1.last = l := ⟨_, rfl⟩
        obtain ⟨er2, her2⟩ : ∃ e, q.1.e = e := ⟨_, rfl⟩
        have HEQ := Lib.hid (show q.1.h = h2 ∧ Pl.nn q.1 = N2 ∧ q.1.one.length = m1 ∧ q.1.row.length = m2 ∧ q.1.rows = rows2 ∧ q.1.last = last2 ∧ q.1.e = er2 from ⟨hh2, hN2, hm1, hm2, hrows2, hlast2, her2⟩)
        have hml : m ≤ 100001 := by omega
        have HML := Lib.hid hm
        have HQG := Lib.hid hg'
        have HGQ := Lib.hid hGq
        have HQ := Lib.hid hq
        have HGL := Lib.hid hGl
        have HPC : Hid (∀ W, Below wr.heap.size wr W → Calls Try.prog 44 #[.agg #[.int .i64 hh.kd, .int .i64 hh.w, .int .i64 hh.h, .int .i64 hh.m, .int .i64 N, .slice A1 n1 d1, .slice A2 n2 d2, .int .i64 rows, .int .i64 0, .int .i64 0], .int .u8 (s[i].toNat : Int)] W fun e w' => ∃ b1 e1 b2 e2 a c, e = .returned (.tuple #[.agg #[.int .i64 h2.kd, .int .i64 h2.w, .int .i64 h2.h, .int .i64 h2.m, .int .i64 N2, .slice b1 m1 e1, .slice b2 m2 e2, .int .i64 rows2, .int .i64 last2, .int .i64 er2], .slice a m c]) ∧ QF A1 A2 st.one st.row q W w' b1 b2 a ∧ Below W.heap.size W w') := Lib.hid fun W hb => by
          have hP := hPP W hb
          unfold agR at hP
          rw [hhh, hN, hn1, hn2, hrows, e0', e00] at hP
          refine hP.mono ?_
          rintro e w' ⟨v2, a, c, rfl, ⟨b1, e1, b2, e2, rfl, q1, q2, f1, f2⟩, q3, f3, hb'⟩
          refine ⟨b1, e1, b2, e2, a, c, ?_, ⟨q1, q2, q3, f1, f2, f3⟩, hb'⟩
          unfold agR
          rw [hm, hh2, hN2, hm1, hm2, hrows2, hlast2, her2]
        clear hPP hg' hGq hGl hq hm hh2 hN2 hm1 hm2 hrows2 hlast2 her2 hhh hN hn1 hn2 hrows hG hgr
        go_wp2_with fail
        go_cut [11, 12] (fun s11 s12 wx => RoundR A1 A2 st.one st.row q wr m1 m2 m h2 N2 rows2 last2 er2 s11 s12 wx)
        case first =>
          go_region_held3 (fun w' => w'.cell? ⟨k, 0, none⟩ = some (.int .i64 hh.kd) ∧ w'.cell? ⟨k, 1, none⟩ = some (.int .i64 hh.w) ∧ w'.cell? ⟨k, 2, none⟩ = some (.int .i64 hh.h) ∧ w'.cell? ⟨k, 3, none⟩ = some (.int .i64 hh.m) ∧ w'.cell? ⟨k, 4, none⟩ = some (.int .i64 N) ∧ w'.cell? ⟨k, 5, none⟩ = some (.slice A1 n1 d1) ∧ w'.cell? ⟨k, 6, none⟩ = some (.slice A2 n2 d2) ∧ w'.cell? ⟨k, 7, none⟩ = some (.int .i64 rows) ∧ w'.cell? ⟨k, 8, none⟩ = some (.int .i64 0) ∧ w'.cell? ⟨k, 9, none⟩ = some (.int .i64 0))
            (first | (with_reducible exact ⟨o0, o1, o2, o3, o4, o5, o6, o7, o8, o9⟩) | exact RbC.cells (RbC.later HK.out (by repeat' (first | (with_reducible exact hBt) | (with_reducible refine Below.alloc ?_ ?_ _) | (with_reducible refine Below.drew ?_) | (with_reducible refine below_drewN ?_ _) | (with_reducible refine Below.setCell ?_ ?_ _) | exact hBt.size | (have := hBt.size; first | omega | (simp; done) | (simp; omega))))))
            (first
              | (go_at_call 44; refine (HPC.out _ (by repeat' (first | (with_reducible exact hBt) | (with_reducible refine Below.alloc ?_ ?_ _) | (with_reducible refine Below.drew ?_) | (with_reducible refine below_drewN ?_ _) | (with_reducible refine Below.setCell ?_ ?_ _) | exact hBt.size | (have := hBt.size; first | omega | (simp; done) | (simp; omega))))).mono ?_; rintro e w9 ⟨b1, e1, b2, e2, a, c, rfl, hQF, hb9⟩; have HQF := Lib.hid hQF; replace hBt := bel_step (w := wr) (by repeat' (first | (with_reducible exact hBt) | (with_reducible refine Below.alloc ?_ ?_ _) | (with_reducible refine Below.drew ?_) | (with_reducible refine below_drewN ?_ _) | (with_reducible refine Below.setCell ?_ ?_ _) | exact hBt.size | (have := hBt.size; first | omega | (simp; done) | (simp; omega)))) hb9; clear hQF; (try ((first | (with_reducible have hNB := RbC.later (RbC.new _ Hd.none 0 (.slice none 0 0) (.slice none 0 0) 0 0 0) hb9) | (with_reducible have hNB := RbC.later (RbC.drew' (RbC.new _ Hd.none 0 (.slice none 0 0) (.slice none 0 0) 0 0 0)) hb9)); (try simp only [World.size_drew, size_drewN'] at hNB))); (try (obtain ⟨z0, z1, z2, z3, z4, z5, z6, z7, z8, z9⟩ := hNB.cells)); (try (obtain ⟨y0, y1, y2, y3, y4, y5, y6, y7, y8, y9⟩ := hNB.frs))))
          all_goals
            go_wp2_with fail
            go_meet
            case rel =>
              first
                | (with_reducible exact round1 (by simp) HS1.out.sl HS2.out.sl HQF.out hNB hBt)
                | (with_reducible exact round2 (by simp) HQF.out hBt)
        case rest =>
          obtain ⟨na, b1, e1, b2, e2, a, c, rfl, rfl, hRC, hna, hBx, hQF⟩ := hcut
          have hKc := HK.out.later hBx
          have hvl : ∀ j, v.ownBlock = some j → j < wr.heap.size := fun j hj => (HROW.out.lt j hj).2
          have SF1 := SlF.of hQF.1 hQF.2.2.2.1 HS1.out hkl hvl
          have SF2 := SlF.of hQF.2.1 hQF.2.2.2.2.1 HS2.out hkl hvl
          have SA := SlF.of (A := A2) (O := st.row) (m := st.row.length) hQF.2.2.1 (.inr hQF.2.2.2.2.2) HS2.out hkl hvl
          have hRW := below_row HROW.out hBx
          have hBw := HB.out.trans (hBx.mono HB.out.size)
          obtain ⟨p0', p1, p2, p3, p4, p5, p6, p7, p8, p9⟩ := hRC.cells
          obtain ⟨o0, o1, o2, o3, o4, o5, o6, o7, o8, o9⟩ := hKc.cells
          obtain ⟨g0, g1, g2, g3, g4, g5, g6, g7, g8, g9⟩ := hKc.frs
          have HKc := Lib.hid hKc
          have HSF1 := Lib.hid SF1
          have HSF2 := Lib.hid SF2
          have HSA := Lib.hid SA
          have HRW := Lib.hid hRW
          have HBW := Lib.hid hBw
          clear hRC hna hBx hQF hKc hvl SF1 SF2 SA hRW hBw hBt HPC
          go_upto_region 11 with fail
          generalize hW : ((((((((((wc.setCell ⟨k, 0, none⟩ (.int .i64 h2.kd)).setCell ⟨k, 1, none⟩ (.int .i64 h2.w)).setCell ⟨k, 2, none⟩ (.int .i64 h2.h)).setCell ⟨k, 3, none⟩ (.int .i64 h2.m)).setCell ⟨k, 4, none⟩ (.int .i64 N2)).setCell ⟨k, 5, none⟩ (.slice b1 m1 e1)).setCell ⟨k, 6, none⟩ (.slice b2 m2 e2)).setCell ⟨k, 7, none⟩ (.int .i64 rows2)).setCell ⟨k, 8, none⟩ (.int .i64 last2)).setCell ⟨k, 9, none⟩ (.int .i64 er2)) = w4
          have HK4 : Hid (RbC w4 k h2 N2 (.slice b1 m1 e1) (.slice b2 m2 e2) rows2 last2 er2) := by show RbC _ _ _ _ _ _ _ _ _; rw [← hW]; exact HKc.out.putAll h2 N2 _ _ rows2 last2 er2
          have HG4 : Hid (wc.grownBy w4 (some k)) := by show World.grownBy _ _ _; rw [← hW]; exact RbC.grownAll wc k h2 N2 (.slice b1 m1 e1) (.slice b2 m2 e2) rows2 last2 er2
          have SF14 := Lib.hid (HSF1.out.put HG4.out)
          have SF24 := Lib.hid (HSF2.out.put HG4.out)
          have SA4 : Hid (SlK .u64 w4 a m q.2) := Lib.hid (by have h := (HSA.out.put HG4.out).sl; rw [HML.out] at h; exact h)
          have HR4 := Lib.hid (HRW.out.kept HG4.out (.inr fun e => by have := (HRW.out.lt k e).1; omega))
          have HB4 := Lib.hid (HBW.out.grown HG4.out HBW.out.size (fun j ej => by cases ej; exact HWK.out))
          clear hW p0' p1 p2 p3 p4 p5 p6 p7 p8 p9 o0 o1 o2 o3 o4 o5 o6 o7 o8 o9 g0 g1 g2 g3 g4 g5 g6 g7 g8 g9 HKc HSF1 HSF2 HSA HRW HBW
          have hl2 : last2 = 0 ∨ last2 = 1 ∨ last2 = 2 := by have := HGL.out; rw [HEQ.out.2.2.2.2.2.1] at this; exact this
          have hii : (i : Int) + 1 ≤ 9223372036854775807 := by omega
          rcases hl2 with h1 | h1 | h1
          · have HV2 : Hid (t0 = Pl.readF q.1 (i + 1) (acc ++ q.2) ((bytesOf s).drop (i + 1))) := by show _ = _; rw [hV, Pl.readF_more HQ.out (HEQ.out.2.2.2.2.2.1.trans h1)]
            subst h1
            clear hV
            go_wp2_with (at_builtin; refine wpList_app rfl _ _ 22 rfl (k + 1) 88 p0 .u64 8 Try.underlying22 pi pz0 pz1 pz2 v n (pixs acc) rfl HR4.out a m c q.2 rfl SA4.out (by unfold maxLen; omega) (by omega) HK4.out.lt ?_; intro v3 w5 hown hgrow hat; have HO5 := Lib.hid hown; have HK5 := Lib.hid (HK4.out.kept hgrow (fun e => by have := (HR4.out.lt k e.symm).1; omega)); have HB5 := Lib.hid (HB4.out.grown hgrow HB4.out.size (fun j ej => by have := (HR4.out.lt j ej).1; have := HWK.out; omega)); have SF15 := Lib.hid (SF14.out.app hgrow hat); have SF25 := Lib.hid (SF24.out.app hgrow hat); obtain ⟨x0, x1, x2, x3, x4, x5, x6, x7, x8, x9⟩ := HK5.out.cells; clear hown hgrow hat)
            go_roundw
            case rel =>
              obtain ⟨r1, r2, r3, r4, r5, r6, r7⟩ := HEQ.out
              exact ⟨i + 1, q.1, acc ++ q.2, v3, b1, b2, e1, e2, by omega, by go_num, rfl, by rw [r1, r2, r3, r4, r5, r6, r7]; exact HK5.out, SF15.out, SF25.out, HGQ.out, r6, by rw [List.length_append, HNL.out, HML.out]; have h := HO5.out; unfold pixs; rw [List.map_append]; exact h, by rw [List.length_append, HNL.out]; have := HQG.out; have := HGR.out; omega, HB5.out, HV2.out⟩
            case measure => simp [intOf]; omega
          · have HV2 : Hid (t0 = (acc ++ q.2, (i : Int) + 1, 0)) := by show _ = _; rw [hV, Pl.readF_over HQ.out (HEQ.out.2.2.2.2.2.1.trans h1)]
            subst h1
            clear hV
            go_wp2_with (at_builtin; refine wpList_app rfl _ _ 22 rfl (k + 1) 88 p0 .u64 8 Try.underlying22 pi pz0 pz1 pz2 v n (pixs acc) rfl HR4.out a m c q.2 rfl SA4.out (by unfold maxLen; omega) (by omega) HK4.out.lt ?_; intro v3 w5 hown hgrow hat; have HO5 := Lib.hid hown; have HK5 := Lib.hid (HK4.out.kept hgrow (fun e => by have := (HR4.out.lt k e.symm).1; omega)); have HB5 := Lib.hid (HB4.out.grown hgrow HB4.out.size (fun j ej => by have := (HR4.out.lt j ej).1; have := HWK.out; omega)); have SF15 := Lib.hid (SF14.out.app hgrow hat); have SF25 := Lib.hid (SF24.out.app hgrow hat); obtain ⟨x0, x1, x2, x3, x4, x5, x6, x7, x8, x9⟩ := HK5.out.cells; clear hown hgrow hat)
            go_returns
            exact rdr_row HV2.out rfl (by have h := HO5.out; unfold pixs; rw [List.map_append]; exact h) (by rw [List.length_append, HNL.out, HML.out]) HB5.out
          · have HV2 : Hid (t0 = ([], 0, er2)) := by show _ = _; rw [hV, Pl.readF_wrong HQ.out (HEQ.out.2.2.2.2.2.1.trans h1), HEQ.out.2.2.2.2.2.2]
            subst h1
            clear hV
            go_wp2_with (first | (at_builtin; refine wpList_app rfl _ _ 22 rfl (k + 1) 88 p0 .u64 8 Try.underlying22 pi pz0 pz1 pz2 v n (pixs acc) rfl HR4.out a m c q.2 rfl SA4.out (by unfold maxLen; omega) (by omega) HK4.out.lt ?_; intro v3 w5 hown hgrow hat; have HO5 := Lib.hid hown; have HK5 := Lib.hid (HK4.out.kept hgrow (fun e => by have := (HR4.out.lt k e.symm).1; omega)); have HB5 := Lib.hid (HB4.out.grown hgrow HB4.out.size (fun j ej => by have := (HR4.out.lt j ej).1; have := HWK.out; omega)); have SF15 := Lib.hid (SF14.out.app hgrow hat); have SF25 := Lib.hid (SF24.out.app hgrow hat); obtain ⟨x0, x1, x2, x3, x4, x5, x6, x7, x8, x9⟩ := HK5.out.cells; clear hown hgrow hat) | go_quiet (fail))
            go_returns
            exact rdr_nil HV2.out (bel_drewN' HB5.out _)
      · have hgl := Pl.fin_grow st
        have hls := Pl.fin_last HG.out
        have hPP := refEnd_any HG.out wr A1 A2 d1 d2 HS1.out.sl HS2.out.sl
        obtain ⟨q, hq⟩ : ∃ q, Pl.fin st = q := ⟨_, rfl⟩
        rw [List.drop_eq_nil_of_le (by rw [bytesOf_length]; omega), Pl.readF_nil hq] at hV
        rw [hq] at hPP hgl hls
        obtain ⟨m, hm⟩ : ∃ m, q.2.length = m := ⟨_, rfl⟩
        obtain ⟨h2, hh2⟩ : ∃ h2, q.1.h = h2 := ⟨_, rfl⟩
        obtain ⟨N2, hN2⟩ : ∃ N, Pl.nn q.1 = N := ⟨_, rfl⟩
        obtain ⟨m1, hm1⟩ : ∃ n1, q.1.one.length = n1 := ⟨_, rfl⟩
        obtain ⟨m2, hm2⟩ : ∃ n2, q.1.row.length = n2 := ⟨_, rfl⟩
        obtain ⟨rows2, hrows2⟩ : ∃ rows, q.1.rows = rows := ⟨_, rfl⟩
        obtain ⟨last2, hlast2⟩ : ∃ l, q.1.last = l := ⟨_, rfl⟩
        obtain ⟨er2, her2⟩ : ∃ e, q.1.e = e := ⟨_, rfl⟩
        have hml : m ≤ 100001 := by omega
        have HML := Lib.hid hm
        have his : i = s.size := by omega
        have HPC : Hid (Calls Try.prog 48 #[.agg #[.int .i64 hh.kd, .int .i64 hh.w, .int .i64 hh.h, .int .i64 hh.m, .int .i64 N, .slice A1 n1 d1, .slice A2 n2 d2, .int .i64 rows, .int .i64 0, .int .i64 0]] wr fun e w' => ∃ b1 e1 b2 e2 a c, e = .returned (.tuple #[.agg #[.int .i64 h2.kd, .int .i64 h2.w, .int .i64 h2.h, .int .i64 h2.m, .int .i64 N2, .slice b1 m1 e1, .slice b2 m2 e2, .int .i64 rows2, .int .i64 last2, .int .i64 er2], .slice a m c]) ∧ SlK .u64 w' a m q.2 ∧ Below wr.heap.size wr w') := Lib.hid (by
          have hP := hPP
          unfold agR at hP
          rw [hhh, hN, hn1, hn2, hrows, e0', e00] at hP
          refine hP.mono ?_
          rintro e w' ⟨v2, a, c, rfl, ⟨b1, e1, b2, e2, rfl, q1, q2, f1, f2⟩, q3, f3, hb'⟩
          refine ⟨b1, e1, b2, e2, a, c, ?_, by rw [hm] at q3; exact q3, hb'⟩
          unfold agR
          rw [hm, hh2, hN2, hm1, hm2, hrows2, hlast2, her2])
        have hl2 : last2 = 1 ∨ last2 = 2 := by rw [hlast2] at hls; exact hls
        have HV2 : Hid (t0 = if last2 = 2 then ([], 0, er2) else (acc ++ q.2, (s.size : Int), 0)) := by show _ = _; rw [hV, hlast2, her2, his]
        clear hPP hgl hls hq hm hh2 hN2 hm1 hm2 hrows2 hlast2 her2 hhh hN hn1 hn2 hrows hG hV his hgr
        go_wp2_with fail
        refine HPC.out.mono ?_
        rintro e w9 ⟨b1, e1, b2, e2, a, c, rfl, hS9, hb9⟩
        have HS9 := Lib.hid hS9
        have HB9 := Lib.hid hb9
        clear hS9 hb9 o0 o1 o2 o3 o4 o5 o6 o7 o8 o9 g0 g1 g2 g3 g4 g5 g6 g7 g8 g9 hBt
        go_upto_region 17 with fail
        generalize hW : w9.alloc (.cells #[.int .i64 h2.kd, .int .i64 h2.w, .int .i64 h2.h, .int .i64 h2.m, .int .i64 N2, .slice b1 m1 e1, .slice b2 m2 e2, .int .i64 rows2, .int .i64 last2, .int .i64 er2] 77) = w4
        have HBx : Hid (Below w9.heap.size w9 w4) := by show Below _ _ _; rw [← hW]; exact box1' _ _
        have HN4 : Hid (RbC w4 w9.heap.size h2 N2 (.slice b1 m1 e1) (.slice b2 m2 e2) rows2 last2 er2) := by show RbC _ _ _ _ _ _ _ _ _; rw [← hW]; exact RbC.new w9 _ _ _ _ _ _ _
        have HB94 := Lib.hid (HB9.out.trans (HBx.out.mono HB9.out.size))
        have HK4 := Lib.hid (HK.out.later HB94.out)
        have SA4 := Lib.hid (HS9.out.below HBx.out)
        have HR4 := Lib.hid (below_row HROW.out HB94.out)
        have HB4 := Lib.hid (HB.out.trans (HB94.out.mono HB.out.size))
        obtain ⟨x0, x1, x2, x3, x4, x5, x6, x7, x8, x9⟩ := HN4.out.cells
        clear hW
        rcases hl2 with h1 | h1
        · have HV3 : Hid (t0 = (acc ++ q.2, (s.size : Int), 0)) := by show _ = _; rw [HV2.out, if_neg (by rw [h1]; decide)]
          subst h1
          go_wp2_with (at_builtin; refine wpList_app rfl _ _ 22 rfl (k + 1) 88 p0 .u64 8 Try.underlying22 pi pz0 pz1 pz2 v n (pixs acc) rfl HR4.out a m c q.2 rfl SA4.out (by unfold maxLen; omega) (by omega) HK4.out.lt ?_; intro v3 w5 hown hgrow hat; have HO5 := Lib.hid hown; have HB5 := Lib.hid (HB4.out.grown hgrow HB4.out.size (fun j ej => by have := (HR4.out.lt j ej).1; have := HWK.out; omega)); clear hown hgrow hat)
          go_returns
          exact rdr_row HV3.out rfl (by have h := HO5.out; unfold pixs; rw [List.map_append]; exact h) (by rw [List.length_append, HNL.out, HML.out]) HB5.out
        · have HV3 : Hid (t0 = ([], 0, er2)) := by show _ = _; rw [HV2.out, if_pos h1]
          subst h1
          go_wp2_with (go_quiet (fail))
          go_returns
          exact rdr_nil HV3.out (bel_drewN' HB4.out _)
  · simp only [decide_eq_false hm] at HM
    have HV : Hid (Pl.readV h (bytesOf s) = ([], 0, 1)) := Lib.hid (if_neg hm)
    clear hf hm
    unfold agH at HM ⊢
    go_enter Try.func39, Try.ntmps39
    go_wp2_with (go_at_call 53; refine (HM.out _).mono ?_; rintro e w1 ⟨rfl, hb1⟩; have HB1 := Lib.hid (((Below.refl _ w).alloc (Nat.le_refl _) _).trans (hb1.mono (by simp))))
    go_returns
    exact rdr_nil HV.out HB1.out
end Go.Proofs.Ytldhhhmihfcalaa
