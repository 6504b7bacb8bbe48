/- All pixels of a raster of digits, over any memory. Condition: the text is short, the head's numbers fit. -/
import Derived.Test.YtmnhiagppicegaaGreatZgAE
namespace Go.Proofs.YtmnhiagppicegaaGreat
open Go.RowKit
set_option linter.unusedVariables false

/-- as many as there are, and no more than may be -/
def Cp (n c : Nat) : Prop := n ≤ c ∧ c ≤ 9223372036854775807
def RdRc (t : List Int × Int × Int) (w : World) (e : Ending) (w' : World) : Prop :=
  ∃ a c, e = .returned (.tuple #[.slice a t.1.length c, .int .i64 t.2.1, .int .i64 t.2.2]) ∧ SlK .u64 w' a t.1.length t.1 ∧ Below w.heap.size w w' ∧ Cp t.1.length c
theorem rdrc_nil {t : List Int × Int × Int} {e1 e2 : Int} (ht : t = ([], e1, e2)) {w w' : World} (hB : Below w.heap.size w w') : RdRc t w (.returned (.tuple #[.slice none 0 0, .int .i64 e1, .int .i64 e2])) w' :=
  ⟨none, 0, by rw [ht]; rfl, by rw [ht]; exact slk_nil, hB, by rw [ht]; exact ⟨Nat.le_refl _, by omega⟩⟩
theorem rdrc_row {t : List Int × Int × Int} {l : List Int} {e1 e2 x : Int} (ht : t = (l, e1, e2)) (hx : x = e1) {w w' : World} {base k : Nat} {v : Value} (hr : w'.ownsRow base 26 1 v k (pixs l)) (hk : l.length = k) (hB : Below w.heap.size w w') : RdRc t w (.returned (.tuple #[v, .int .i64 x, .int .i64 e2])) w' := by
  obtain ⟨a, c, rfl, hs⟩ := slk_row hr hk
  have hc : Cp k c := by
    rcases hr.2 with ⟨h, h0⟩ | ⟨g9, cap9, cur9, h, _, _, h8, h9, _⟩
    · cases h; exact ⟨Nat.le_refl _, by omega⟩
    · cases h; exact ⟨h8, h9⟩
  subst hk; subst hx
  exact ⟨a, c, by rw [ht], by rw [ht]; exact hs, hB, by rw [ht]; exact hc⟩
set_option maxRecDepth 100000 in
set_option maxHeartbeats 4000000 in
theorem plReadC_any (s : ByteArray) (hsz : s.size ≤ 100000) (h : Hd.H) (hf : Hj.Fit h) (w : World) :
    Calls Tryz.prog 103 #[.string s, agH h] w (RdRc (Pl.readV h (bytesOf s)) w) := by
  by_cases hm : Pl.May h
  · have HN := Lib.hid (plNew_yes h hf hm)
    obtain ⟨t0, ht0⟩ : ∃ t, Pl.readV h (bytesOf s) = t := ⟨_, rfl⟩
    have HV0 : Hid (t0 = Pl.readF (Pl.new h) 0 [] (bytesOf s)) := by show _ = _; rw [← ht0]; exact if_pos hm
    rw [ht0]
    obtain ⟨p0, pi, pz0, pz1, pz2⟩ : ∃ i, Tryz.prog.info? 26 = some i ∧ i.zero = some (.int .u64 0) ∧ i.size = 1 ∧ i.bytes = 8 := (by have h := Tryz.info_px8; cases hh : Tryz.prog.info? 26 with | none => rw [hh] at h; cases h | some i => rw [hh] at h; simp at h; exact ⟨i, rfl, h.1, h.2.1, h.2.2⟩)
    clear ht0 hf hm
    unfold agH at HN ⊢
    go_enter Tryz.func103, Tryz.ntmps103
    go_wp2_with fail
    refine (HN.out _).mono ?_
    rintro e w1 ⟨b, rfl, hwb, hX, hb1⟩
    have HX1 := Lib.hid hX
    have HB1 := Lib.hid (((Below.refl _ w).alloc (Nat.le_refl _) _).trans (hb1.mono (by simp)))
    have HWB : Hid (w.heap.size ≤ b) := Lib.hid (by simp at hwb; omega)
    clear hX hb1 hwb
    go_wp2_with fail
    go_loopw [9, 25] (fun u9 u25 wr => ∃ (i : Nat) (sv rv : Value) (st : Pl.S) (acc : List Int) (v : Value), i ≤ s.size ∧ u25 = .int .i64 i ∧ v = u9 ∧ PlX wr b sv rv st ∧ st.last = 0 ∧ wr.ownsRow w.heap.size 26 1 v acc.length (pixs acc) ∧ Ap v b sv rv ∧ acc.length + st.row.length ≤ i ∧ Below w.heap.size w wr ∧ t0 = Pl.readF st i acc ((bytesOf s).drop i)) (fun _ u25 _ => s.size - (intOf u25).toNat)
    case atStart => exact ⟨0, _, _, Pl.new h, [], _, Nat.zero_le _, rfl, rfl, HX1.out, rfl, World.ownsRow_nil _ _ _ _, ap_nil _ _ _, Nat.le_refl _, HB1.out, HV0.out⟩
    case round =>
      obtain ⟨i, sv, rv, st, acc, v, hi1, rfl, rfl, hX, h0, hrow, hap, hgr, hB, hV⟩ := hrel
      have HX := Lib.hid hX
      have HROW := Lib.hid hrow
      have HAP := Lib.hid hap
      have HB := Lib.hid hB
      have H0 := Lib.hid h0
      have HG := Lib.hid hX.g
      obtain ⟨n, hn⟩ : ∃ n, acc.length = n := ⟨_, rfl⟩
      have HNL := Lib.hid hn
      rw [hn] at hgr
      have HROW' : Hid (wr.ownsRow w.heap.size 26 1 v n (pixs acc)) := by show World.ownsRow _ _ _ _ _ _ _; have h := hrow; rw [hn] at h; exact h
      have hn9 : n ≤ 100000 := by omega
      have HGR := Lib.hid hgr
      clear hX hrow hap hB h0 hn
      have HPZ : Hid (∀ (q : Pl.S × List Int) (w2 : World) sv' rv', PlX w2 b sv' rv' q.1 → Sep (PlZ b sv rv) wr w2 → PlNew wr sv sv' → PlNew wr rv rv' → w2.ownsRow w.heap.size 26 1 v n (pixs acc) ∧ Ap v b sv' rv' ∧ Below w.heap.size w w2) := Lib.hid fun q w2 sv' rv' hX2 hS hN1 hN2 =>
        ⟨row_sep HROW'.out hS HAP.out, ap_put HROW'.out HAP.out hN1 hN2, HB.out.trans (hS.below HB.out.size (fun k hk hz => by have := (HX.out.z k hz).1; have := HWB.out; omega))⟩
      by_cases hlt : i < s.size
      · rw [bytesOf_drop s i hlt] at hV
        have c0 : (0 : Int) ≤ (s[i].toNat : Int) := by omega
        have c1 : (s[i].toNat : Int) ≤ 255 := by have := s[i].toNat_lt; omega
        have HP := plPut_any (s[i].toNat : Int) c0 c1 wr b sv rv HX.out
        have hg' := Pl.put_grow st (s[i].toNat : Int)
        have hG' := (Pl.good_put HG.out (s[i].toNat : Int)).last
        obtain ⟨q, hq⟩ : ∃ q, Pl.put st (s[i].toNat : Int) = q := ⟨_, rfl⟩
        rw [hq] at HP hg' hG'
        obtain ⟨m, hm⟩ : ∃ m, q.2.length = m := ⟨_, rfl⟩
        have hml : m ≤ 100001 := by omega
        have HQG := Lib.hid hg'
        have HML := Lib.hid hm
        by_cases h1 : q.1.last = 1
        · have HV2 : Hid (t0 = (acc ++ q.2, (i : Int) + 1, 0)) := by show _ = _; rw [hV, Pl.readF_over hq h1]
          unfold PlPutR at HP
          rw [h1, hm] at HP
          have HPC := Lib.hid HP
          have hii : (i : Int) + 1 ≤ 9223372036854775807 := by omega
          clear HP hg' hG' hq hm hV h1 hgr
          go_wp2_with (first | (at_builtin; refine wpList_app rfl _ _ 29 rfl w.heap.size 26 p0 .u64 8 Tryz.underlying29 pi pz0 pz1 pz2 v n (pixs acc) rfl HO2.out a m c q.2 rfl HS2.out (by unfold maxLen; omega) (by omega) HB2.out.size ?_; intro v3 w3 hown hgrow hat; have HO3 := Lib.hid hown; have HB3 := Lib.hid (HB2.out.grown hgrow HB2.out.size (fun j ej => (HO2.out.lt j ej).1)); clear hown hgrow hat) | (go_at_call 124; refine HPC.out.mono ?_; rintro e w2 ⟨a, c, sv', rv', rfl, hX2, hS2, _, hF2, hN1, hN2⟩; obtain ⟨z1, z2, z3⟩ := HPZ.out q w2 sv' rv' hX2 hF2 hN1 hN2; have HO2 := Lib.hid z1; have HB2 := Lib.hid z3; have HS2 := Lib.hid hS2; clear hX2 hS2 hF2 hN1 hN2 z1 z2 z3))
          go_returns
          exact rdrc_row HV2.out rfl (by have h := HO3.out; unfold pixs; rw [List.map_append]; exact h) (by rw [List.length_append, HNL.out, HML.out]) HB3.out
        by_cases h2 : q.1.last = 2
        · have HV2 : Hid (t0 = ([], 0, q.1.e)) := by show _ = _; rw [hV, Pl.readF_wrong hq h2]
          unfold PlPutR at HP
          rw [h2, hm] at HP
          have HPC := Lib.hid HP
          clear HP hg' hG' hq hm hV h1 h2 hgr
          go_wp2_with (first | (at_builtin; refine wpList_app rfl _ _ 29 rfl w.heap.size 26 p0 .u64 8 Tryz.underlying29 pi pz0 pz1 pz2 v n (pixs acc) rfl HO2.out a m c q.2 rfl HS2.out (by unfold maxLen; omega) (by omega) HB2.out.size ?_; intro v3 w3 hown hgrow hat; have HB3 := Lib.hid (HB2.out.grown hgrow HB2.out.size (fun j ej => (HO2.out.lt j ej).1)); have HX3 := Lib.hid (HX2.out.kept HA2.out hgrow); clear hown hgrow hat) | (go_at_call 124; refine HPC.out.mono ?_; rintro e w2 ⟨a, c, sv', rv', rfl, hX2, hS2, _, hF2, hN1, hN2⟩; obtain ⟨z1, z2, z3⟩ := HPZ.out q w2 sv' rv' hX2 hF2 hN1 hN2; have HO2 := Lib.hid z1; have HA2 := Lib.hid z2; have HB2 := Lib.hid z3; have HS2 := Lib.hid hS2; have HX2 := Lib.hid hX2; clear hX2 hS2 hF2 hN1 hN2 z1 z2 z3) | (go_at_call 147; refine (plError_x HX3.out).mono ?_; rintro e w9 ⟨rfl, rfl⟩))
          go_returns
          exact rdrc_nil HV2.out HB3.out
        · have h3 : q.1.last = 0 := by omega
          have HV2 : Hid (t0 = Pl.readF q.1 (i + 1) (acc ++ q.2) ((bytesOf s).drop (i + 1))) := by show _ = _; rw [hV, Pl.readF_more hq h3]
          unfold PlPutR at HP
          rw [h3, hm] at HP
          have HPC := Lib.hid HP
          have H3 := Lib.hid h3
          clear HP hg' hG' hq hm hV h1 h2 h3 hgr
          go_wp2_with (first | (at_builtin; refine wpList_app rfl _ _ 29 rfl w.heap.size 26 p0 .u64 8 Tryz.underlying29 pi pz0 pz1 pz2 v n (pixs acc) rfl HO2.out a m c q.2 rfl HS2.out (by unfold maxLen; omega) (by omega) HB2.out.size ?_; intro v3 w3 hown hgrow hat; have HO3 := Lib.hid hown; have HB3 := Lib.hid (HB2.out.grown hgrow HB2.out.size (fun j ej => (HO2.out.lt j ej).1)); have HX3 := Lib.hid (HX2.out.kept HA2.out hgrow); have HA3 := Lib.hid (ap_app HX2.out HA2.out hat); clear hown hgrow hat) | (go_at_call 124; refine HPC.out.mono ?_; rintro e w2 ⟨a, c, sv', rv', rfl, hX2, hS2, _, hF2, hN1, hN2⟩; obtain ⟨z1, z2, z3⟩ := HPZ.out q w2 sv' rv' hX2 hF2 hN1 hN2; have HO2 := Lib.hid z1; have HA2 := Lib.hid z2; have HB2 := Lib.hid z3; have HS2 := Lib.hid hS2; have HX2 := Lib.hid hX2; clear hX2 hS2 hF2 hN1 hN2 z1 z2 z3))
          go_roundw
          case rel => exact ⟨i + 1, sv', rv', q.1, acc ++ q.2, v3, by omega, by go_num, rfl, HX3.out, H3.out, by rw [List.length_append, HNL.out, HML.out]; have h := HO3.out; unfold pixs; rw [List.map_append]; exact h, HA3.out, by rw [List.length_append, HNL.out]; have := HQG.out; have := HGR.out; omega, HB3.out, HV2.out⟩
          case measure => simp [intOf]; omega
      · have hgl := Pl.fin_grow st
        have hls := Pl.fin_last HG.out
        have HP := plEnd_any wr b sv rv HX.out
        obtain ⟨q, hq⟩ : ∃ q, Pl.fin st = q := ⟨_, rfl⟩
        rw [List.drop_eq_nil_of_le (by rw [bytesOf_length]; omega), Pl.readF_nil hq] at hV
        rw [hq] at HP hgl hls
        obtain ⟨m, hm⟩ : ∃ m, q.2.length = m := ⟨_, rfl⟩
        have hml : m ≤ 100001 := by omega
        have HML := Lib.hid hm
        have his : i = s.size := by omega
        by_cases h2 : q.1.last = 2
        · have HV2 : Hid (t0 = ([], 0, q.1.e)) := by show _ = _; rw [hV, if_pos h2]
          unfold PlPutR at HP
          rw [h2, hm] at HP
          have HPC := Lib.hid HP
          clear HP hgl hls hq hm hV h2 hgr his
          go_wp2_with (first | (go_at_call 75; refine HPC.out.mono ?_; rintro e w2 ⟨a, c, sv', rv', rfl, hX2, hS2, _, hF2, hN1, hN2⟩; obtain ⟨z1, z2, z3⟩ := HPZ.out q w2 sv' rv' hX2 hF2 hN1 hN2; have HB2 := Lib.hid z3; have HX2 := Lib.hid hX2; clear hX2 hS2 hF2 hN1 hN2 z1 z2 z3) | (go_at_call 147; refine (plError_x HX2.out).mono ?_; rintro e w9 ⟨rfl, rfl⟩))
          go_returns
          exact rdrc_nil HV2.out HB2.out
        · have h3 : q.1.last = 1 := by omega
          have HV2 : Hid (t0 = (acc ++ q.2, (s.size : Int), 0)) := by show _ = _; rw [hV, if_neg h2, his]
          unfold PlPutR at HP
          rw [h3, hm] at HP
          have HPC := Lib.hid HP
          clear HP hgl hls hq hm hV h2 h3 hgr his
          go_wp2_with (first | (at_builtin; refine wpList_app rfl _ _ 29 rfl w.heap.size 26 p0 .u64 8 Tryz.underlying29 pi pz0 pz1 pz2 v n (pixs acc) rfl HO2.out a m c q.2 rfl HS2.out (by unfold maxLen; omega) (by omega) HB2.out.size ?_; intro v3 w3 hown hgrow hat; have HO3 := Lib.hid hown; have HB3 := Lib.hid (HB2.out.grown hgrow HB2.out.size (fun j ej => (HO2.out.lt j ej).1)); clear hown hgrow hat) | (go_at_call 75; refine HPC.out.mono ?_; rintro e w2 ⟨a, c, sv', rv', rfl, hX2, hS2, _, hF2, hN1, hN2⟩; obtain ⟨z1, z2, z3⟩ := HPZ.out q w2 sv' rv' hX2 hF2 hN1 hN2; have HO2 := Lib.hid z1; have HB2 := Lib.hid z3; have HS2 := Lib.hid hS2; clear hX2 hS2 hF2 hN1 hN2 z1 z2 z3))
          go_returns
          exact rdrc_row HV2.out rfl (by have h := HO3.out; unfold pixs; rw [List.map_append]; exact h) (by rw [List.length_append, HNL.out, HML.out]) HB3.out
  · have HN := Lib.hid (plNew_no h hf hm)
    have HV : Hid (Pl.readV h (bytesOf s) = ([], 0, 1)) := Lib.hid (if_neg hm)
    clear hf hm
    unfold agH at HN ⊢
    go_enter Tryz.func103, Tryz.ntmps103
    go_wp2_with (go_at_call 146; refine (HN.out _).mono ?_; rintro e w1 ⟨rfl, hb1⟩; have HB1 := Lib.hid (((Below.refl _ w).alloc (Nat.le_refl _) _).trans (hb1.mono (by simp))))
    go_returns
    exact rdrc_nil HV.out HB1.out
end Go.Proofs.YtmnhiagppicegaaGreat
