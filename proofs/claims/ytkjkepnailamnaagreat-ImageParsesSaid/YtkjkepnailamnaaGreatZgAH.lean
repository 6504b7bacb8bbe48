/- The document's reader of digits is told a byte: what it comes to, over any memory. Condition: its head may be. -/
import Derived.Test.YtkjkepnailamnaaGreatZPlP
import Derived.Test.YtkjkepnailamnaaGreatZgAF
import Derived.Deep.RegionHeld3
import Derived.Deep.DeepCutAuto
import Derived.Test.YtkjkepnailamnaaGreatZgAG
import Derived.Test.YtkjkepnailamnaaGreatZgAB
import Derived.Test.YtkjkepnailamnaaGreatZgAC
import Derived.Deep.RegionLaw
import Derived.Deep.AppendLies
import Derived.Test.YtkjkepnailamnaaGreatZgAD
import Derived.Test.YtkjkepnailamnaaGreatZgAE
import Derived.Test.YtkjkepnailamnaaGreatZgAA
namespace Go.Proofs.YtkjkepnailamnaaGreat
open Go.RowKit
set_option linter.unusedVariables false
theorem refSample_s {s : Pl.S} (hG : Pl.Good s) (h0 : s.last = 0) (n : Int) (W : World) (a1 a2 : Option Addr) (c1 c2 : Nat) (S1 : SlK .i64 W a1 s.one.length s.one) (S2 : SlK .u64 W a2 s.row.length s.row) :
    Calls Tryz.prog 140 #[agR s.h (-1) (.slice a1 s.one.length c1) (.slice a2 s.row.length c2) s.rows 0 0, .int .i64 n] W (RfS W s.h a2 s.row (Pl.sample s n).1.one (Pl.sample s n).1.row (Pl.sample s n).1.rows (Pl.sample s n).1.last 0 (Pl.sample s n).2) := by
  have hm := hG.may.m
  have hc := Hj.chan_at s.h
  have ho := hG.one
  have hr := hG.row
  have hr0 := hG.rows0
  have hr2 := hG.rows2
  have l1 : s.one.length ≤ 3 := by omega
  have l2 : s.row.length ≤ 4096 := by omega
  have l3 : s.rows ≤ 65536 := by omega
  have hk3 : Hj.chan s.h = if s.h.kd = 3 then 3 else 1 := by
    unfold Hj.chan
    by_cases h : s.h.kd = 3
    · rw [if_pos (.inl h), if_pos h]
    · rw [if_neg (by omega), if_neg h]
  unfold Pl.sample
  by_cases h1 : (s.one.length : Int) + 1 < Hj.chan s.h
  · rw [if_pos h1]
    by_cases h : s.h.kd = 3
    · rw [if_pos h] at hk3
      exact refSample_more s.h n s.one s.row s.rows 0 a1 a2 c1 c2 W S1 S2 l1 l2 hr0 l3 h (by omega)
    · rw [if_neg h] at hk3; omega
  rw [if_neg h1]
  have hone : ¬ (s.h.kd = 3 ∧ s.one.length + 1 < 3) := by
    rintro ⟨h, h'⟩
    rw [if_pos h] at hk3; omega
  by_cases h2 : (s.row.length : Int) + 1 < s.h.w
  · rw [if_pos h2]
    exact refSample_pixel s.h n s.one s.row s.rows 0 a1 a2 c1 c2 W S1 S2 l1 l2 hr0 l3 hone h2
  rw [if_neg h2]
  by_cases h3 : s.rows + 1 = s.h.h
  · have e : (Pl.line s n).last = 1 := if_pos h3
    show Calls _ _ _ _ (RfS W s.h a2 s.row [] [] (s.rows + 1) (Pl.line s n).last 0 (s.row ++ [Pl.pix s n]))
    rw [e]
    exact refSample_over s.h n s.one s.row s.rows 0 a1 a2 c1 c2 W S1 S2 l1 l2 hr0 l3 hone h2 h3
  · have e : (Pl.line s n).last = 0 := if_neg h3
    show Calls _ _ _ _ (RfS W s.h a2 s.row [] [] (s.rows + 1) (Pl.line s n).last 0 (s.row ++ [Pl.pix s n]))
    rw [e]
    exact refSample_row s.h n s.one s.row s.rows 0 a1 a2 c1 c2 W S1 S2 l1 l2 hr0 l3 hone h2 h3
def RfF (A1 A2 : Option Addr) (O1 O2 : List Int) (W w : World) (v : Value) (s : Pl.S) : Prop :=
  ∃ a1 c1 a2 c2, v = agR s.h (Pl.nn s) (.slice a1 s.one.length c1) (.slice a2 s.row.length c2) s.rows s.last s.e ∧ SlK .i64 w a1 s.one.length s.one ∧ SlK .u64 w a2 s.row.length s.row ∧ ((a1 = A1 ∧ s.one = O1) ∨ Nw W a1) ∧ ((a2 = A2 ∧ s.row = O2) ∨ Nw W a2)
def RfW (A1 A2 : Option Addr) (O1 O2 : List Int) (w : World) (q : Pl.S × List Int) (e : Ending) (w' : World) : Prop :=
  ∃ v a c, e = .returned (.tuple #[v, .slice a q.2.length c]) ∧ RfF A1 A2 O1 O2 w w' v q.1 ∧ SlK .u64 w' a q.2.length q.2 ∧ Nw w a ∧ Below w.heap.size w w'
theorem rf_same {w w' : World} {s t : Pl.S} {a1 a2 : Option Addr} {c1 c2 : Nat} (S1 : SlK .i64 w a1 s.one.length s.one) (S2 : SlK .u64 w a2 s.row.length s.row) {x : Ending} (N : Int) (rows last e : Int)
    (hx : RpP w (agR s.h N (.slice a1 s.one.length c1) (.slice a2 s.row.length c2) rows last e) x w') (hs : t.h = s.h ∧ Pl.nn t = N ∧ t.one = s.one ∧ t.row = s.row ∧ t.rows = rows ∧ t.last = last ∧ t.e = e) : RfW a1 a2 s.one s.row w (t, []) x w' := by
  obtain ⟨rfl, hb⟩ := hx
  obtain ⟨e1, e2, e3, e4, e5, e6, e7⟩ := hs
  refine ⟨_, none, 0, rfl, ⟨a1, c1, a2, c2, by rw [e1, e2, e3, e4, e5, e6, e7], ?_, ?_, .inl ⟨rfl, e3⟩, .inl ⟨rfl, e4⟩⟩, slk_nil, nw_none _, hb⟩
  · rw [e3]; exact S1.below hb
  · rw [e4]; exact S2.below hb
theorem rf_samp {k : Int} {w w' : World} {s : Pl.S} {a0 a1 : Option Addr} {x : Ending} (hx : RpS w s.h a0 s.row (Pl.sample s k).1.one (Pl.sample s k).1.row (Pl.sample s k).1.rows (Pl.sample s k).1.last 0 (Pl.sample s k).2 x w') : RfW a1 a0 s.one s.row w (Pl.sample s k) x w' := by
  obtain ⟨a1, c1, a2, c2, a, c, rfl, h1, h2, h3, hb, n1, n2, n3⟩ := hx
  have hh := Pl.sample_h s k
  have hd := Pl.sample_d s k
  have he := Pl.sample_e s k
  refine ⟨_, a, c, rfl, ⟨a1, c1, a2, c2, ?_, h1, h2, .inr n1, n2⟩, h3, n3, hb⟩
  rw [hh, he]; unfold Pl.nn; rw [hd]; rfl
theorem refPut_any {s : Pl.S} (hG : Pl.Good s) (c : Int) (c0 : 0 ≤ c) (c1 : c ≤ 255) (w : World) (a1 a2 : Option Addr) (d1 d2 : Nat) (S1 : SlK .i64 w a1 s.one.length s.one) (S2 : SlK .u64 w a2 s.row.length s.row) :
    Calls Tryz.prog 105 #[agR s.h (Pl.nn s) (.slice a1 s.one.length d1) (.slice a2 s.row.length d2) s.rows s.last s.e, .int .u8 c] w (RfW a1 a2 s.one s.row w (Pl.put s c)) := by
  have hm := hG.may.m
  unfold Pl.put
  by_cases h0 : s.last = 0
  · have e0 := hG.e0 (by omega)
    rw [if_neg (by omega), h0, e0]
    have hT : ∀ (W : World) (n : Int), Below w.heap.size w W → Calls Tryz.prog 140 #[agR s.h (-1) (.slice a1 s.one.length d1) (.slice a2 s.row.length d2) s.rows 0 0, .int .i64 n] W (RfS W s.h a2 s.row (Pl.sample s n).1.one (Pl.sample s n).1.row (Pl.sample s n).1.rows (Pl.sample s n).1.last 0 (Pl.sample s n).2) :=
      fun W n hb => refSample_s hG h0 n W a1 a2 d1 d2 (S1.below hb) (S2.below hb)
    cases hb : Tk.blank c with
    | true =>
      rw [if_pos rfl]
      cases hd : s.d with
      | true =>
        rw [if_pos rfl]
        have hn : Pl.nn s = s.n := by unfold Pl.nn; rw [if_pos hd]
        rw [hn]
        refine (rfPut_blankN s.h a1 a2 s.one.length d1 s.row.length d2 s.rows 0 c s.n c0 c1 w hb hG.n0 S2 (fun W hB => hT W s.n hB)).mono ?_
        intro e w' h
        exact rf_samp h
      | false =>
        rw [if_neg (by decide)]
        have hn : Pl.nn s = -1 := by unfold Pl.nn; rw [if_neg (by rw [hd]; decide)]
        rw [hn]
        refine (rfPut_blank0 s.h a1 a2 s.one.length d1 s.row.length d2 s.rows 0 c c0 c1 w hb).mono ?_
        intro e w' h
        exact rf_same S1 S2 _ _ _ _ h ⟨rfl, hn, rfl, rfl, rfl, h0, e0⟩
    | false =>
      rw [if_neg (by decide)]
      by_cases hk : s.h.kd = 1
      · rw [if_pos hk]
        have hd := hG.kd hk
        have hn : Pl.nn s = -1 := by unfold Pl.nn; rw [if_neg (by rw [hd]; decide)]
        rw [hn]
        by_cases hc : c = 48 ∨ c = 49
        · rw [if_pos hc]
          rcases hc with rfl | rfl
          · refine (rfPut_bit48 s.h a1 a2 s.one.length d1 s.row.length d2 s.rows 0 w hk S2 (fun W hB => hT W 0 hB)).mono ?_
            intro e w' h
            exact rf_samp h
          · refine (rfPut_bit49 s.h a1 a2 s.one.length d1 s.row.length d2 s.rows 0 w hk S2 (fun W hB => hT W 1 hB)).mono ?_
            intro e w' h
            exact rf_samp h
        · rw [if_neg hc]
          refine (rfPut_bad s.h a1 a2 s.one.length d1 s.row.length d2 s.rows 0 c c0 c1 w hb hk (by omega) (by omega)).mono ?_
          intro e w' h
          exact rf_same S1 S2 _ _ _ _ h ⟨rfl, hn, rfl, rfl, rfl, rfl, rfl⟩
      · rw [if_neg hk]
        obtain ⟨k, er, hs⟩ : ∃ k er, Nu.stepV s.n c s.h.m = (k, er) := ⟨_, _, rfl⟩
        rw [hs]
        simp only
        cases hd : s.d with
        | false =>
          have hn : Pl.nn s = -1 := by unfold Pl.nn; rw [if_neg (by rw [hd]; decide)]
          have hz := hG.nd hd
          rw [hn]
          rw [hz] at hs
          by_cases he0 : er = 0
          · rw [if_pos he0]
            refine (rfPut_digit0 s.h a1 a2 s.one.length d1 s.row.length d2 s.rows 0 c c0 c1 k er w hb hk (by omega) (by omega) hs he0).mono ?_
            intro e w' h
            exact rf_same S1 S2 _ _ _ _ h ⟨rfl, rfl, rfl, rfl, rfl, rfl, rfl⟩
          · rw [if_neg he0]
            by_cases he4 : er = 4
            · rw [if_pos he4]
              refine (rfPut_range0 s.h a1 a2 s.one.length d1 s.row.length d2 s.rows 0 c c0 c1 k er w hb hk (by omega) (by omega) hs he4).mono ?_
              intro e w' h
              exact rf_same S1 S2 _ _ _ _ h ⟨rfl, hn, rfl, rfl, rfl, rfl, rfl⟩
            · rw [if_neg he4]
              refine (rfPut_none0 s.h a1 a2 s.one.length d1 s.row.length d2 s.rows 0 c c0 c1 k er w hb hk (by omega) (by omega) hs he0 he4).mono ?_
              intro e w' h
              exact rf_same S1 S2 _ _ _ _ h ⟨rfl, hn, rfl, rfl, rfl, rfl, rfl⟩
        | true =>
          have hn : Pl.nn s = s.n := by unfold Pl.nn; rw [if_pos hd]
          rw [hn]
          by_cases he0 : er = 0
          · rw [if_pos he0]
            refine (rfPut_digitN s.h a1 a2 s.one.length d1 s.row.length d2 s.rows 0 c s.n c0 c1 k er w hb hk hG.n0 hG.n1 (by omega) (by omega) hs he0).mono ?_
            intro e w' h
            exact rf_same S1 S2 _ _ _ _ h ⟨rfl, rfl, rfl, rfl, rfl, rfl, rfl⟩
          · rw [if_neg he0]
            by_cases he4 : er = 4
            · rw [if_pos he4]
              refine (rfPut_rangeN s.h a1 a2 s.one.length d1 s.row.length d2 s.rows 0 c s.n c0 c1 k er w hb hk hG.n0 hG.n1 (by omega) (by omega) hs he4).mono ?_
              intro e w' h
              exact rf_same S1 S2 _ _ _ _ h ⟨rfl, hn, rfl, rfl, rfl, rfl, rfl⟩
            · rw [if_neg he4]
              refine (rfPut_noneN s.h a1 a2 s.one.length d1 s.row.length d2 s.rows 0 c s.n c0 c1 k er w hb hk hG.n0 hG.n1 (by omega) (by omega) hs he0 he4).mono ?_
              intro e w' h
              exact rf_same S1 S2 _ _ _ _ h ⟨rfl, hn, rfl, rfl, rfl, rfl, rfl⟩
  · rw [if_pos (by omega)]
    refine (rfPut_done s.h (Pl.nn s) a1 a2 s.one.length d1 s.row.length d2 s.rows s.last s.e c w (by simpa using h0)).mono ?_
    intro e w' h
    exact rf_same S1 S2 _ _ _ _ h ⟨rfl, rfl, rfl, rfl, rfl, rfl, rfl⟩
set_option maxRecDepth 100000 in
set_option maxHeartbeats 2000000 in
theorem rfEb_same (h : Hd.H) (N : Int) (b1 b2 : Option Addr) (n1 d1 n2 d2 : Nat) (rows last e : Int) (w : World) (hc : N < 0 ∨ (¬ N < 0 ∧ (last != 0) = true)) :
    Calls Tryz.prog 142 #[agR h N (.slice b1 n1 d1) (.slice b2 n2 d2) rows last e] w (RpP w (agR h N (.slice b1 n1 d1) (.slice b2 n2 d2) rows last e)) := by
  unfold agR
  rcases hc with h1 | ⟨h1, h2⟩
  · have h1d : decide (N < 0) = true := decide_eq_true h1
    go_enter Tryz.func142, Tryz.ntmps142
    go_wp2
    go_returns
    exact ⟨rfl, by go_grown⟩
  · have h1d : decide (N < 0) = false := decide_eq_false h1
    go_enter Tryz.func142, Tryz.ntmps142
    go_wp2
    go_returns
    exact ⟨rfl, by go_grown⟩
theorem slk_far {q : IntKind} {W0 W w w' : World} {a : Option Addr} {n b : Nat} {l : List Int} (h : SlK q w a n l) (hf : SlK q W0 a n l ∨ Nw W a) (h1 : W0.heap.size ≤ b) (h2 : b < W.heap.size) (hg : w.grownBy w' (some b)) : SlK q w' a n l := by
  rcases hf with hf | hf
  · refine ⟨h.1, ?_⟩
    rcases hf.2 with h0 | ⟨g, o, rfl, hc⟩
    · exact .inl h0
    · rcases h.2 with h0 | ⟨g', o', ha, hc'⟩
      · exact .inl h0
      · cases ha
        refine .inr ⟨g, o, rfl, fun i hi => ?_⟩
        have hlt := block_lt_of_cell (hc i hi)
        exact hg.cell (hc' i hi) (by intro e; injection e with e; have e : g = b := e; omega)
  · exact slk_kept h (far_of hf h2) hg
theorem RfF.far {A1 A2 : Option Addr} {O1 O2 : List Int} {W0 W w w' : World} {v : Value} {s : Pl.S} (h : RfF A1 A2 O1 O2 W w v s) {n1 n2 : Nat} (S1 : SlK .i64 W0 A1 n1 O1) (S2 : SlK .u64 W0 A2 n2 O2) {b : Nat} (h1 : W0.heap.size ≤ b) (h2 : b < W.heap.size) (hg : w.grownBy w' (some b)) : RfF A1 A2 O1 O2 W w' v s := by
  obtain ⟨a1, c1, a2, c2, hv, s1, s2, f1, f2⟩ := h
  refine ⟨a1, c1, a2, c2, hv, slk_far s1 (f1.imp ?_ id) h1 h2 hg, slk_far s2 (f2.imp ?_ id) h1 h2 hg, f1, f2⟩
  · rintro ⟨rfl, e⟩; rw [e]; have := S1.1; rw [this]; exact S1
  · rintro ⟨rfl, e⟩; rw [e]; have := S2.1; rw [this]; exact S2
theorem RfF.mono {A1 A2 : Option Addr} {O1 O2 : List Int} {W W' w : World} {v : Value} {s : Pl.S} (h : RfF A1 A2 O1 O2 W' w v s) (hw : W.heap.size ≤ W'.heap.size) : RfF A1 A2 O1 O2 W w v s := by
  obtain ⟨a1, c1, a2, c2, hv, s1, s2, f1, f2⟩ := h
  exact ⟨a1, c1, a2, c2, hv, s1, s2, f1.imp id (nw_mono hw), f2.imp id (nw_mono hw)⟩
theorem RfF.later {A1 A2 : Option Addr} {O1 O2 : List Int} {W w w' : World} {v : Value} {s : Pl.S} (h : RfF A1 A2 O1 O2 W w v s) (hb : Below w.heap.size w w') : RfF A1 A2 O1 O2 W w' v s := by
  obtain ⟨a1, c1, a2, c2, hv, s1, s2, f1, f2⟩ := h
  exact ⟨a1, c1, a2, c2, hv, s1.below hb, s2.below hb, f1, f2⟩
end Go.Proofs.YtkjkepnailamnaaGreat
namespace Go.Proofs.YtkjkepnailamnaaGreat
open Go.RowKit
set_option linter.unusedVariables false
theorem zero_later {w w2 : World} {o : Obj} (hb : Below ((w.alloc o).alloc (.cells #[.int .i64 0, .int .i64 0, .int .i64 0, .int .i64 0, .int .i64 0, .slice none 0 0, .slice none 0 0, .int .i64 0, .int .i64 0, .int .i64 0] 178)).heap.size ((w.alloc o).alloc (.cells #[.int .i64 0, .int .i64 0, .int .i64 0, .int .i64 0, .int .i64 0, .slice none 0 0, .slice none 0 0, .int .i64 0, .int .i64 0, .int .i64 0] 178)) w2) :
    RbC w2 (w.heap.size + 1) Hd.none 0 (.slice none 0 0) (.slice none 0 0) 0 0 0 ∧ Below w.heap.size w w2 ∧ w.heap.size + 2 ≤ w2.heap.size := by
  have h := (RbC.new (w.alloc o) Hd.none 0 (.slice none 0 0) (.slice none 0 0) 0 0 0).later hb
  rw [World.size_alloc] at h
  refine ⟨h, (((Below.refl _ w).alloc (Nat.le_refl _) _).alloc (by simp) _).trans (hb.mono (by simp; omega)), ?_⟩
  have := hb.size; simp at this; omega
set_option maxRecDepth 100000 in
set_option maxHeartbeats 2000000 in
theorem refEb_any {s : Pl.S} (hG : Pl.Good s) (w : World) (a1 a2 : Option Addr) (d1 d2 : Nat) (S1 : SlK .i64 w a1 s.one.length s.one) (S2 : SlK .u64 w a2 s.row.length s.row) :
    Calls Tryz.prog 142 #[agR s.h (Pl.nn s) (.slice a1 s.one.length d1) (.slice a2 s.row.length d2) s.rows s.last s.e] w (RfW a1 a2 s.one s.row w (Pl.put s 32)) := by
  have hP := fun (W : World) (hb : Below w.heap.size w W) => refPut_any hG 32 (by decide) (by decide) W a1 a2 d1 d2 (S1.below hb) (S2.below hb)
  have hbl : Tk.blank 32 = true := by decide
  by_cases hs : s.d = true ∧ s.last = 0
  · obtain ⟨hd, h0⟩ := hs
    have hn : Pl.nn s = s.n := by unfold Pl.nn; rw [if_pos hd]
    have n0 := hG.n0
    have n0' : ¬ s.n < 0 := by omega
    have n0d : decide (s.n < 0) = false := decide_eq_false n0'
    rw [hn, h0] at hP
    rw [hn, h0]
    obtain ⟨q, hq⟩ : ∃ q, Pl.put s 32 = q := ⟨_, rfl⟩
    rw [hq] at hP ⊢
    have HP := Lib.hid hP
    have HS1 := Lib.hid S1
    have HS2 := Lib.hid S2
    clear hP hq hd h0 hn hbl S1 S2 hG
    unfold agR at HP ⊢
    go_enter Tryz.func142, Tryz.ntmps142
    go_wp2_with fail
    refine (HP.out _ (((Below.refl _ w).alloc (Nat.le_refl _) _).alloc (by simp) _)).mono ?_
    rintro x w2 ⟨v2, a, c, rfl, F, S, NA, hb2⟩
    obtain ⟨hz, hbw, hsz⟩ := zero_later hb2
    have F' := (F.mono (W := w) (by simp; omega))
    have HF := Lib.hid F
    have HS := Lib.hid S
    have HNA := Lib.hid NA
    have HZ2 := Lib.hid hz
    have HBW := Lib.hid hbw
    obtain ⟨b1, e1, b2, e2, rfl, F2⟩ := F
    unfold agR
    clear F2 F' S NA hb2 hz hbw
    obtain ⟨z0, z1, z2, z3, z4, z5, z6, z7, z8, z9⟩ := HZ2.out.cells
    obtain ⟨y0, y1, y2, y3, y4, y5, y6, y7, y8, y9⟩ := HZ2.out.frs
    have HPA := Lib.hid (HZ2.out.putAll q.1.h (Pl.nn q.1) (.slice b1 q.1.one.length e1) (.slice b2 q.1.row.length e2) q.1.rows q.1.last q.1.e)
    go_wp2
    have GP := Lib.hid (RbC.grownAll w2 (w.heap.size + 1) q.1.h (Pl.nn q.1) (.slice b1 q.1.one.length e1) (.slice b2 q.1.row.length e2) q.1.rows q.1.last q.1.e)
    have BP := Lib.hid ((Below.refl (w.heap.size + 1) w2).grown GP.out (by have := HZ2.out.lt; omega) (fun j ej => by cases ej; exact Nat.le_refl _))
    refine bodyPost_ret (ret_cell_tmp Tryz.results142 _ _ _ _ rfl (load_rR HPA.out)) rfl ?_
    exact ⟨_, a, c, rfl, (HF.out.far HS1.out HS2.out (b := w.heap.size + 1) (by omega) (by simp) GP.out).mono (by simp; omega), slk_kept (b := w.heap.size + 1) HS.out (far_of HNA.out (by simp)) GP.out, nw_mono (by simp; omega) HNA.out, HBW.out.trans (BP.out.mono (Nat.le_succ _))⟩
  · have hp : Pl.put s 32 = (s, []) := by
      unfold Pl.put
      by_cases h0 : s.last = 0
      · rw [if_neg (by omega), if_pos hbl, if_neg (fun h => hs ⟨h, h0⟩)]
      · rw [if_pos h0]
    rw [hp]
    refine (rfEb_same s.h (Pl.nn s) a1 a2 s.one.length d1 s.row.length d2 s.rows s.last s.e w ?_).mono ?_
    · unfold Pl.nn
      by_cases hd : s.d = true
      · rw [if_pos hd]
        have h0 : s.last ≠ 0 := fun h => hs ⟨hd, h⟩
        have := hG.n0
        exact .inr ⟨by omega, by simpa using h0⟩
      · rw [if_neg hd]; exact .inl (by decide)
    · intro e w' h
      exact rf_same S1 S2 _ _ _ _ h ⟨rfl, rfl, rfl, rfl, rfl, rfl, rfl⟩
set_option maxRecDepth 100000 in
set_option maxHeartbeats 2000000 in
theorem refEnd_any {s : Pl.S} (hG : Pl.Good s) (w : World) (a1 a2 : Option Addr) (d1 d2 : Nat) (S1 : SlK .i64 w a1 s.one.length s.one) (S2 : SlK .u64 w a2 s.row.length s.row) :
    Calls Tryz.prog 106 #[agR s.h (Pl.nn s) (.slice a1 s.one.length d1) (.slice a2 s.row.length d2) s.rows s.last s.e] w (RfW a1 a2 s.one s.row w (Pl.fin s)) := by
  have hP := fun (W : World) (hb : Below w.heap.size w W) => refEb_any hG W a1 a2 d1 d2 (S1.below hb) (S2.below hb)
  obtain ⟨q, hq⟩ : ∃ q, Pl.put s 32 = q := ⟨_, rfl⟩
  have HS1 := Lib.hid S1
  have HS2 := Lib.hid S2
  by_cases h0 : q.1.last = 0
  · have hf : Pl.fin s = (Pl.wrong q.1 6, q.2) := by unfold Pl.fin; rw [hq, if_pos h0]
    rw [hf]
    rw [hq] at hP
    have HP := Lib.hid hP
    have H0 := Lib.hid h0
    clear hP hq hf S1 S2 hG h0
    unfold agR at HP ⊢
    go_enter Tryz.func106, Tryz.ntmps106
    go_wp2_with fail
    refine (HP.out _ (((Below.refl _ w).alloc (Nat.le_refl _) _).alloc (by simp) _)).mono ?_
    rintro x w2 ⟨v2, a, c, rfl, F, S, NA, hb2⟩
    obtain ⟨hz, hbw, hsz⟩ := zero_later hb2
    have HF := Lib.hid F
    have HS := Lib.hid S
    have HNA := Lib.hid NA
    have HZ2 := Lib.hid hz
    have HBW := Lib.hid hbw
    obtain ⟨b1, e1, b2, e2, rfl, F2⟩ := F
    have HW := Lib.hid (refWrong_any q.1.h (Pl.nn q.1) b1 b2 q.1.one.length e1 q.1.row.length e2 q.1.rows q.1.last q.1.e 6)
    rw [H0.out] at HW
    unfold agR at HW ⊢
    rw [H0.out]
    clear F2 S NA hb2 hz hbw
    go_wp2_with fail
    refine (HW.out _).mono ?_
    rintro x w3 ⟨rfl, hb3⟩
    have HBx := Lib.hid (((Below.refl _ w2).alloc (Nat.le_refl _) _).trans (hb3.mono (by simp)))
    have HZ3 := Lib.hid (HZ2.out.later HBx.out)
    clear hb3
    obtain ⟨z0, z1, z2, z3, z4, z5, z6, z7, z8, z9⟩ := HZ3.out.cells
    obtain ⟨y0, y1, y2, y3, y4, y5, y6, y7, y8, y9⟩ := HZ3.out.frs
    have HPA := Lib.hid (HZ3.out.putAll q.1.h (Pl.nn q.1) (.slice b1 q.1.one.length e1) (.slice b2 q.1.row.length e2) q.1.rows 2 6)
    go_wp2
    have GP := Lib.hid (RbC.grownAll w3 (w.heap.size + 1) q.1.h (Pl.nn q.1) (.slice b1 q.1.one.length e1) (.slice b2 q.1.row.length e2) q.1.rows 2 6)
    have BP := Lib.hid ((Below.refl (w.heap.size + 1) w3).grown GP.out (by have := HZ3.out.lt; omega) (fun j ej => by cases ej; exact Nat.le_refl _))
    refine bodyPost_ret (ret_cell_tmp Tryz.results106 _ _ _ _ rfl (load_rR HPA.out)) rfl ?_
    have HFB := (((HF.out.later HBx.out).far HS1.out HS2.out (b := w.heap.size + 1) (by omega) (by simp) GP.out).mono (W := w) (by simp; omega))
    refine ⟨_, a, c, rfl, ?_, slk_kept (b := w.heap.size + 1) (HS.out.below HBx.out) (far_of HNA.out (by simp)) GP.out, nw_mono (by simp; omega) HNA.out, (HBW.out.trans (HBx.out.mono HBW.out.size)).trans (BP.out.mono (Nat.le_succ _))⟩
    obtain ⟨b3, e3, b4, e4, hv, g1, g2, g3, g4⟩ := HFB
    unfold agR at hv
    cases hv
    exact ⟨_, _, _, _, rfl, g1, g2, g3, g4⟩
  · have hf : Pl.fin s = q := by unfold Pl.fin; rw [hq, if_neg h0]
    rw [hf]
    rw [hq] at hP
    obtain ⟨t, ht⟩ : ∃ t, q.1.last = t := ⟨_, rfl⟩
    have htb : (t == 0) = false := by rw [← ht]; simpa using h0
    have HP := Lib.hid hP
    have HT := Lib.hid ht
    clear hP hq hf S1 S2 hG h0 ht
    unfold agR at HP ⊢
    go_enter Tryz.func106, Tryz.ntmps106
    go_wp2_with fail
    refine (HP.out _ (((Below.refl _ w).alloc (Nat.le_refl _) _).alloc (by simp) _)).mono ?_
    rintro x w2 ⟨v2, a, c, rfl, F, S, NA, hb2⟩
    obtain ⟨hz, hbw, hsz⟩ := zero_later hb2
    have HF := Lib.hid F
    have HS := Lib.hid S
    have HNA := Lib.hid NA
    have HZ2 := Lib.hid hz
    have HBW := Lib.hid hbw
    obtain ⟨b1, e1, b2, e2, rfl, F2⟩ := F
    unfold agR
    rw [HT.out]
    clear F2 S NA hb2 hz hbw
    go_upto_region 2 with fail
    generalize hW : w2.alloc (.cells #[.int .i64 q.1.h.kd, .int .i64 q.1.h.w, .int .i64 q.1.h.h, .int .i64 q.1.h.m, .int .i64 (Pl.nn q.1), .slice b1 q.1.one.length e1, .slice b2 q.1.row.length e2, .int .i64 q.1.rows, .int .i64 t, .int .i64 q.1.e] 178) = w5
    have HBx : Hid (Below w2.heap.size w2 w5) := by show Below _ _ _; rw [← hW]; exact box1' _ _
    have HB5 : Hid (RbC w5 w2.heap.size q.1.h (Pl.nn q.1) (.slice b1 q.1.one.length e1) (.slice b2 q.1.row.length e2) q.1.rows t q.1.e) := by show RbC _ _ _ _ _ _ _ _ _; rw [← hW]; exact RbC.new w2 _ _ _ _ _ _ _
    have HZ5 := Lib.hid (HZ2.out.later HBx.out)
    obtain ⟨x0, x1, x2, x3, x4, x5, x6, x7, x8, x9⟩ := HB5.out.cells
    clear hW HZ2 hsz
    obtain ⟨z0, z1, z2, z3, z4, z5, z6, z7, z8, z9⟩ := HZ5.out.cells
    obtain ⟨y0, y1, y2, y3, y4, y5, y6, y7, y8, y9⟩ := HZ5.out.frs
    have HPA := Lib.hid (HZ5.out.putAll q.1.h (Pl.nn q.1) (.slice b1 q.1.one.length e1) (.slice b2 q.1.row.length e2) q.1.rows t q.1.e)
    go_wp2
    have GP := Lib.hid (RbC.grownAll w5 (w.heap.size + 1) q.1.h (Pl.nn q.1) (.slice b1 q.1.one.length e1) (.slice b2 q.1.row.length e2) q.1.rows t q.1.e)
    have BP := Lib.hid ((Below.refl (w.heap.size + 1) w5).grown GP.out (by have := HZ5.out.lt; omega) (fun j ej => by cases ej; exact Nat.le_refl _))
    refine bodyPost_ret (ret_cell_tmp Tryz.results106 _ _ _ _ rfl (load_rR HPA.out)) rfl ?_
    have HFB := (((HF.out.later HBx.out).far HS1.out HS2.out (b := w.heap.size + 1) (by omega) (by simp) GP.out).mono (W := w) (by simp; omega))
    refine ⟨_, a, c, rfl, ?_, slk_kept (b := w.heap.size + 1) (HS.out.below HBx.out) (far_of HNA.out (by simp)) GP.out, nw_mono (by simp; omega) HNA.out, (HBW.out.trans (HBx.out.mono HBW.out.size)).trans (BP.out.mono (Nat.le_succ _))⟩
    unfold agR at HFB
    rw [HT.out] at HFB
    exact HFB
end Go.Proofs.YtkjkepnailamnaaGreat
namespace Go.Proofs.YtkjkepnailamnaaGreat
open Go.RowKit
set_option linter.unusedVariables false
def SlF (q : IntKind) (w : World) (a : Option Addr) (n : Nat) (l : List Int) (k : Nat) (v : Value) : Prop :=
  l.length = n ∧ (n = 0 ∨ ∃ g o, a = some ⟨g, o, none⟩ ∧ g ≠ k ∧ v.ownBlock ≠ some g ∧ ∀ i, i < n → w.cell? ⟨g, o + i, none⟩ = some (.int q (l.getD i 0)))
theorem SlF.sl {q : IntKind} {w : World} {a : Option Addr} {n k : Nat} {l : List Int} {v : Value} (h : SlF q w a n l k v) : SlK q w a n l := by
  refine ⟨h.1, ?_⟩
  rcases h.2 with h | ⟨g, o, ha, _, _, hc⟩
  · exact .inl h
  · exact .inr ⟨g, o, ha, hc⟩
theorem slf_nil {q : IntKind} {w : World} {a : Option Addr} {k : Nat} {v : Value} : SlF q w a ([] : List Int).length [] k v := ⟨rfl, .inl rfl⟩
theorem SlF.put {q : IntKind} {w w' : World} {a : Option Addr} {n k : Nat} {l : List Int} {v : Value} (h : SlF q w a n l k v) (hg : w.grownBy w' (some k)) : SlF q w' a n l k v := by
  refine ⟨h.1, ?_⟩
  rcases h.2 with h | ⟨g, o, ha, h1, h2, hc⟩
  · exact .inl h
  · exact .inr ⟨g, o, ha, h1, h2, fun i hi => hg.cell (hc i hi) (by intro e; injection e with e; exact h1 e)⟩
theorem SlF.app {q : IntKind} {w w' : World} {a : Option Addr} {n k : Nat} {l : List Int} {v v' : Value} (h : SlF q w a n l k v) (hg : w.grownBy w' v.ownBlock) (hat : v'.ownBlock = v.ownBlock ∨ v'.ownBlock = some w.heap.size) : SlF q w' a n l k v' := by
  refine ⟨h.1, ?_⟩
  by_cases hn : n = 0
  · exact .inl hn
  rcases h.2 with h | ⟨g, o, ha, h1, h2, hc⟩
  · exact .inl h
  · refine .inr ⟨g, o, ha, h1, ?_, fun i hi => hg.cell (hc i hi) (fun e => h2 e.symm)⟩
    rcases hat with e | e
    · rw [e]; exact h2
    · rw [e]; intro e2; injection e2 with e2
      have h3 : g < w.heap.size := block_lt_of_cell (hc 0 (by omega))
      omega
theorem SlF.of {q : IntKind} {wr w : World} {a A : Option Addr} {n m k : Nat} {l O : List Int} {v : Value} (h : SlK q w a n l) (hf : (a = A ∧ l = O) ∨ Nw wr a) (hA : SlF q wr A m O k v) (hk : k < wr.heap.size) (hv : ∀ j, v.ownBlock = some j → j < wr.heap.size) : SlF q w a n l k v := by
  refine ⟨h.1, ?_⟩
  rcases h.2 with h0 | ⟨g, o, ha, hc⟩
  · exact .inl h0
  · by_cases hn : n = 0
    · exact .inl hn
    refine .inr ⟨g, o, ha, ?_, ?_, hc⟩
    · rcases hf with ⟨rfl, rfl⟩ | hf
      · rcases hA.2 with h0 | ⟨g', o', ha', h1, h2, _⟩
        · exact absurd (h.1.symm.trans (hA.1.trans h0)) hn
        · rw [ha] at ha'; cases ha'; exact h1
      · have h3 : wr.heap.size ≤ g := hf _ ha
        intro e; have e4 : g = k := e; omega
    · rcases hf with ⟨rfl, rfl⟩ | hf
      · rcases hA.2 with h0 | ⟨g', o', ha', h1, h2, _⟩
        · exact absurd (h.1.symm.trans (hA.1.trans h0)) hn
        · rw [ha] at ha'; cases ha'; exact h2
      · intro e; have h1 := hv g e; have h2 : wr.heap.size ≤ g := hf _ ha; omega
theorem bel_drewN' {B : Nat} {a w : World} (h : Below B a w) (n : Nat) : Below B a (w.drewN n) := ⟨h.os, h.tape, h.output, h.size, h.block⟩
theorem RbC.drew' {w : World} {b : Nat} {h : Hd.H} {N : Int} {v1 v2 : Value} {rows last e : Int} (H : RbC w b h N v1 v2 rows last e) : RbC w.drew b h N v1 v2 rows last e := H
def QF (A1 A2 : Option Addr) (O1 O2 : List Int) (q : Pl.S × List Int) (W w : World) (b1 b2 a : Option Addr) : Prop :=
  SlK .i64 w b1 q.1.one.length q.1.one ∧ SlK .u64 w b2 q.1.row.length q.1.row ∧ SlK .u64 w a q.2.length q.2 ∧ ((b1 = A1 ∧ q.1.one = O1) ∨ Nw W b1) ∧ ((b2 = A2 ∧ q.1.row = O2) ∨ Nw W b2) ∧ Nw W a
def RoundR (A1 A2 : Option Addr) (O1 O2 : List Int) (q : Pl.S × List Int) (wr : World) (m1 m2 m : Nat) (h2 : Hd.H) (N2 rows2 last2 er2 : Int) (s11 s12 : Value) (wx : World) : Prop :=
  ∃ na b1 e1 b2 e2 a c, s11 = .pointer (some ⟨na, 0, none⟩) ∧ s12 = .slice a m c ∧ RbC wx na h2 N2 (.slice b1 m1 e1) (.slice b2 m2 e2) rows2 last2 er2 ∧ wr.heap.size ≤ na ∧ Below wr.heap.size wr wx ∧ QF A1 A2 O1 O2 q wr wx b1 b2 a
section
variable {A1 A2 : Option Addr} {O1 O2 : List Int} {q : Pl.S × List Int} {wr W w9 : World} {m1 m2 m : Nat} {h2 : Hd.H} {N2 rows2 last2 er2 : Int} {b1 b2 a : Option Addr} {e1 e2 c : Nat}
theorem round1 (hW : wr.heap.size < W.heap.size) {n1 n2 : Nat} (S1 : SlK .i64 wr A1 n1 O1) (S2 : SlK .u64 wr A2 n2 O2) (hQ : QF A1 A2 O1 O2 q W w9 b1 b2 a) (hZ : RbC w9 wr.heap.size Hd.none 0 (.slice none 0 0) (.slice none 0 0) 0 0 0) (hB : Below wr.heap.size wr w9) :
    RoundR A1 A2 O1 O2 q wr m1 m2 m h2 N2 rows2 last2 er2 (.pointer (some ⟨wr.heap.size, 0, none⟩)) (.slice a m c) ((((((((((w9.setCell ⟨wr.heap.size, 0, none⟩ (.int .i64 h2.kd)).setCell ⟨wr.heap.size, 1, none⟩ (.int .i64 h2.w)).setCell ⟨wr.heap.size, 2, none⟩ (.int .i64 h2.h)).setCell ⟨wr.heap.size, 3, none⟩ (.int .i64 h2.m)).setCell ⟨wr.heap.size, 4, none⟩ (.int .i64 N2)).setCell ⟨wr.heap.size, 5, none⟩ (.slice b1 m1 e1)).setCell ⟨wr.heap.size, 6, none⟩ (.slice b2 m2 e2)).setCell ⟨wr.heap.size, 7, none⟩ (.int .i64 rows2)).setCell ⟨wr.heap.size, 8, none⟩ (.int .i64 last2)).setCell ⟨wr.heap.size, 9, none⟩ (.int .i64 er2)) := by
  obtain ⟨q1, q2, q3, f1, f2, f3⟩ := hQ
  have GP := RbC.grownAll w9 wr.heap.size h2 N2 (.slice b1 m1 e1) (.slice b2 m2 e2) rows2 last2 er2
  refine ⟨_, b1, e1, b2, e2, a, c, rfl, rfl, hZ.putAll h2 N2 _ _ rows2 last2 er2, Nat.le_refl _, hB.grown GP hB.size (fun j ej => by cases ej; exact Nat.le_refl _), slk_far (W0 := wr) q1 (f1.imp ?_ id) (Nat.le_refl _) hW GP, slk_far (W0 := wr) q2 (f2.imp ?_ id) (Nat.le_refl _) hW GP, slk_kept q3 (far_of f3 hW) GP, f1.imp id (nw_mono (Nat.le_of_lt hW)), f2.imp id (nw_mono (Nat.le_of_lt hW)), nw_mono (Nat.le_of_lt hW) f3⟩
  · rintro ⟨rfl, e⟩; rw [e, S1.1]; exact S1
  · rintro ⟨rfl, e⟩; rw [e, S2.1]; exact S2
theorem round2 (hW : wr.heap.size ≤ W.heap.size) (hQ : QF A1 A2 O1 O2 q W w9 b1 b2 a) (hB : Below wr.heap.size wr w9) :
    RoundR A1 A2 O1 O2 q wr m1 m2 m h2 N2 rows2 last2 er2 (.pointer (some ⟨w9.heap.size, 0, none⟩)) (.slice a m c) (w9.alloc (.cells #[.int .i64 h2.kd, .int .i64 h2.w, .int .i64 h2.h, .int .i64 h2.m, .int .i64 N2, .slice b1 m1 e1, .slice b2 m2 e2, .int .i64 rows2, .int .i64 last2, .int .i64 er2] 178)) := by
  obtain ⟨q1, q2, q3, f1, f2, f3⟩ := hQ
  have hb := box1' w9 (.cells #[.int .i64 h2.kd, .int .i64 h2.w, .int .i64 h2.h, .int .i64 h2.m, .int .i64 N2, .slice b1 m1 e1, .slice b2 m2 e2, .int .i64 rows2, .int .i64 last2, .int .i64 er2] 178)
  exact ⟨_, b1, e1, b2, e2, a, c, rfl, rfl, RbC.new w9 h2 N2 _ _ rows2 last2 er2, hB.size, hB.trans (hb.mono hB.size), q1.below hb, q2.below hb, q3.below hb, f1.imp id (nw_mono hW), f2.imp id (nw_mono hW), nw_mono hW f3⟩
end
set_option maxRecDepth 100000 in
set_option maxHeartbeats 8000000 in
theorem refPlRead_any (s : ByteArray) (hsz : s.size ≤ 100000) (h : Hd.H) (hf : Hj.Fit h) (w : World) :
    Calls Tryz.prog 61 #[.string s, agH h] w (RdR (Pl.readV h (bytesOf s)) w) := by
  have HM := Lib.hid (refPlMay_any h hf)
  by_cases hm : Pl.May h
  · simp only [decide_eq_true hm] at HM
    have HN := Lib.hid (refPlNew_any h)
    obtain ⟨t0, ht0⟩ : ∃ t, Pl.readV h (bytesOf s) = t := ⟨_, rfl⟩
    have HV0 : Hid (t0 = Pl.readF (Pl.new h) 0 [] (bytesOf s)) := by show _ = _; rw [← ht0]; exact if_pos hm
    have HG0 := Lib.hid (Pl.good_new hm)
    rw [ht0]
    obtain ⟨p0, pi, pz0, pz1, pz2⟩ : ∃ i, Tryz.prog.info? 55 = some i ∧ i.zero = some (.int .u64 0) ∧ i.size = 1 ∧ i.bytes = 8 := (by have h := Tryz.info_px8; cases hh : Tryz.prog.info? 55 with | none => rw [hh] at h; cases h | some i => rw [hh] at h; simp at h; exact ⟨i, rfl, h.1, h.2.1, h.2.2⟩)
    clear ht0 hf hm
    unfold agR agH at HN
    unfold agH at HM ⊢
    go_enter Tryz.func61, Tryz.ntmps61
    go_wp2_with fail
    refine (HM.out _).mono ?_
    rintro e w1 ⟨rfl, hb1⟩
    have HB1 := Lib.hid (((Below.refl _ w).alloc (Nat.le_refl _) _).trans (hb1.mono (by simp)))
    obtain ⟨n0, n1, n2, n3⟩ := ((Hb.new w 112 h).later hb1).cells
    clear hb1
    go_wp2_with fail
    refine (HN.out _).mono ?_
    rintro e w2 ⟨rfl, hb2⟩
    have HB2 := Lib.hid (HB1.out.trans (hb2.mono HB1.out.size))
    clear n0 n1 n2 n3 hb2
    go_upto_region 5 with fail
    generalize hW : w2.alloc (.cells #[.int .i64 h.kd, .int .i64 h.w, .int .i64 h.h, .int .i64 h.m, .int .i64 (-1), .slice none 0 0, .slice none 0 0, .int .i64 0, .int .i64 0, .int .i64 0] 178) = w3
    have HK3 : Hid (RbC w3 w2.heap.size h (-1) (.slice none 0 0) (.slice none 0 0) 0 0 0) := by show RbC _ _ _ _ _ _ _ _ _; rw [← hW]; exact RbC.new w2 _ _ _ _ _ _ _
    have HB3 : Hid (Below w.heap.size w w3) := by show Below _ _ _; rw [← hW]; exact HB2.out.alloc HB2.out.size _
    have HWK : Hid (w.heap.size ≤ w2.heap.size) := Lib.hid HB2.out.size
    clear hW HB1 HB2 HN HM
    obtain ⟨k, hk⟩ : ∃ k, w2.heap.size = k := ⟨_, rfl⟩
    rw [hk] at HK3 HWK ⊢
    clear hk
    go_wp2_with fail
    go_loopw [9, 10] (fun u9 u10 wr => ∃ (i : Nat) (st : Pl.S) (acc : List Int) (v : Value) (a1 a2 : Option Addr) (d1 d2 : Nat), i ≤ s.size ∧ u10 = .int .i64 i ∧ v = u9 ∧ RbC wr k st.h (Pl.nn st) (.slice a1 st.one.length d1) (.slice a2 st.row.length d2) st.rows st.last st.e ∧ SlF .i64 wr a1 st.one.length st.one k v ∧ SlF .u64 wr a2 st.row.length st.row k v ∧ Pl.Good st ∧ st.last = 0 ∧ wr.ownsRow (k + 1) 55 1 v acc.length (pixs acc) ∧ acc.length + st.row.length ≤ i ∧ Below w.heap.size w wr ∧ t0 = Pl.readF st i acc ((bytesOf s).drop i)) (fun _ u10 _ => s.size - (intOf u10).toNat)
    case atStart => exact ⟨0, Pl.new h, [], _, none, none, 0, 0, Nat.zero_le _, rfl, rfl, HK3.out, slf_nil, slf_nil, HG0.out, rfl, World.ownsRow_nil _ _ _ _, Nat.le_refl _, HB3.out, HV0.out⟩
    case round =>
      obtain ⟨i, st, acc, v, A1, A2, d1, d2, hi1, rfl, rfl, hK, hS1, hS2, hG, h0, hrow, hgr, hB, hV⟩ := hrel
      have e0 := hG.e0 (by omega)
      have e0' : st.last = 0 := h0
      have e00 : st.e = 0 := e0
      rw [h0, e0] at hK
      have HS1 := Lib.hid hS1
      have HS2 := Lib.hid hS2
      have HB := Lib.hid hB
      have HG := Lib.hid hG
      have HKK := Lib.hid hK.lt
      obtain ⟨n, hn⟩ : ∃ n, acc.length = n := ⟨_, rfl⟩
      have HNL := Lib.hid hn
      rw [hn] at hgr hrow
      have HROW := Lib.hid hrow
      have hn9 : n ≤ 100000 := by omega
      have HGR := Lib.hid hgr
      obtain ⟨hh, hhh⟩ : ∃ hh, st.h = hh := ⟨_, rfl⟩
      obtain ⟨N, hN⟩ : ∃ N, Pl.nn st = N := ⟨_, rfl⟩
      obtain ⟨n1, hn1⟩ : ∃ n1, st.one.length = n1 := ⟨_, rfl⟩
      obtain ⟨n2, hn2⟩ : ∃ n2, st.row.length = n2 := ⟨_, rfl⟩
      obtain ⟨rows, hrows⟩ : ∃ rows, st.rows = rows := ⟨_, rfl⟩
      rw [hhh, hN, hn1, hn2, hrows] at hK
      have HK := Lib.hid hK
      have hkl : k < wr.heap.size := hK.lt
      obtain ⟨o0, o1, o2, o3, o4, o5, o6, o7, o8, o9⟩ := hK.cells
      obtain ⟨g0, g1, g2, g3, g4, g5, g6, g7, g8, g9⟩ := hK.frs
      have hBt : Below wr.heap.size wr wr := .refl _ _
      clear hrow hB h0 hn hK hS1 hS2 HK3 HB3 HG0 HV0
      by_cases hlt : i < s.size
      · rw [bytesOf_drop s i hlt] at hV
        have c0 : (0 : Int) ≤ (s[i].toNat : Int) := by omega
        have c1 : (s[i].toNat : Int) ≤ 255 := by have := s[i].toNat_lt; omega
        have hg' := Pl.put_grow st (s[i].toNat : Int)
        have hGq := Pl.good_put hG (s[i].toNat : Int)
        have hGl := hGq.last
        have hPP := fun (W : World) (hb : Below wr.heap.size wr W) => refPut_any HG.out (s[i].toNat : Int) c0 c1 W A1 A2 d1 d2 (HS1.out.sl.below hb) (HS2.out.sl.below hb)
        obtain ⟨q, hq⟩ : ∃ q, Pl.put st (s[i].toNat : Int) = q := ⟨_, rfl⟩
        rw [hq] at hPP hg' hGq hGl
        obtain ⟨m, hm⟩ : ∃ m, q.2.length = m := ⟨_, rfl⟩
        obtain ⟨h2, hh2⟩ : ∃ h2, q.1.h = h2 := ⟨_, rfl⟩
        obtain ⟨N2, hN2⟩ : ∃ N, Pl.nn q.1 = N := ⟨_, rfl⟩
        obtain ⟨m1, hm1⟩ : ∃ n1, q.1.one.length = n1 := ⟨_, rfl⟩
        obtain ⟨m2, hm2⟩ : ∃ n2, q.1.row.length = n2 := ⟨_, rfl⟩
        obtain ⟨rows2, hrows2⟩ : ∃ rows, q.1.rows = rows := ⟨_, rfl⟩
        obtain ⟨last2, hlast2⟩ : ∃ l, q.1.last = l := ⟨_, rfl⟩
        obtain ⟨er2, her2⟩ : ∃ e, q.1.e = e := ⟨_, rfl⟩
        have HEQ := Lib.hid (show q.1.h = h2 ∧ Pl.nn q.1 = N2 ∧ q.1.one.length = m1 ∧ q.1.row.length = m2 ∧ q.1.rows = rows2 ∧ q.1.last = last2 ∧ q.1.e = er2 from ⟨hh2, hN2, hm1, hm2, hrows2, hlast2, her2⟩)
        have hml : m ≤ 100001 := by omega
        have HML := Lib.hid hm
        have HQG := Lib.hid hg'
        have HGQ := Lib.hid hGq
        have HQ := Lib.hid hq
        have HGL := Lib.hid hGl
        have HPC : Hid (∀ W, Below wr.heap.size wr W → Calls Tryz.prog 105 #[.agg #[.int .i64 hh.kd, .int .i64 hh.w, .int .i64 hh.h, .int .i64 hh.m, .int .i64 N, .slice A1 n1 d1, .slice A2 n2 d2, .int .i64 rows, .int .i64 0, .int .i64 0], .int .u8 (s[i].toNat : Int)] W fun e w' => ∃ b1 e1 b2 e2 a c, e = .returned (.tuple #[.agg #[.int .i64 h2.kd, .int .i64 h2.w, .int .i64 h2.h, .int .i64 h2.m, .int .i64 N2, .slice b1 m1 e1, .slice b2 m2 e2, .int .i64 rows2, .int .i64 last2, .int .i64 er2], .slice a m c]) ∧ QF A1 A2 st.one st.row q W w' b1 b2 a ∧ Below W.heap.size W w') := Lib.hid fun W hb => by
          have hP := hPP W hb
          unfold agR at hP
          rw [hhh, hN, hn1, hn2, hrows, e0', e00] at hP
          refine hP.mono ?_
          rintro e w' ⟨v2, a, c, rfl, ⟨b1, e1, b2, e2, rfl, q1, q2, f1, f2⟩, q3, f3, hb'⟩
          refine ⟨b1, e1, b2, e2, a, c, ?_, ⟨q1, q2, q3, f1, f2, f3⟩, hb'⟩
          unfold agR
          rw [hm, hh2, hN2, hm1, hm2, hrows2, hlast2, her2]
        clear hPP hg' hGq hGl hq hm hh2 hN2 hm1 hm2 hrows2 hlast2 her2 hhh hN hn1 hn2 hrows hG hgr
        go_wp2_with fail
        go_cut [11, 12] (fun s11 s12 wx => RoundR A1 A2 st.one st.row q wr m1 m2 m h2 N2 rows2 last2 er2 s11 s12 wx)
        case first =>
          go_region_held3 (fun w' => w'.cell? ⟨k, 0, none⟩ = some (.int .i64 hh.kd) ∧ w'.cell? ⟨k, 1, none⟩ = some (.int .i64 hh.w) ∧ w'.cell? ⟨k, 2, none⟩ = some (.int .i64 hh.h) ∧ w'.cell? ⟨k, 3, none⟩ = some (.int .i64 hh.m) ∧ w'.cell? ⟨k, 4, none⟩ = some (.int .i64 N) ∧ w'.cell? ⟨k, 5, none⟩ = some (.slice A1 n1 d1) ∧ w'.cell? ⟨k, 6, none⟩ = some (.slice A2 n2 d2) ∧ w'.cell? ⟨k, 7, none⟩ = some (.int .i64 rows) ∧ w'.cell? ⟨k, 8, none⟩ = some (.int .i64 0) ∧ w'.cell? ⟨k, 9, none⟩ = some (.int .i64 0))
            (first | (with_reducible exact ⟨o0, o1, o2, o3, o4, o5, o6, o7, o8, o9⟩) | exact RbC.cells (RbC.later HK.out (by repeat' (first | (with_reducible first | exact hBt | refine Below.alloc ?_ ?_ _ | refine Below.drew ?_ | refine below_drewN ?_ _ | refine Below.setCell ?_ ?_ _) | exact hBt.size | (have := hBt.size; first | omega | (simp; done) | (simp; omega))))))
            (first
              | (go_at_call 105; refine (HPC.out _ (by repeat' (first | (with_reducible first | exact hBt | refine Below.alloc ?_ ?_ _ | refine Below.drew ?_ | refine below_drewN ?_ _ | refine Below.setCell ?_ ?_ _) | exact hBt.size | (have := hBt.size; first | omega | (simp; done) | (simp; omega))))).mono ?_; rintro e w9 ⟨b1, e1, b2, e2, a, c, rfl, hQF, hb9⟩; have HQF := Lib.hid hQF; replace hBt := bel_step (w := wr) (by repeat' (first | (with_reducible first | exact hBt | refine Below.alloc ?_ ?_ _ | refine Below.drew ?_ | refine below_drewN ?_ _ | refine Below.setCell ?_ ?_ _) | exact hBt.size | (have := hBt.size; first | omega | (simp; done) | (simp; omega)))) hb9; clear hQF; (try ((first | (with_reducible have hNB := RbC.later (RbC.new _ Hd.none 0 (.slice none 0 0) (.slice none 0 0) 0 0 0) hb9) | (with_reducible have hNB := RbC.later (RbC.drew' (RbC.new _ Hd.none 0 (.slice none 0 0) (.slice none 0 0) 0 0 0)) hb9)); (try simp only [World.size_drew, size_drewN'] at hNB))); (try (obtain ⟨z0, z1, z2, z3, z4, z5, z6, z7, z8, z9⟩ := hNB.cells)); (try (obtain ⟨y0, y1, y2, y3, y4, y5, y6, y7, y8, y9⟩ := hNB.frs))))
          all_goals
            go_wp2_with fail
            go_meet
            case rel =>
              first
                | (with_reducible exact round1 (by simp) HS1.out.sl HS2.out.sl HQF.out hNB hBt)
                | (with_reducible exact round2 (by simp) HQF.out hBt)
        case rest =>
          obtain ⟨na, b1, e1, b2, e2, a, c, rfl, rfl, hRC, hna, hBx, hQF⟩ := hcut
          have hKc := HK.out.later hBx
          have hvl : ∀ j, v.ownBlock = some j → j < wr.heap.size := fun j hj => (HROW.out.lt j hj).2
          have SF1 := SlF.of hQF.1 hQF.2.2.2.1 HS1.out hkl hvl
          have SF2 := SlF.of hQF.2.1 hQF.2.2.2.2.1 HS2.out hkl hvl
          have SA := SlF.of (A := A2) (O := st.row) (m := st.row.length) hQF.2.2.1 (.inr hQF.2.2.2.2.2) HS2.out hkl hvl
          have hRW := below_row HROW.out hBx
          have hBw := HB.out.trans (hBx.mono HB.out.size)
          obtain ⟨p0', p1, p2, p3, p4, p5, p6, p7, p8, p9⟩ := hRC.cells
          obtain ⟨o0, o1, o2, o3, o4, o5, o6, o7, o8, o9⟩ := hKc.cells
          obtain ⟨g0, g1, g2, g3, g4, g5, g6, g7, g8, g9⟩ := hKc.frs
          have HKc := Lib.hid hKc
          have HSF1 := Lib.hid SF1
          have HSF2 := Lib.hid SF2
          have HSA := Lib.hid SA
          have HRW := Lib.hid hRW
          have HBW := Lib.hid hBw
          clear hRC hna hBx hQF hKc hvl SF1 SF2 SA hRW hBw hBt HPC
          go_upto_region 11 with fail
          generalize hW : ((((((((((wc.setCell ⟨k, 0, none⟩ (.int .i64 h2.kd)).setCell ⟨k, 1, none⟩ (.int .i64 h2.w)).setCell ⟨k, 2, none⟩ (.int .i64 h2.h)).setCell ⟨k, 3, none⟩ (.int .i64 h2.m)).setCell ⟨k, 4, none⟩ (.int .i64 N2)).setCell ⟨k, 5, none⟩ (.slice b1 m1 e1)).setCell ⟨k, 6, none⟩ (.slice b2 m2 e2)).setCell ⟨k, 7, none⟩ (.int .i64 rows2)).setCell ⟨k, 8, none⟩ (.int .i64 last2)).setCell ⟨k, 9, none⟩ (.int .i64 er2)) = w4
          have HK4 : Hid (RbC w4 k h2 N2 (.slice b1 m1 e1) (.slice b2 m2 e2) rows2 last2 er2) := by show RbC _ _ _ _ _ _ _ _ _; rw [← hW]; exact HKc.out.putAll h2 N2 _ _ rows2 last2 er2
          have HG4 : Hid (wc.grownBy w4 (some k)) := by show World.grownBy _ _ _; rw [← hW]; exact RbC.grownAll wc k h2 N2 (.slice b1 m1 e1) (.slice b2 m2 e2) rows2 last2 er2
          have SF14 := Lib.hid (HSF1.out.put HG4.out)
          have SF24 := Lib.hid (HSF2.out.put HG4.out)
          have SA4 : Hid (SlK .u64 w4 a m q.2) := Lib.hid (by have h := (HSA.out.put HG4.out).sl; rw [HML.out] at h; exact h)
          have HR4 := Lib.hid (HRW.out.kept HG4.out (.inr fun e => by have := (HRW.out.lt k e).1; omega))
          have HB4 := Lib.hid (HBW.out.grown HG4.out HBW.out.size (fun j ej => by cases ej; exact HWK.out))
          clear hW p0' p1 p2 p3 p4 p5 p6 p7 p8 p9 o0 o1 o2 o3 o4 o5 o6 o7 o8 o9 g0 g1 g2 g3 g4 g5 g6 g7 g8 g9 HKc HSF1 HSF2 HSA HRW HBW
          have hl2 : last2 = 0 ∨ last2 = 1 ∨ last2 = 2 := by have := HGL.out; rw [HEQ.out.2.2.2.2.2.1] at this; exact this
          have hii : (i : Int) + 1 ≤ 9223372036854775807 := by omega
          rcases hl2 with h1 | h1 | h1
          · have HV2 : Hid (t0 = Pl.readF q.1 (i + 1) (acc ++ q.2) ((bytesOf s).drop (i + 1))) := by show _ = _; rw [hV, Pl.readF_more HQ.out (HEQ.out.2.2.2.2.2.1.trans h1)]
            subst h1
            clear hV
            go_wp2_with (at_builtin; refine wpList_app rfl _ _ 30 rfl (k + 1) 55 p0 .u64 8 Tryz.underlying30 pi pz0 pz1 pz2 v n (pixs acc) rfl HR4.out a m c q.2 rfl SA4.out (by unfold maxLen; omega) (by omega) HK4.out.lt ?_; intro v3 w5 hown hgrow hat; have HO5 := Lib.hid hown; have HK5 := Lib.hid (HK4.out.kept hgrow (fun e => by have := (HR4.out.lt k e.symm).1; omega)); have HB5 := Lib.hid (HB4.out.grown hgrow HB4.out.size (fun j ej => by have := (HR4.out.lt j ej).1; have := HWK.out; omega)); have SF15 := Lib.hid (SF14.out.app hgrow hat); have SF25 := Lib.hid (SF24.out.app hgrow hat); obtain ⟨x0, x1, x2, x3, x4, x5, x6, x7, x8, x9⟩ := HK5.out.cells; clear hown hgrow hat)
            go_roundw
            case rel =>
              obtain ⟨r1, r2, r3, r4, r5, r6, r7⟩ := HEQ.out
              exact ⟨i + 1, q.1, acc ++ q.2, v3, b1, b2, e1, e2, by omega, by go_num, rfl, by rw [r1, r2, r3, r4, r5, r6, r7]; exact HK5.out, SF15.out, SF25.out, HGQ.out, r6, by rw [List.length_append, HNL.out, HML.out]; have h := HO5.out; unfold pixs; rw [List.map_append]; exact h, by rw [List.length_append, HNL.out]; have := HQG.out; have := HGR.out; omega, HB5.out, HV2.out⟩
            case measure => simp [intOf]; omega
          · have HV2 : Hid (t0 = (acc ++ q.2, (i : Int) + 1, 0)) := by show _ = _; rw [hV, Pl.readF_over HQ.out (HEQ.out.2.2.2.2.2.1.trans h1)]
            subst h1
            clear hV
            go_wp2_with (at_builtin; refine wpList_app rfl _ _ 30 rfl (k + 1) 55 p0 .u64 8 Tryz.underlying30 pi pz0 pz1 pz2 v n (pixs acc) rfl HR4.out a m c q.2 rfl SA4.out (by unfold maxLen; omega) (by omega) HK4.out.lt ?_; intro v3 w5 hown hgrow hat; have HO5 := Lib.hid hown; have HK5 := Lib.hid (HK4.out.kept hgrow (fun e => by have := (HR4.out.lt k e.symm).1; omega)); have HB5 := Lib.hid (HB4.out.grown hgrow HB4.out.size (fun j ej => by have := (HR4.out.lt j ej).1; have := HWK.out; omega)); have SF15 := Lib.hid (SF14.out.app hgrow hat); have SF25 := Lib.hid (SF24.out.app hgrow hat); obtain ⟨x0, x1, x2, x3, x4, x5, x6, x7, x8, x9⟩ := HK5.out.cells; clear hown hgrow hat)
            go_returns
            exact rdr_row HV2.out rfl (by have h := HO5.out; unfold pixs; rw [List.map_append]; exact h) (by rw [List.length_append, HNL.out, HML.out]) HB5.out
          · have HV2 : Hid (t0 = ([], 0, er2)) := by show _ = _; rw [hV, Pl.readF_wrong HQ.out (HEQ.out.2.2.2.2.2.1.trans h1), HEQ.out.2.2.2.2.2.2]
            subst h1
            clear hV
            go_wp2_with (first | (at_builtin; refine wpList_app rfl _ _ 30 rfl (k + 1) 55 p0 .u64 8 Tryz.underlying30 pi pz0 pz1 pz2 v n (pixs acc) rfl HR4.out a m c q.2 rfl SA4.out (by unfold maxLen; omega) (by omega) HK4.out.lt ?_; intro v3 w5 hown hgrow hat; have HO5 := Lib.hid hown; have HK5 := Lib.hid (HK4.out.kept hgrow (fun e => by have := (HR4.out.lt k e.symm).1; omega)); have HB5 := Lib.hid (HB4.out.grown hgrow HB4.out.size (fun j ej => by have := (HR4.out.lt j ej).1; have := HWK.out; omega)); have SF15 := Lib.hid (SF14.out.app hgrow hat); have SF25 := Lib.hid (SF24.out.app hgrow hat); obtain ⟨x0, x1, x2, x3, x4, x5, x6, x7, x8, x9⟩ := HK5.out.cells; clear hown hgrow hat) | go_quiet (fail))
            go_returns
            exact rdr_nil HV2.out (bel_drewN' HB5.out _)
      · have hgl := Pl.fin_grow st
        have hls := Pl.fin_last HG.out
        have hPP := refEnd_any HG.out wr A1 A2 d1 d2 HS1.out.sl HS2.out.sl
        obtain ⟨q, hq⟩ : ∃ q, Pl.fin st = q := ⟨_, rfl⟩
        rw [List.drop_eq_nil_of_le (by rw [bytesOf_length]; omega), Pl.readF_nil hq] at hV
        rw [hq] at hPP hgl hls
        obtain ⟨m, hm⟩ : ∃ m, q.2.length = m := ⟨_, rfl⟩
        obtain ⟨h2, hh2⟩ : ∃ h2, q.1.h = h2 := ⟨_, rfl⟩
        obtain ⟨N2, hN2⟩ : ∃ N, Pl.nn q.1 = N := ⟨_, rfl⟩
        obtain ⟨m1, hm1⟩ : ∃ n1, q.1.one.length = n1 := ⟨_, rfl⟩
        obtain ⟨m2, hm2⟩ : ∃ n2, q.1.row.length = n2 := ⟨_, rfl⟩
        obtain ⟨rows2, hrows2⟩ : ∃ rows, q.1.rows = rows := ⟨_, rfl⟩
        obtain ⟨last2, hlast2⟩ : ∃ l, q.1.last = l := ⟨_, rfl⟩
        obtain ⟨er2, her2⟩ : ∃ e, q.1.e = e := ⟨_, rfl⟩
        have hml : m ≤ 100001 := by omega
        have HML := Lib.hid hm
        have his : i = s.size := by omega
        have HPC : Hid (Calls Tryz.prog 106 #[.agg #[.int .i64 hh.kd, .int .i64 hh.w, .int .i64 hh.h, .int .i64 hh.m, .int .i64 N, .slice A1 n1 d1, .slice A2 n2 d2, .int .i64 rows, .int .i64 0, .int .i64 0]] wr fun e w' => ∃ b1 e1 b2 e2 a c, e = .returned (.tuple #[.agg #[.int .i64 h2.kd, .int .i64 h2.w, .int .i64 h2.h, .int .i64 h2.m, .int .i64 N2, .slice b1 m1 e1, .slice b2 m2 e2, .int .i64 rows2, .int .i64 last2, .int .i64 er2], .slice a m c]) ∧ SlK .u64 w' a m q.2 ∧ Below wr.heap.size wr w') := Lib.hid (by
          have hP := hPP
          unfold agR at hP
          rw [hhh, hN, hn1, hn2, hrows, e0', e00] at hP
          refine hP.mono ?_
          rintro e w' ⟨v2, a, c, rfl, ⟨b1, e1, b2, e2, rfl, q1, q2, f1, f2⟩, q3, f3, hb'⟩
          refine ⟨b1, e1, b2, e2, a, c, ?_, by rw [hm] at q3; exact q3, hb'⟩
          unfold agR
          rw [hm, hh2, hN2, hm1, hm2, hrows2, hlast2, her2])
        have hl2 : last2 = 1 ∨ last2 = 2 := by rw [hlast2] at hls; exact hls
        have HV2 : Hid (t0 = if last2 = 2 then ([], 0, er2) else (acc ++ q.2, (s.size : Int), 0)) := by show _ = _; rw [hV, hlast2, her2, his]
        clear hPP hgl hls hq hm hh2 hN2 hm1 hm2 hrows2 hlast2 her2 hhh hN hn1 hn2 hrows hG hV his hgr
        go_wp2_with fail
        refine HPC.out.mono ?_
        rintro e w9 ⟨b1, e1, b2, e2, a, c, rfl, hS9, hb9⟩
        have HS9 := Lib.hid hS9
        have HB9 := Lib.hid hb9
        clear hS9 hb9 o0 o1 o2 o3 o4 o5 o6 o7 o8 o9 g0 g1 g2 g3 g4 g5 g6 g7 g8 g9 hBt
        go_upto_region 17 with fail
        generalize hW : w9.alloc (.cells #[.int .i64 h2.kd, .int .i64 h2.w, .int .i64 h2.h, .int .i64 h2.m, .int .i64 N2, .slice b1 m1 e1, .slice b2 m2 e2, .int .i64 rows2, .int .i64 last2, .int .i64 er2] 178) = w4
        have HBx : Hid (Below w9.heap.size w9 w4) := by show Below _ _ _; rw [← hW]; exact box1' _ _
        have HN4 : Hid (RbC w4 w9.heap.size h2 N2 (.slice b1 m1 e1) (.slice b2 m2 e2) rows2 last2 er2) := by show RbC _ _ _ _ _ _ _ _ _; rw [← hW]; exact RbC.new w9 _ _ _ _ _ _ _
        have HB94 := Lib.hid (HB9.out.trans (HBx.out.mono HB9.out.size))
        have HK4 := Lib.hid (HK.out.later HB94.out)
        have SA4 := Lib.hid (HS9.out.below HBx.out)
        have HR4 := Lib.hid (below_row HROW.out HB94.out)
        have HB4 := Lib.hid (HB.out.trans (HB94.out.mono HB.out.size))
        obtain ⟨x0, x1, x2, x3, x4, x5, x6, x7, x8, x9⟩ := HN4.out.cells
        clear hW
        rcases hl2 with h1 | h1
        · have HV3 : Hid (t0 = (acc ++ q.2, (s.size : Int), 0)) := by show _ = _; rw [HV2.out, if_neg (by rw [h1]; decide)]
          subst h1
          go_wp2_with (at_builtin; refine wpList_app rfl _ _ 30 rfl (k + 1) 55 p0 .u64 8 Tryz.underlying30 pi pz0 pz1 pz2 v n (pixs acc) rfl HR4.out a m c q.2 rfl SA4.out (by unfold maxLen; omega) (by omega) HK4.out.lt ?_; intro v3 w5 hown hgrow hat; have HO5 := Lib.hid hown; have HB5 := Lib.hid (HB4.out.grown hgrow HB4.out.size (fun j ej => by have := (HR4.out.lt j ej).1; have := HWK.out; omega)); clear hown hgrow hat)
          go_returns
          exact rdr_row HV3.out rfl (by have h := HO5.out; unfold pixs; rw [List.map_append]; exact h) (by rw [List.length_append, HNL.out, HML.out]) HB5.out
        · have HV3 : Hid (t0 = ([], 0, er2)) := by show _ = _; rw [HV2.out, if_pos h1]
          subst h1
          go_wp2_with (go_quiet (fail))
          go_returns
          exact rdr_nil HV3.out (bel_drewN' HB4.out _)
  · simp only [decide_eq_false hm] at HM
    have HV : Hid (Pl.readV h (bytesOf s) = ([], 0, 1)) := Lib.hid (if_neg hm)
    clear hf hm
    unfold agH at HM ⊢
    go_enter Tryz.func61, Tryz.ntmps61
    go_wp2_with (go_at_call 91; refine (HM.out _).mono ?_; rintro e w1 ⟨rfl, hb1⟩; have HB1 := Lib.hid (((Below.refl _ w).alloc (Nat.le_refl _) _).trans (hb1.mono (by simp))))
    go_returns
    exact rdr_nil HV.out HB1.out
end Go.Proofs.YtkjkepnailamnaaGreat
namespace Go.Proofs.YtkjkepnailamnaaGreat
open Go.RowKit
set_option linter.unusedVariables false
def Ha (w : World) (g : Nat) (h k : Hd.H) : Prop := w.heap[g]? = some (.cells #[.int .i64 h.kd, .int .i64 h.w, .int .i64 h.h, .int .i64 h.m, .int .i64 k.kd, .int .i64 k.w, .int .i64 k.h, .int .i64 k.m] 112 (0, 0))
section
variable {w w' : World} {g : Nat} {h k : Hd.H}
theorem Ha.lt (H : Ha w g h k) : g < w.heap.size := (Array.getElem?_eq_some_iff.1 H).1
theorem Ha.later (H : Ha w g h k) (hb : Below w.heap.size w w') : Ha w' g h k := (hb.block g H.lt).trans H
theorem Ha.cells (H : Ha w g h k) : w.cell? ⟨g, 0, none⟩ = some (.int .i64 h.kd) ∧ w.cell? ⟨g, 1, none⟩ = some (.int .i64 h.w) ∧ w.cell? ⟨g, 2, none⟩ = some (.int .i64 h.h) ∧ w.cell? ⟨g, 3, none⟩ = some (.int .i64 h.m) ∧ w.cell? ⟨g, 4, none⟩ = some (.int .i64 k.kd) ∧ w.cell? ⟨g, 5, none⟩ = some (.int .i64 k.w) ∧ w.cell? ⟨g, 6, none⟩ = some (.int .i64 k.h) ∧ w.cell? ⟨g, 7, none⟩ = some (.int .i64 k.m) := by
  have h' : w.heap[g]? = _ := H
  refine ⟨?_, ?_, ?_, ?_, ?_, ?_, ?_, ?_⟩ <;> simp [World.cell?, h']
end
theorem Pl.readF_len : ∀ (x : List Int) (s : S) (i : Nat) (acc : List Int), (readF s i acc x).1.length ≤ acc.length + s.row.length + x.length + 1
  | [], s, i, acc => by
    rw [readF]
    have := fin_grow s
    split
    · simp
    · rw [List.length_append]; simp; omega
  | c :: cs, s, i, acc => by
    rw [readF]
    have hg := put_grow s c
    split
    · simp only [List.length_append, List.length_cons]; omega
    split
    · simp
    · have := readF_len cs (put s c).1 (i + 1) (acc ++ (put s c).2)
      simp only [List.length_append, List.length_cons] at this ⊢
      omega
theorem Pl.readV_len (h : Hd.H) (x : List Int) : (readV h x).1.length ≤ x.length + 1 := by
  unfold readV
  split
  · have := readF_len x (new h) 0 []
    simp [new] at this ⊢; omega
  · simp
end Go.Proofs.YtkjkepnailamnaaGreat
namespace Go.Proofs.YtkjkepnailamnaaGreat
open Go.RowKit
set_option linter.unusedVariables false
def Rw.strideV (h : Hd.H) : Int := if 4 ≤ h.kd then (Rw.stride h : Int) else 0
theorem Rw.strideV_size {h : Hd.H} (H : Hd.May h) : Rw.strideV h * h.h = Hj.size h ∧ 0 ≤ Rw.strideV h ∧ Rw.strideV h ≤ 24576 := by
  unfold Rw.strideV
  split
  · rename_i h4
    have hs := (Rw.stride_at ⟨H, h4⟩).2.1
    rw [Rw.size_eq ⟨H, h4⟩, Int.mul_comm]
    exact ⟨rfl, by omega, by omega⟩
  · rw [Hj.size_small (by omega)]; simp
set_option maxRecDepth 100000 in
set_option maxHeartbeats 4000000 in
theorem refStride_any (h : Hd.H) (hm : Hd.May h) (w : World) :
    Calls Tryz.prog 108 #[agH h] w fun e w' => e = .returned (.int .i64 (Rw.strideV h)) ∧ Below w.heap.size w w' := by
  unfold Rw.strideV
  by_cases h4 : 4 ≤ h.kd
  · rw [if_pos h4]
    have hmm : Rw.May h := ⟨hm, h4⟩
    have HS := Lib.hid (refSize_any h hm)
    have X := Lib.hid (Rw.quot hmm)
    have hst := (Rw.stride_at hmm).2.1
    have hh := hmm.m
    generalize Hj.size h = sz at HS X
    unfold agH at HS ⊢
    have hh0 : h.h ≠ 0 := by omega
    have hk : ¬ h.kd < 4 := by omega
    clear hm hmm h4
    go_enter Tryz.func108, Tryz.ntmps108
    go_upto_region 3 with fail
    generalize hW : w.alloc (.cells #[.int .i64 h.kd, .int .i64 h.w, .int .i64 h.h, .int .i64 h.m] 112) = w9
    have HN : Hid (Hb w9 w.heap.size 112 h) := by show Hb _ _ _ _; rw [← hW]; exact Hb.new w 112 h
    have hBz : Hid (Below w.heap.size w w9) := by show Below _ _ _; rw [← hW]; exact box1' _ _
    clear hW
    obtain ⟨n0, n1, n2, n3⟩ := HN.out.cells
    have hBr : Below w9.heap.size w9 w9 := .refl _ _
    go_cut [2] from 6 to 10 (fun s2 wx => s2 = .int .i64 (IntKind.i64.wrap (sz.tdiv h.h)) ∧ Below w9.heap.size w9 wx)
    case first =>
      go_region_held3 (fun w' => w'.cell? ⟨w.heap.size, 0, none⟩ = some (.int .i64 h.kd) ∧ w'.cell? ⟨w.heap.size, 1, none⟩ = some (.int .i64 h.w) ∧ w'.cell? ⟨w.heap.size, 2, none⟩ = some (.int .i64 h.h) ∧ w'.cell? ⟨w.heap.size, 3, none⟩ = some (.int .i64 h.m))
        (first | exact ⟨n0, n1, n2, n3⟩ | exact ⟨cell_later hBr n0, cell_later hBr n1, cell_later hBr n2, cell_later hBr n3⟩)
        (first | (go_at_call 64; refine (HS.out _).mono ?_; rintro e w8 ⟨rfl, hb8⟩; replace hBr := bel_step (w := w9) (by first | exact hBr | exact hBr.drew) hb8))
      all_goals
        go_wp2_with fail
        go_meet
        case rel => exact ⟨by rfl, hBr⟩
    case rest =>
      obtain ⟨rfl, hBx⟩ := hcut
      go_wp2
      go_ret
      exact ⟨by rw [X.out, IntWalk.i64_in _ (by omega)]; rfl, hBz.out.trans (hBx.mono hBz.out.size)⟩
  · rw [if_neg h4]
    have hk : h.kd < 4 := by omega
    unfold agH
    clear h4 hm
    go_enter Tryz.func108, Tryz.ntmps108
    go_wp2
    go_returns
    exact ⟨rfl, by go_grown⟩
end Go.Proofs.YtkjkepnailamnaaGreat
namespace Go.Proofs.YtkjkepnailamnaaGreat
open Go.RowKit
set_option linter.unusedVariables false
namespace Rw
theorem take_snoc1 (bs : List Int) (i : Nat) (h : i < bs.length) : bs.take (i + 1) = bs.take i ++ [bs.getD i 0] := by
  rw [List.take_succ_eq_append_getElem h, List.getD_eq_getElem?_getD, List.getElem?_eq_getElem h]; rfl
theorem smp_one {h : Hd.H} (hw : wide h = 1) {l : List Int} (hl : rest h l = []) (x : Int) : smp h (l ++ [x]) = smp h l ++ [x] ∧ rest h (l ++ [x]) = [] := by
  have hl' : (parts (wide h) l).2 = [] := hl
  have hf : (parts (wide h) l).2.length + 1 = wide h := by rw [hl', hw]; rfl
  refine ⟨?_, ?_⟩
  · rw [smp_more hf, hl']; simp [val_one]
  · unfold rest; rw [parts_full hf]
theorem smp_two {h : Hd.H} (hw : wide h = 2) {l : List Int} (hl : rest h l = []) (x y : Int) : smp h (l ++ [x] ++ [y]) = smp h l ++ [x * 256 + y] ∧ rest h (l ++ [x] ++ [y]) = [] := by
  have hl' : (parts (wide h) l).2 = [] := hl
  have hf : ¬ (parts (wide h) l).2.length + 1 = wide h := by rw [hl', hw]; decide
  have h2 : (parts (wide h) (l ++ [x])).2 = [x] := by rw [parts_wait hf, hl']; rfl
  have hf2 : (parts (wide h) (l ++ [x])).2.length + 1 = wide h := by rw [h2, hw]; rfl
  refine ⟨?_, ?_⟩
  · rw [smp_more hf2, smp_wait hf, h2]; show _ ++ [val [x, y]] = _; rw [val_two]
  · unfold rest; rw [parts_full hf2]
theorem smp_tail {h : Hd.H} {l t : List Int} (hl : rest h l = []) (ht : t.length < wide h) : smp h (l ++ t) = smp h l := by
  have hw := wide_at h
  match t, ht with
  | [], _ => rw [List.append_nil]
  | [x], ht =>
    have hl' : (parts (wide h) l).2 = [] := hl
    exact smp_wait (by rw [hl']; simp at ht ⊢; omega)
  | x :: y :: t, ht => simp at ht; omega
theorem smp_le (h : Hd.H) (l : List Int) : (smp h l).length ≤ l.length := by
  have h1 := smp_len h l
  have h2 := wide_pos h
  have : (smp h l).length * 1 ≤ (smp h l).length * wide h := Nat.mul_le_mul_left _ h2
  omega
theorem smp_in {h : Hd.H} {r : List Int} (hr : ∀ x ∈ r, 0 ≤ x ∧ x ≤ 255) : ∀ x ∈ smp h r, 0 ≤ x ∧ x ≤ 65535 := by
  revert hr
  refine snoc_ind (P := fun r => (∀ x ∈ r, 0 ≤ x ∧ x ≤ 255) → ∀ x ∈ smp h r, 0 ≤ x ∧ x ≤ 65535) (fun _ x hx => by cases hx) (fun l c ih hr => ?_) r
  have hl : ∀ x ∈ l, 0 ≤ x ∧ x ≤ 255 := fun x hx => hr x (List.mem_append_left _ hx)
  have hc := hr c (by simp)
  by_cases hf : (parts (wide h) l).2.length + 1 = wide h
  · rw [smp_more hf]
    intro x hx
    rcases List.mem_append.1 hx with hx | hx
    · exact ih hl x hx
    · rw [List.mem_singleton.1 hx]
      rcases wait_in (h := h) hl with e | ⟨y, e, y0, y1, _⟩
      · rw [e]; show 0 ≤ val [c] ∧ _ ≤ _; rw [show ([] : List Int) ++ [c] = [c] from rfl, val_one]; omega
      · rw [e]; show 0 ≤ val [y, c] ∧ val [y, c] ≤ _; rw [val_two]; omega
  · rw [smp_wait hf]; exact ih hl
def badL (w m : Int) : List Int → Int → Int
  | [], _ => 0
  | x :: l, i => if m < x then w * (i + 1) else badL w m l (i + 1)
def badV (h : Hd.H) (bs : List Int) : Int := if h.kd = 4 then 0 else badL (wide h) h.m (smp h (bs.take (Hj.size h).toNat)) 0
end Rw
theorem Rw.row_cap {w : World} {base n c : Nat} {e : TypeId} {a : Option Addr} {xs : List Value} (h : w.ownsRow base e 1 (.slice a n c) n xs) : n ≤ c := by
  rcases h.2 with ⟨hv, he⟩ | ⟨g, cap, cur, hv, hb, hg, hle, _⟩
  · cases hv; exact Nat.le_refl _
  · cases hv; exact hle
def SmpR (w : World) (l : List Int) (n : Nat) (e : Ending) (w' : World) : Prop :=
  ∃ a c, e = .returned (.slice a n c) ∧ SlK .i64 w' a n l ∧ n ≤ c ∧ Below w.heap.size w w'
set_option maxRecDepth 100000 in
set_option maxHeartbeats 4000000 in
theorem refSamples_1 (ab : Option Addr) (nb cb : Nat) (bs : List Int) (hnb : nb ≤ 100000) (h : Hd.H) (hw : Rw.wide h = 1) (w : World) (hs : Bt.Bs w ab nb cb bs) :
    Calls Tryz.prog 143 #[.slice ab nb cb, agH h] w (SmpR w (Rw.smp h bs) (Rw.smp h bs).length) := by
  have HW := Lib.hid (fun W => refWide_any h W)
  rw [hw] at HW
  obtain ⟨i0, hi, hz0, hz1, hz2⟩ : ∃ i, Tryz.prog.info? 3 = some i ∧ i.zero = some (.int .i64 0) ∧ i.size = 1 ∧ i.bytes = 8 := (by have h := Tryz.info_in8; cases hh : Tryz.prog.info? 3 with | none => rw [hh] at h; cases h | some i => rw [hh] at h; simp at h; exact ⟨i, rfl, h.1, h.2.1, h.2.2⟩)
  have HSB := Lib.hid hs.1
  have HBY := Lib.hid hs.2.2.2
  have HLB : Hid (bs.length = nb) := Lib.hid hs.1.1
  have HWD := Lib.hid hw
  clear hs hw
  unfold agH at HW ⊢
  go_enter Tryz.func143, Tryz.ntmps143
  go_wp2_with (go_at_call 94; refine (HW.out _).mono ?_; rintro e w9 ⟨rfl, hb9⟩; have HB1 := Lib.hid (((Below.refl _ w).alloc (Nat.le_refl _) _).trans (hb9.mono (by simp))))
  go_loopw [5, 7] (fun u5 u7 wr => ∃ (i : Nat) (v : Value), i ≤ nb ∧ u7 = .int .i64 i ∧ v = u5 ∧ Rw.rest h (bs.take i) = [] ∧ wr.ownsRow w.heap.size 3 1 v (Rw.smp h (bs.take i)).length (ints (Rw.smp h (bs.take i))) ∧ Below w.heap.size w wr) (fun _ u7 _ => nb - (intOf u7).toNat)
  case atStart => exact ⟨0, _, Nat.zero_le _, rfl, rfl, rfl, World.ownsRow_nil _ _ _ _, HB1.out⟩
  case round =>
    obtain ⟨i, v, hi1, rfl, rfl, hrs, hrow, hB⟩ := hrel
    have HRS := Lib.hid hrs
    have HB := Lib.hid hB
    have HRW := Lib.hid hrow
    have hle := Rw.smp_le h (bs.take i)
    rw [List.length_take] at hle
    obtain ⟨n, hn⟩ : ∃ n, (Rw.smp h (bs.take i)).length = n := ⟨_, rfl⟩
    have HNL := Lib.hid hn
    rw [hn] at hrow hle
    have HROW := Lib.hid hrow
    have hn9 : n ≤ 100000 := by omega
    have hsl := HSB.out.below hB
    have q1 : n + 1 ≤ maxLen := by unfold maxLen; omega
    have q2 : (n + 1) * 8 ≤ 140737488355328 := by omega
    have q3 := hB.size
    clear hrow hrs hle hn hB
    have bw : -9223372036854775808 ≤ (i : Int) + 1 ∧ (i : Int) + 1 ≤ 9223372036854775807 := by omega
    by_cases hlt : i + 1 ≤ nb
    · have hle : (i : Int) + 1 ≤ (nb : Int) := by omega
      obtain ⟨bg, bo, hba, hbc⟩ := Rw.slk_pos hsl (by omega)
      have hcell := hbc i (by omega)
      obtain ⟨c, hc⟩ : ∃ c, bs.getD i 0 = c := ⟨_, rfl⟩
      obtain ⟨c0, c1⟩ := HBY.out c (by rw [← hc, List.getD_eq_getElem?_getD, List.getElem?_eq_getElem (by rw [HLB.out]; omega)]; exact List.getElem_mem _)
      rw [hc] at hcell
      have HST : Hid (Rw.smp h (bs.take (i + 1)) = Rw.smp h (bs.take i) ++ [c] ∧ Rw.rest h (bs.take (i + 1)) = []) := Lib.hid (by
        rw [Rw.take_snoc1 bs i (by rw [HLB.out]; omega), hc]
        exact Rw.smp_one HWD.out HRS.out c)
      have hx : (i : Int) < (nb : Int) := by omega
      subst hba
      clear hbc hsl hc bw
      go_wp2_with (at_builtin; refine Rw.wpList_app1 rfl _ _ 25 rfl w.heap.size 3 i0 (.int .i64 0) 8 Tryz.underlying25 hi hz0 rfl hz1 hz2 v n (ints (Rw.smp h (bs.take i))) rfl (HROW.out.alloc _) wr.heap.size (.int .i64 (c)) rfl rfl (by rw [World.cell?_alloc_at _ _ _ _ rfl]; rfl) q1 q2 (Nat.le_trans q3 (by simp)) ?_; intro v3 w3 hown hgrow hat; have HO3 := Lib.hid hown; have HB3 := Lib.hid ((HB.out.alloc q3 _).grown hgrow (Nat.le_trans q3 (by simp)) (fun j ej => (HROW.out.lt j ej).1)); clear hown hgrow hat)
      go_roundw
      case rel => exact ⟨i + 1, v3, hlt, by go_num, rfl, HST.out.2, by rw [HST.out.1, List.length_append, HNL.out]; have h := HO3.out; unfold ints at h ⊢; rw [List.map_append]; exact h, HB3.out⟩
      case measure => simp [intOf]; omega
    · have hle : ¬ (i : Int) + 1 ≤ (nb : Int) := by omega
      have HE : Hid (Rw.smp h bs = Rw.smp h (bs.take i)) := Lib.hid (by
        conv => lhs; rw [← List.take_append_drop i bs]
        exact Rw.smp_tail HRS.out (by rw [List.length_drop, HLB.out, HWD.out]; omega))
      clear hsl bw
      go_wp2
      go_ret
      rw [HE.out]
      obtain ⟨a, c, rfl, hsl⟩ := sl_of_row (z := 0) rfl HRW.out rfl
      exact ⟨a, c, rfl, hsl, Rw.row_cap HRW.out, HB.out⟩
set_option maxRecDepth 100000 in
set_option maxHeartbeats 4000000 in
theorem refSamples_2 (ab : Option Addr) (nb cb : Nat) (bs : List Int) (hnb : nb ≤ 100000) (h : Hd.H) (hw : Rw.wide h = 2) (w : World) (hs : Bt.Bs w ab nb cb bs) :
    Calls Tryz.prog 143 #[.slice ab nb cb, agH h] w (SmpR w (Rw.smp h bs) (Rw.smp h bs).length) := by
  have HW := Lib.hid (fun W => refWide_any h W)
  rw [hw] at HW
  obtain ⟨i0, hi, hz0, hz1, hz2⟩ : ∃ i, Tryz.prog.info? 3 = some i ∧ i.zero = some (.int .i64 0) ∧ i.size = 1 ∧ i.bytes = 8 := (by have h := Tryz.info_in8; cases hh : Tryz.prog.info? 3 with | none => rw [hh] at h; cases h | some i => rw [hh] at h; simp at h; exact ⟨i, rfl, h.1, h.2.1, h.2.2⟩)
  have HSB := Lib.hid hs.1
  have HBY := Lib.hid hs.2.2.2
  have HLB : Hid (bs.length = nb) := Lib.hid hs.1.1
  have HWD := Lib.hid hw
  clear hs hw
  unfold agH at HW ⊢
  go_enter Tryz.func143, Tryz.ntmps143
  go_wp2_with (go_at_call 94; refine (HW.out _).mono ?_; rintro e w9 ⟨rfl, hb9⟩; have HB1 := Lib.hid (((Below.refl _ w).alloc (Nat.le_refl _) _).trans (hb9.mono (by simp))))
  go_loopw [5, 7] (fun u5 u7 wr => ∃ (i : Nat) (v : Value), i ≤ nb ∧ u7 = .int .i64 i ∧ v = u5 ∧ Rw.rest h (bs.take i) = [] ∧ wr.ownsRow w.heap.size 3 1 v (Rw.smp h (bs.take i)).length (ints (Rw.smp h (bs.take i))) ∧ Below w.heap.size w wr) (fun _ u7 _ => nb - (intOf u7).toNat)
  case atStart => exact ⟨0, _, Nat.zero_le _, rfl, rfl, rfl, World.ownsRow_nil _ _ _ _, HB1.out⟩
  case round =>
    obtain ⟨i, v, hi1, rfl, rfl, hrs, hrow, hB⟩ := hrel
    have HRS := Lib.hid hrs
    have HB := Lib.hid hB
    have HRW := Lib.hid hrow
    have hle := Rw.smp_le h (bs.take i)
    rw [List.length_take] at hle
    obtain ⟨n, hn⟩ : ∃ n, (Rw.smp h (bs.take i)).length = n := ⟨_, rfl⟩
    have HNL := Lib.hid hn
    rw [hn] at hrow hle
    have HROW := Lib.hid hrow
    have hn9 : n ≤ 100000 := by omega
    have hsl := HSB.out.below hB
    have q1 : n + 1 ≤ maxLen := by unfold maxLen; omega
    have q2 : (n + 1) * 8 ≤ 140737488355328 := by omega
    have q3 := hB.size
    clear hrow hrs hle hn hB
    have bw : -9223372036854775808 ≤ (i : Int) + 2 ∧ (i : Int) + 2 ≤ 9223372036854775807 := by omega
    by_cases hlt : i + 2 ≤ nb
    · have hle : (i : Int) + 2 ≤ (nb : Int) := by omega
      obtain ⟨bg, bo, hba, hbc⟩ := Rw.slk_pos hsl (by omega)
      have hcell := hbc i (by omega)
      obtain ⟨c, hc⟩ : ∃ c, bs.getD i 0 = c := ⟨_, rfl⟩
      obtain ⟨c0, c1⟩ := HBY.out c (by rw [← hc, List.getD_eq_getElem?_getD, List.getElem?_eq_getElem (by rw [HLB.out]; omega)]; exact List.getElem_mem _)
      rw [hc] at hcell
      have hcell2 := hbc (i + 1) (by omega)
      obtain ⟨d, hd⟩ : ∃ d, bs.getD (i + 1) 0 = d := ⟨_, rfl⟩
      obtain ⟨d0, d1⟩ := HBY.out d (by rw [← hd, List.getD_eq_getElem?_getD, List.getElem?_eq_getElem (by rw [HLB.out]; omega)]; exact List.getElem_mem _)
      rw [hd] at hcell2
      have HST : Hid (Rw.smp h (bs.take (i + 2)) = Rw.smp h (bs.take i) ++ [c * 256 + d] ∧ Rw.rest h (bs.take (i + 2)) = []) := Lib.hid (by
        rw [Rw.take_snoc1 bs (i + 1) (by rw [HLB.out]; omega), Rw.take_snoc1 bs i (by rw [HLB.out]; omega), hc, hd]
        exact Rw.smp_two HWD.out HRS.out c d)
      have hx : (i : Int) + 1 < (nb : Int) := by omega
      have hx0 : (i : Int) < (nb : Int) := by omega
      subst hba
      clear hbc hsl hc bw hd
      go_wp2_with (at_builtin; refine Rw.wpList_app1 rfl _ _ 25 rfl w.heap.size 3 i0 (.int .i64 0) 8 Tryz.underlying25 hi hz0 rfl hz1 hz2 v n (ints (Rw.smp h (bs.take i))) rfl (HROW.out.alloc _) wr.heap.size (.int .i64 (c * 256 + d)) rfl rfl (by rw [World.cell?_alloc_at _ _ _ _ rfl]; rfl) q1 q2 (Nat.le_trans q3 (by simp)) ?_; intro v3 w3 hown hgrow hat; have HO3 := Lib.hid hown; have HB3 := Lib.hid ((HB.out.alloc q3 _).grown hgrow (Nat.le_trans q3 (by simp)) (fun j ej => (HROW.out.lt j ej).1)); clear hown hgrow hat)
      go_roundw
      case rel => exact ⟨i + 2, v3, hlt, by go_num, rfl, HST.out.2, by rw [HST.out.1, List.length_append, HNL.out]; have h := HO3.out; unfold ints at h ⊢; rw [List.map_append]; exact h, HB3.out⟩
      case measure => simp [intOf]; omega
    · have hle : ¬ (i : Int) + 2 ≤ (nb : Int) := by omega
      have HE : Hid (Rw.smp h bs = Rw.smp h (bs.take i)) := Lib.hid (by
        conv => lhs; rw [← List.take_append_drop i bs]
        exact Rw.smp_tail HRS.out (by rw [List.length_drop, HLB.out, HWD.out]; omega))
      clear hsl bw
      go_wp2
      go_ret
      rw [HE.out]
      obtain ⟨a, c, rfl, hsl⟩ := sl_of_row (z := 0) rfl HRW.out rfl
      exact ⟨a, c, rfl, hsl, Rw.row_cap HRW.out, HB.out⟩
theorem refSamples_any (ab : Option Addr) (nb cb : Nat) (bs : List Int) (hnb : nb ≤ 100000) (h : Hd.H) (w : World) (hs : Bt.Bs w ab nb cb bs) :
    Calls Tryz.prog 143 #[.slice ab nb cb, agH h] w (SmpR w (Rw.smp h bs) (Rw.smp h bs).length) := by
  rcases Rw.wide_at h with ⟨_, h1⟩ | ⟨_, h1⟩
  · exact refSamples_2 ab nb cb bs hnb h h1 w hs
  · exact refSamples_1 ab nb cb bs hnb h h1 w hs
end Go.Proofs.YtkjkepnailamnaaGreat
namespace Go.Proofs.YtkjkepnailamnaaGreat
open Go.RowKit
set_option linter.unusedVariables false
theorem Rw.badL_cons (w m x : Int) (l : List Int) (i : Int) : Rw.badL w m (x :: l) i = if m < x then w * (i + 1) else Rw.badL w m l (i + 1) := by rw [Rw.badL]
theorem Rw.badL_le (w m : Int) (w0 : 0 ≤ w) : ∀ (l : List Int) (i : Int), 0 ≤ i → 0 ≤ Rw.badL w m l i
  | [], i, _ => by unfold badL; omega
  | x :: l, i, hi => by
    unfold badL
    split
    · exact Int.mul_nonneg w0 (by omega)
    · exact Rw.badL_le w m w0 l (i + 1) (by omega)
theorem Rw.mul12 {w : Nat} (hw : w = 1 ∨ w = 2) (i : Nat) (hi : i ≤ 100000) : 0 ≤ (w : Int) * ((i : Int) + 1) ∧ (w : Int) * ((i : Int) + 1) ≤ 1000000 := by
  rcases hw with rfl | rfl <;> constructor <;> simp <;> omega
set_option maxRecDepth 100000 in
set_option maxHeartbeats 4000000 in
theorem refBad_any (ab : Option Addr) (nb cb : Nat) (bs : List Int) (hnb : nb ≤ 100000) (hcb : nb ≤ cb) (h : Hd.H) (hm : Rw.May h) (w : World) (hs : Bt.Bs w ab nb cb bs) :
    Calls Tryz.prog 107 #[.slice ab nb cb, agH h] w fun e w' => e = .returned (.int .i64 (Rw.badV h bs)) ∧ Below w.heap.size w w' := by
  by_cases h4 : h.kd = 4
  · have HV : Hid (Rw.badV h bs = 0) := Lib.hid (by unfold Rw.badV; rw [if_pos h4])
    rw [HV.out]
    unfold agH
    have hk : (h.kd == 4) = true := by simpa using h4
    clear h4 hs hm
    go_enter Tryz.func107, Tryz.ntmps107
    go_wp2
    go_returns
    exact ⟨rfl, by go_grown⟩
  have hmm := hm.m
  have hS := refSize_any h hm.1
  have hsz0 : 0 ≤ Hj.size h := by rw [Rw.size_eq hm]; exact Int.mul_nonneg (by omega) (by omega)
  obtain ⟨sz, hsz⟩ : ∃ sz : Nat, Hj.size h = (sz : Int) := ⟨(Hj.size h).toNat, by omega⟩
  have hsz9 : (sz : Int) ≤ 1610612736 := by
    have := Rw.left_le (Rw.good_new hm)
    have e : (Rw.new h).left = Hj.size h := rfl
    rw [e, hsz] at this; exact this
  obtain ⟨m, hmn⟩ : ∃ m : Nat, min nb sz = m := ⟨_, rfl⟩
  have hmi : (if (sz : Int) < (nb : Int) then (sz : Int) else (nb : Int)) = (m : Int) := by split <;> omega
  have hmb : m ≤ nb := by omega
  have hbs : Bt.Bs w ab m cb (bs.take m) := ⟨⟨by rw [List.length_take, hs.1.1]; omega, by
      rcases hs.1.2 with h0 | ⟨g', o', e, hc⟩
      · exact .inl (by omega)
      · refine .inr ⟨g', o', e, fun i hi => ?_⟩
        rw [hc i (by omega), List.getD_eq_getElem?_getD, List.getD_eq_getElem?_getD, List.getElem?_take_of_lt hi]⟩, by omega, hs.2.2.1, fun z hz => hs.2.2.2 z (List.mem_of_mem_take hz)⟩
  have hty : bs.take (Hj.size h).toNat = bs.take m := by
    rw [hsz]
    show bs.take sz = _
    by_cases h1 : sz ≤ nb
    · congr 1; omega
    · rw [List.take_of_length_le (by rw [hs.1.1]; omega), List.take_of_length_le (by rw [hs.1.1]; omega)]
  have hV : Rw.badV h bs = Rw.badL (Rw.wide h) h.m (Rw.smp h (bs.take m)) 0 := by unfold Rw.badV; rw [if_neg h4, hty]
  have hA := fun W hb => refSamples_any ab m cb (bs.take m) (by omega) h W (hbs.below hb)
  obtain ⟨zs, hz⟩ : ∃ zs, Rw.smp h (bs.take m) = zs := ⟨_, rfl⟩
  have hzin : ∀ x ∈ zs, 0 ≤ x ∧ x ≤ 65535 := by rw [← hz]; exact Rw.smp_in hbs.2.2.2
  have hzl := Rw.smp_le h (bs.take m)
  rw [List.length_take] at hzl
  rw [hz] at hV hA hzl
  obtain ⟨n, hn⟩ : ∃ n, zs.length = n := ⟨_, rfl⟩
  rw [hn] at hA hzl
  obtain ⟨wd, hwd⟩ : ∃ wd, Rw.wide h = wd := ⟨_, rfl⟩
  have hw12 : wd = 1 ∨ wd = 2 := by have := Rw.wide_at h; omega
  have hWD := fun W => refWide_any h W
  rw [hwd] at hWD hV
  rw [hV]
  rw [hsz] at hS
  have hk : (h.kd == 4) = false := by simpa using h4
  unfold agH at hS hA hWD ⊢
  have HS := Lib.hid hS
  have HA := Lib.hid hA
  have HW := Lib.hid hWD
  have HNL := Lib.hid hn
  have HIN := Lib.hid hzin
  have HMM := Lib.hid hmi
  have HM12 := Lib.hid (fun (i : Nat) (hi : i ≤ 100000) => Rw.mul12 hw12 i hi)
  have hn9 : n ≤ 100000 := by omega
  have hmcb : m ≤ cb := by omega
  clear h4 hS hA hWD hn hzin hmi hw12 hV hty hbs hs hz hzl hwd hsz hsz0 hmn hm hcb
  go_enter Tryz.func107, Tryz.ntmps107
  go_upto_region 1 with fail
  generalize hW : w.alloc (.cells #[.int .i64 h.kd, .int .i64 h.w, .int .i64 h.h, .int .i64 h.m] 112) = w1
  have HN : Hid (Hb w1 w.heap.size 112 h) := by show Hb _ _ _ _; rw [← hW]; exact Hb.new w 112 h
  have HB1 : Hid (Below w.heap.size w w1) := by show Below _ _ _; rw [← hW]; exact box1' _ _
  clear hW
  obtain ⟨n0, n1, n2, n3⟩ := HN.out.cells
  go_upto_region 4 with (go_at_call 94; refine (HW.out _).mono ?_; rintro e w2 ⟨rfl, hb2⟩; have HB2 := Lib.hid (HB1.out.trans (hb2.mono HB1.out.size)); have HN2 := Lib.hid (HN.out.later hb2); clear hb2)
  clear n0 n1 n2 n3
  obtain ⟨n0, n1, n2, n3⟩ := HN2.out.cells
  have hmi := HMM.out
  have hm0 : (0 : Int) ≤ (m : Int) := by omega
  have hmc : (m : Int) ≤ (cb : Int) := by omega
  have hBr : Below w.heap.size w w2 := HB2.out
  go_cut [6] from 13 to 21 (fun s6 wx => ∃ a c, s6 = .slice a n c ∧ SlK .i64 wx a n zs ∧ Below w.heap.size w wx ∧ Below w2.heap.size w2 wx)
  case first =>
    by_cases hns : (sz : Int) < (nb : Int)
    · have hms : sz = m := by rw [if_pos hns] at hmi; omega
      clear hmi HMM
      have hN : sz < nb := by omega
      have hmn : min (nb : Int) (sz : Int) = (sz : Int) := by omega
      subst hms
      go_region_held3 (fun w' => w'.cell? ⟨w.heap.size, 0, none⟩ = some (.int .i64 h.kd) ∧ w'.cell? ⟨w.heap.size, 1, none⟩ = some (.int .i64 h.w) ∧ w'.cell? ⟨w.heap.size, 2, none⟩ = some (.int .i64 h.h) ∧ w'.cell? ⟨w.heap.size, 3, none⟩ = some (.int .i64 h.m) ∧ Below w2.heap.size w2 w')
        (first | (with_reducible exact ⟨n0, n1, n2, n3, .refl _ _⟩) | exact ⟨n0, n1, n2, n3, ⟨rfl, rfl, rfl, Nat.le_refl _, fun _ _ => rfl⟩⟩ | (go_split_ands; refine ⟨?_, ?_, ?_, ?_, ?_⟩ <;> assumption) | (go_split_ands; refine ⟨cell_later hb9 ?_, cell_later hb9 ?_, cell_later hb9 ?_, cell_later hb9 ?_, bel_step ?_ hb9⟩ <;> assumption))
        (first
          | (go_at_call 64; refine (HS.out _).mono ?_; rintro e w9 ⟨rfl, hb9⟩)
          | (go_at_call 143; go_split_ands; refine (HA.out _ (HB2.out.trans (Below.mono (by assumption) HB2.out.size))).mono ?_; rintro e w9 ⟨a9, c9, rfl, hs9, _, hb9⟩))
      all_goals
        go_wp2_with fail
        go_meet
        case rel => go_split_ands; exact ⟨a9, c9, rfl, hs9, HB2.out.trans (Below.mono (bel_step (by assumption) hb9) HB2.out.size), bel_step (by assumption) hb9⟩
    · have hms : nb = m := by rw [if_neg hns] at hmi; omega
      clear hmi HMM
      have hN : ¬ sz < nb := by omega
      have hmn : min (nb : Int) (sz : Int) = (nb : Int) := by omega
      subst hms
      go_region_held3 (fun w' => w'.cell? ⟨w.heap.size, 0, none⟩ = some (.int .i64 h.kd) ∧ w'.cell? ⟨w.heap.size, 1, none⟩ = some (.int .i64 h.w) ∧ w'.cell? ⟨w.heap.size, 2, none⟩ = some (.int .i64 h.h) ∧ w'.cell? ⟨w.heap.size, 3, none⟩ = some (.int .i64 h.m) ∧ Below w2.heap.size w2 w')
        (first | (with_reducible exact ⟨n0, n1, n2, n3, .refl _ _⟩) | exact ⟨n0, n1, n2, n3, ⟨rfl, rfl, rfl, Nat.le_refl _, fun _ _ => rfl⟩⟩ | (go_split_ands; refine ⟨?_, ?_, ?_, ?_, ?_⟩ <;> assumption) | (go_split_ands; refine ⟨cell_later hb9 ?_, cell_later hb9 ?_, cell_later hb9 ?_, cell_later hb9 ?_, bel_step ?_ hb9⟩ <;> assumption))
        (first
          | (go_at_call 64; refine (HS.out _).mono ?_; rintro e w9 ⟨rfl, hb9⟩)
          | (go_at_call 143; go_split_ands; refine (HA.out _ (HB2.out.trans (Below.mono (by assumption) HB2.out.size))).mono ?_; rintro e w9 ⟨a9, c9, rfl, hs9, _, hb9⟩))
      all_goals
        go_wp2_with fail
        go_meet
        case rel => go_split_ands; exact ⟨a9, c9, rfl, hs9, HB2.out.trans (Below.mono (bel_step (by assumption) hb9) HB2.out.size), bel_step (by assumption) hb9⟩
  case rest =>
    obtain ⟨a, c, rfl, hs6, hB6, hB7⟩ := hcut
    have HS6 := Lib.hid hs6
    have HB6 := Lib.hid hB6
    have HN3 := Lib.hid (HN2.out.later hB7)
    clear n0 n1 n2 n3 hs6 hB6 hB7 hmi hBr HN2 HB2 HN HB1 hm0 hmc HMM
    go_wp2_with fail
    go_loopw [7] (fun u7 wr => ∃ i : Nat, i ≤ n ∧ u7 = .int .i64 i ∧ Rw.badL wd h.m zs 0 = Rw.badL wd h.m (zs.drop i) i ∧ Below wc.heap.size wc wr) (fun u7 _ => n - (intOf u7).toNat)
    case atStart => exact ⟨0, Nat.zero_le _, rfl, rfl, .refl _ _⟩
    case round =>
      obtain ⟨i, hi1, rfl, hbad, hB⟩ := hrel
      have HB := Lib.hid hB
      obtain ⟨n0, n1, n2, n3⟩ := (HN3.out.later hB).cells
      have hsl := HS6.out.below hB
      by_cases hlt : i < n
      · have hdr : zs.drop i = zs.getD i 0 :: zs.drop (i + 1) := by rw [List.drop_eq_getElem_cons (by rw [HNL.out]; exact hlt), List.getD_eq_getElem?_getD, List.getElem?_eq_getElem (by rw [HNL.out]; exact hlt)]; rfl
        obtain ⟨bg, bo, hba, hbc⟩ := Rw.slk_pos hsl (by omega)
        have hcell := hbc i hlt
        obtain ⟨x, hx⟩ : ∃ x, zs.getD i 0 = x := ⟨_, rfl⟩
        obtain ⟨x0, x1⟩ := HIN.out x (by rw [← hx, List.getD_eq_getElem?_getD, List.getElem?_eq_getElem (by rw [HNL.out]; exact hlt)]; exact List.getElem_mem _)
        rw [hx] at hcell hdr
        rw [hdr] at hbad
        rw [Rw.badL_cons] at hbad
        subst hba
        obtain ⟨p1, p2⟩ := HM12.out i (by omega)
        by_cases hm : h.m < x
        · rw [if_pos hm] at hbad
          have HBD := Lib.hid hbad
          clear hbad hdr hbc hsl hB hx
          go_wp2_with (go_quiet (fail))
          go_returns
          exact ⟨by rw [HBD.out]; rfl, HB6.out.trans (Below.mono (below_drewN HB.out _) HB6.out.size)⟩
        · rw [if_neg hm] at hbad
          have HBD := Lib.hid hbad
          clear hbad hdr hbc hsl hB hx p1 p2
          go_wp2_with (go_quiet (fail))
          go_roundw
          case rel => exact ⟨i + 1, by omega, by go_num, by rw [HBD.out, Int.natCast_add]; rfl, below_drewN HB.out _⟩
          case measure => simp [intOf]; omega
      · have HBD : Hid (Rw.badL wd h.m zs 0 = 0) := Lib.hid (by rw [hbad, List.drop_of_length_le (by rw [HNL.out]; omega)]; rfl)
        clear hbad hsl hB
        go_wp2
        go_returns
        exact ⟨by rw [HBD.out]; rfl, HB6.out.trans (Below.mono HB.out HB6.out.size)⟩
end Go.Proofs.YtkjkepnailamnaaGreat
namespace Go.Proofs.YtkjkepnailamnaaGreat
open Go.RowKit
set_option linter.unusedVariables false
namespace Rw
theorem parts_part {k : Nat} {l : List Int} (hl : (parts k l).2 = []) : ∀ t : List Int, t.length < k → parts k (l ++ t) = ((parts k l).1, t) := by
  refine snoc_ind (fun _ => ?_) fun t x ih ht => ?_
  · rw [List.append_nil]; exact Prod.ext rfl hl
  · rw [List.length_append, List.length_singleton] at ht
    have h := ih (by omega)
    rw [← List.append_assoc, parts_wait (by rw [h]; show ¬ t.length + 1 = k; omega), h]
theorem parts_whole {k : Nat} {l t : List Int} (hl : (parts k l).2 = []) (hk : 1 ≤ k) (ht : t.length = k) : parts k (l ++ t) = ((parts k l).1 ++ [t], []) := by
  have hne : t ≠ [] := by intro e; subst e; simp at ht; omega
  obtain ⟨t', x, rfl⟩ : ∃ t' x, t = t' ++ [x] := ⟨_, _, (List.dropLast_concat_getLast hne).symm⟩
  rw [List.length_append, List.length_singleton] at ht
  have h := parts_part hl t' (by omega)
  rw [← List.append_assoc, parts_full (by rw [h]; exact ht), h]
def smpV (h : Hd.H) (bs : List Int) : List Int := if h.kd = 4 then (Bt.bitsOf bs).take h.w.toNat else smp h bs
theorem row_pxs {h : Hd.H} (hm : May h) (bs : List Int) : rowV h bs = pxs h (smpV h bs) := by
  unfold rowV smpV
  by_cases h4 : h.kd = 4
  · rw [if_pos h4, if_pos h4]
    unfold pxs
    rw [(hm.one h4).2.2, parts_one, List.map_map]; rfl
  · rw [if_neg h4, if_neg h4]
theorem pxs_step {h : Hd.H} {L : List Int} {i k : Nat} (hk : chan h = k) (hi : i + k ≤ L.length) (hl : (parts (chan h) (L.take i)).2 = []) : pxs h (L.take (i + k)) = pxs h (L.take i) ++ [pk ((L.drop i).take k)] ∧ (parts (chan h) (L.take (i + k))).2 = [] := by
  have e : L.take (i + k) = L.take i ++ (L.drop i).take k := by rw [List.take_add]
  have hp := parts_whole hl (chan_pos h) (t := (L.drop i).take k) (by rw [List.length_take, List.length_drop]; omega)
  unfold pxs
  rw [e, hp]
  exact ⟨by rw [List.map_append]; rfl, rfl⟩
theorem pxs_end {h : Hd.H} {L : List Int} {i : Nat} (hi : L.length < i + chan h) (hl : (parts (chan h) (L.take i)).2 = []) : pxs h L = pxs h (L.take i) := by
  have hp := parts_part hl (L.drop i) (by rw [List.length_drop]; have := chan_pos h; omega)
  rw [List.take_append_drop] at hp
  unfold pxs; rw [hp]
theorem pxs_le (h : Hd.H) (l : List Int) : (pxs h l).length ≤ l.length := by
  have h1 := pxs_len h l
  have h2 := chan_pos h
  have : (pxs h l).length * 1 ≤ (pxs h l).length * chan h := Nat.mul_le_mul_left _ h2
  omega
theorem sl_part {w : World} {g o n : Nat} {L : List Int} (h : SlK .i64 w (some ⟨g, o, none⟩) n L) {i k : Nat} (hi : i + k ≤ n) : Pq.Sl w (some ⟨g, o + i, none⟩) k ((L.drop i).take k) := by
  refine ⟨by rw [List.length_take, List.length_drop, h.1]; omega, ?_⟩
  rcases h.2 with h0 | ⟨g', o', e, hc⟩
  · exact .inl (by omega)
  · cases e
    refine .inr ⟨g, o + i, rfl, fun j hj => ?_⟩
    have := hc (i + j) (by omega)
    rw [Nat.add_assoc, this, List.getD_eq_getElem?_getD, List.getD_eq_getElem?_getD, List.getElem?_take_of_lt hj, List.getElem?_drop]
end Rw
def RowR (w : World) (l : List Int) (n : Nat) (e : Ending) (w' : World) : Prop :=
  ∃ a c, e = .returned (.slice a n c) ∧ SlK .u64 w' a n l ∧ Below w.heap.size w w'
set_option maxRecDepth 100000 in
set_option maxHeartbeats 4000000 in
theorem refRow_1 (g o : Nat) (nb cb : Nat) (bs : List Int) (h : Hd.H) (hm : Rw.May h) (h6 : h.kd ≠ 6) (hnb : nb = Rw.stride h) (w : World) (hs : Bt.Bs w (some ⟨g, o, none⟩) nb cb bs) :
    Calls Tryz.prog 109 #[.slice (some ⟨g, o, none⟩) nb cb, agH h] w (RowR w (Rw.rowV h bs) (Rw.rowV h bs).length) := by
  have hmm := hm.m
  have hst := Rw.stride_at hm
  rw [Rw.row_pxs hm]
  have hch : Rw.chan h = 1 := by unfold Rw.chan; rw [if_neg h6]
  obtain ⟨L, hL⟩ : ∃ L, Rw.smpV h bs = L := ⟨_, rfl⟩
  rw [hL]
  have hA := fun W hb => refSamples_any (some ⟨g, o, none⟩) nb cb bs (by omega) h W (hs.below hb)
  have hlen : L.length ≤ 24576 := by
    rw [← hL]; unfold Rw.smpV
    split
    · rw [List.length_take]; omega
    · have := Rw.smp_le h bs; rw [hs.1.1] at this; omega
  have hsl := Rw.smp_le h bs
  rw [hs.1.1] at hsl
  obtain ⟨n, hn⟩ : ∃ n, L.length = n := ⟨_, rfl⟩
  rw [hn] at hlen
  have HCH := Lib.hid hch
  obtain ⟨p0, pi, pz0, pz1, pz2⟩ : ∃ i, Tryz.prog.info? 55 = some i ∧ i.zero = some (.int .u64 0) ∧ i.size = 1 ∧ i.bytes = 8 := (by have h := Tryz.info_px8; cases hh : Tryz.prog.info? 55 with | none => rw [hh] at h; cases h | some i => rw [hh] at h; simp at h; exact ⟨i, rfl, h.1, h.2.1, h.2.2⟩)
  have hk6 : (h.kd == 6) = false := by simpa using h6
  have HNL := Lib.hid hn
  unfold agH at hA ⊢
  have HA := Lib.hid hA
  have HS := Lib.hid hs
  have HNB := Lib.hid hnb
  have HMY := Lib.hid hm
  have HLL := Lib.hid hL
  have HWW : Hid (h.w.toNat = h.w) := Lib.hid (by omega)
  have H6 := Lib.hid h6
  obtain ⟨bb, hbb⟩ : ∃ bb, (h.kd == 4) = bb := ⟨_, rfl⟩
  clear hA hs hsl hst hch hmm hm hL hnb hn h6
  go_enter Tryz.func109, Tryz.ntmps109
  go_upto_region 1 with fail
  generalize hW : w.alloc (.cells #[.int .i64 h.kd, .int .i64 h.w, .int .i64 h.h, .int .i64 h.m] 112) = w1
  have HN : Hid (Hb w1 w.heap.size 112 h) := by show Hb _ _ _ _; rw [← hW]; exact Hb.new w 112 h
  have HB1 : Hid (Below w.heap.size w w1) := by show Below _ _ _; rw [← hW]; exact box1' _ _
  clear hW
  obtain ⟨n0, n1, n2, n3⟩ := HN.out.cells
  go_upto_if 18 with (go_at_call 143; refine (HA.out _ HB1.out).mono ?_; rintro e w2 ⟨a2, c2, rfl, hs2, hc2, hb2⟩; have HS2 := Lib.hid hs2; have HC2 := Lib.hid hc2; have HN2 := Lib.hid (HN.out.later hb2); have HB2 := Lib.hid (HB1.out.trans (hb2.mono HB1.out.size)); obtain ⟨m0, m1, m2, m3⟩ := HN2.out.cells; clear hs2 hc2 hb2)
  go_cut [5] from 19 to 26 (fun s5 wx => ∃ a c, s5 = .slice a n c ∧ SlK .i64 wx a n L ∧ n ≤ c ∧ Hb wx w.heap.size 112 h ∧ Below w.heap.size w wx)
  case first =>
    cases bb with
    | true =>
      have h4 : h.kd = 4 := by simpa using hbb
      have hst := (Rw.stride_at HMY.out).2.2.1 h4
      have hU := fun W hb => Bt.refUnpack_any (some ⟨g, o, none⟩) nb cb bs h.w W (HS.out.below hb)
      have hbv : Bt.bytesV h.w = (Rw.stride h : Int) := by
        have hmm := HMY.out.m
        unfold Bt.bytesV; rw [if_neg (by omega), hst]
      have hre : Bt.rowE nb h.w = 0 := by
        have hs1 := (Rw.stride_at HMY.out).1
        have h9 := HNB.out
        unfold Bt.rowE; rw [hbv, if_neg (by omega), if_neg (by omega)]
      have hun : Bt.unpackV bs h.w = L := by
        rw [← HLL.out]; unfold Bt.unpackV Rw.smpV
        rw [HS.out.1.1, if_pos hre, if_pos h4]
      rw [hun, hre] at hU
      unfold Bt.UnpR at hU
      rw [HNL.out] at hU
      have HU := Lib.hid hU
      clear h4 hst hbv hre hun hU
      go_wp2_with (go_at_call 144; refine (HU.out _ HB2.out).mono ?_; rintro e w3 ⟨a3, c3, rfl, ho3, hb3⟩; have HO3 := Lib.hid ho3; have HN3 := Lib.hid (HN2.out.later hb3); have HB3 := Lib.hid (HB2.out.trans (hb3.mono HB2.out.size)); clear ho3 hb3)
      go_meet
      case rel =>
        obtain ⟨a', c', hv', hsl'⟩ := sl_of_row (z := 0) rfl HO3.out HNL.out
        cases hv'
        exact ⟨a3, c3, by rfl, hsl', Rw.row_cap HO3.out, HN3.out, HB3.out⟩
    | false =>
      have h4 : h.kd ≠ 4 := by simpa using hbb
      have HL5 : Hid (Rw.smp h bs = L) := Lib.hid (by rw [← HLL.out]; unfold Rw.smpV; rw [if_neg h4])
      clear h4
      go_wp2_with fail
      go_meet
      case rel => exact ⟨a2, c2, by rw [HL5.out, HNL.out], by have h9 := HS2.out; rw [HL5.out, HNL.out] at h9; exact h9, by have h9 := HC2.out; rw [HL5.out, HNL.out] at h9; exact h9, HN2.out, HB2.out⟩
  case rest =>
    obtain ⟨a, c, rfl, hs5, hc5, hN5, hB5⟩ := hcut
    have HS5 := Lib.hid hs5
    have HB5 := Lib.hid hB5
    have HN5 := Lib.hid hN5
    have hcc : (n : Int) ≤ (c : Int) := by omega
    clear n0 n1 n2 n3 m0 m1 m2 m3 hs5 hB5 hN5 HN HB1 HA HS2 HC2 HN2 HB2 HS HMY HLL HNB HWW H6
    obtain ⟨n0, n1, n2, n3⟩ := HN5.out.cells
    go_wp2_with fail
    go_loopw [9, 10] (fun u9 u10 wr => ∃ (i : Nat) (v : Value), i ≤ n ∧ u10 = .int .i64 i ∧ v = u9 ∧ (Rw.parts (Rw.chan h) (L.take i)).2 = [] ∧ wr.ownsRow wc.heap.size 55 1 v (Rw.pxs h (L.take i)).length (pixs (Rw.pxs h (L.take i))) ∧ Below wc.heap.size wc wr) (fun _ u10 _ => n - (intOf u10).toNat)
    case atStart => exact ⟨0, _, Nat.zero_le _, rfl, rfl, rfl, World.ownsRow_nil _ _ _ _, .refl _ _⟩
    case round =>
      obtain ⟨i, v, hi1, rfl, rfl, hrs, hrow, hBc⟩ := hrel
      have HRS := Lib.hid hrs
      have HBC := Lib.hid hBc
      have HRW := Lib.hid hrow
      have hle := Rw.pxs_le h (L.take i)
      rw [List.length_take] at hle
      obtain ⟨m, hmn⟩ : ∃ m, (Rw.pxs h (L.take i)).length = m := ⟨_, rfl⟩
      have HML := Lib.hid hmn
      rw [hmn] at hrow hle
      have HROW := Lib.hid hrow
      have q1 : m + 1 ≤ maxLen := by unfold maxLen; omega
      have q2 : (m + 1) * 8 ≤ 140737488355328 := by omega
      have q3 := hBc.size
      have hsl := HS5.out.below hBc
      clear hrow hrs hle hmn hBc
      by_cases hlt : i + 1 ≤ n
      · have hle : (i : Int) + 1 ≤ (n : Int) := by omega
        have hle2 : (i : Int) + 1 ≤ (c : Int) := by omega
        have hi0 : (0 : Int) ≤ (i : Int) := by omega
        have hi2 : (i : Int) ≤ (i : Int) + 1 := by omega
        obtain ⟨bg, bo, hba, hbc⟩ := Rw.slk_pos hsl (by omega)
        subst hba
        have HPT := Lib.hid (Rw.sl_part hsl hlt)
        have HST := Lib.hid (Rw.pxs_step HCH.out (by rw [HNL.out]; exact hlt) HRS.out)
        obtain ⟨pt, hpt⟩ : ∃ pt, (L.drop i).take 1 = pt := ⟨_, rfl⟩
        rw [hpt] at HPT HST
        obtain ⟨p, hp⟩ : ∃ p, Pq.Px.packV pt = p := ⟨_, rfl⟩
        have HPK : Hid (∀ cq W, Pq.Sl W (some ⟨bg, bo + i, none⟩) 1 pt → Calls Tryz.prog 75 #[.slice (some ⟨bg, bo + i, none⟩) 1 cq] W fun e w' => e = .returned (.tuple #[.int .u64 p.1, .int .i64 p.2]) ∧ W = w') := Lib.hid fun cq W hW => by
          have h9 := Pq.refPack_any (some ⟨bg, bo + i, none⟩) 1 cq pt W (by omega) hW
          rw [hp] at h9; exact h9
        have HPP : Hid (Rw.pk pt = p.1) := Lib.hid (by unfold Rw.pk; rw [hp])
        clear hbc hsl hp hpt
        go_wp2_with (first | (go_at_call 75; refine (HPK.out _ _ HPT.out).mono ?_; rintro e w9 ⟨rfl, rfl⟩) | (at_builtin; refine Rw.wpList_app1 rfl _ _ 30 rfl wc.heap.size 55 p0 (.int .u64 0) 8 Tryz.underlying30 pi pz0 rfl pz1 pz2 v m (pixs (Rw.pxs h (L.take i))) rfl (HROW.out.alloc _) wr.heap.size (.int .u64 p.1) rfl rfl (by rw [World.cell?_alloc_at _ _ _ _ rfl]; rfl) q1 q2 (Nat.le_trans q3 (by simp)) ?_; intro v3 w3 hown hgrow hat; have HO3 := Lib.hid hown; have HC3 := Lib.hid ((HBC.out.alloc q3 _).grown hgrow (Nat.le_trans q3 (by simp)) (fun j ej => (HROW.out.lt j ej).1)); clear hown hgrow hat))
        go_roundw
        case rel => exact ⟨i + 1, v3, hlt, by go_num, rfl, HST.out.2, by rw [HST.out.1, List.length_append, HML.out, HPP.out]; have h := HO3.out; unfold pixs at h ⊢; rw [List.map_append]; exact h, HC3.out⟩
        case measure => simp [intOf]; omega
      · have hle : ¬ (i : Int) + 1 ≤ (n : Int) := by omega
        have HE : Hid (Rw.pxs h L = Rw.pxs h (L.take i)) := Lib.hid (Rw.pxs_end (by rw [HNL.out, HCH.out]; omega) HRS.out)
        clear hsl
        go_wp2
        go_ret
        rw [HE.out]
        obtain ⟨a9, c9, rfl, hsl9⟩ := slk_row HRW.out rfl
        exact ⟨a9, c9, rfl, hsl9, HB5.out.trans (Below.mono HBC.out HB5.out.size)⟩
set_option maxRecDepth 100000 in
set_option maxHeartbeats 4000000 in
theorem refRow_3 (g o : Nat) (nb cb : Nat) (bs : List Int) (h : Hd.H) (hm : Rw.May h) (h6 : h.kd = 6) (hnb : nb = Rw.stride h) (w : World) (hs : Bt.Bs w (some ⟨g, o, none⟩) nb cb bs) :
    Calls Tryz.prog 109 #[.slice (some ⟨g, o, none⟩) nb cb, agH h] w (RowR w (Rw.rowV h bs) (Rw.rowV h bs).length) := by
  have hmm := hm.m
  have hst := Rw.stride_at hm
  rw [Rw.row_pxs hm]
  have hch : Rw.chan h = 3 := by unfold Rw.chan; rw [if_pos h6]
  obtain ⟨L, hL⟩ : ∃ L, Rw.smpV h bs = L := ⟨_, rfl⟩
  rw [hL]
  have hA := fun W hb => refSamples_any (some ⟨g, o, none⟩) nb cb bs (by omega) h W (hs.below hb)
  have hlen : L.length ≤ 24576 := by
    rw [← hL]; unfold Rw.smpV
    split
    · rw [List.length_take]; omega
    · have := Rw.smp_le h bs; rw [hs.1.1] at this; omega
  have hsl := Rw.smp_le h bs
  rw [hs.1.1] at hsl
  obtain ⟨n, hn⟩ : ∃ n, L.length = n := ⟨_, rfl⟩
  rw [hn] at hlen
  have HCH := Lib.hid hch
  obtain ⟨p0, pi, pz0, pz1, pz2⟩ : ∃ i, Tryz.prog.info? 55 = some i ∧ i.zero = some (.int .u64 0) ∧ i.size = 1 ∧ i.bytes = 8 := (by have h := Tryz.info_px8; cases hh : Tryz.prog.info? 55 with | none => rw [hh] at h; cases h | some i => rw [hh] at h; simp at h; exact ⟨i, rfl, h.1, h.2.1, h.2.2⟩)
  have hk6 : (h.kd == 6) = true := by simpa using h6
  have HNL := Lib.hid hn
  unfold agH at hA ⊢
  have HA := Lib.hid hA
  have HS := Lib.hid hs
  have HNB := Lib.hid hnb
  have HMY := Lib.hid hm
  have HLL := Lib.hid hL
  have HWW : Hid (h.w.toNat = h.w) := Lib.hid (by omega)
  have H6 := Lib.hid h6
  obtain ⟨bb, hbb⟩ : ∃ bb, (h.kd == 4) = bb := ⟨_, rfl⟩
  clear hA hs hsl hst hch hmm hm hL hnb hn h6
  go_enter Tryz.func109, Tryz.ntmps109
  go_upto_region 1 with fail
  generalize hW : w.alloc (.cells #[.int .i64 h.kd, .int .i64 h.w, .int .i64 h.h, .int .i64 h.m] 112) = w1
  have HN : Hid (Hb w1 w.heap.size 112 h) := by show Hb _ _ _ _; rw [← hW]; exact Hb.new w 112 h
  have HB1 : Hid (Below w.heap.size w w1) := by show Below _ _ _; rw [← hW]; exact box1' _ _
  clear hW
  obtain ⟨n0, n1, n2, n3⟩ := HN.out.cells
  go_upto_if 18 with (go_at_call 143; refine (HA.out _ HB1.out).mono ?_; rintro e w2 ⟨a2, c2, rfl, hs2, hc2, hb2⟩; have HS2 := Lib.hid hs2; have HC2 := Lib.hid hc2; have HN2 := Lib.hid (HN.out.later hb2); have HB2 := Lib.hid (HB1.out.trans (hb2.mono HB1.out.size)); obtain ⟨m0, m1, m2, m3⟩ := HN2.out.cells; clear hs2 hc2 hb2)
  go_cut [5] from 19 to 26 (fun s5 wx => ∃ a c, s5 = .slice a n c ∧ SlK .i64 wx a n L ∧ n ≤ c ∧ Hb wx w.heap.size 112 h ∧ Below w.heap.size w wx)
  case first =>
    have h6 : h.kd = 6 := H6.out
    have h4 : h.kd ≠ 4 := by omega
    cases bb with
    | true => exact absurd (show h.kd = 4 by simpa using hbb) h4
    | false =>
      have HL5 : Hid (Rw.smp h bs = L) := Lib.hid (by rw [← HLL.out]; unfold Rw.smpV; rw [if_neg h4])
      clear h4 h6
      go_wp2_with fail
      go_meet
      case rel => exact ⟨a2, c2, by rw [HL5.out, HNL.out], by have h9 := HS2.out; rw [HL5.out, HNL.out] at h9; exact h9, by have h9 := HC2.out; rw [HL5.out, HNL.out] at h9; exact h9, HN2.out, HB2.out⟩
  case rest =>
    obtain ⟨a, c, rfl, hs5, hc5, hN5, hB5⟩ := hcut
    have HS5 := Lib.hid hs5
    have HB5 := Lib.hid hB5
    have HN5 := Lib.hid hN5
    have hcc : (n : Int) ≤ (c : Int) := by omega
    clear n0 n1 n2 n3 m0 m1 m2 m3 hs5 hB5 hN5 HN HB1 HA HS2 HC2 HN2 HB2 HS HMY HLL HNB HWW H6
    obtain ⟨n0, n1, n2, n3⟩ := HN5.out.cells
    go_wp2_with fail
    go_loopw [9, 10] (fun u9 u10 wr => ∃ (i : Nat) (v : Value), i ≤ n ∧ u10 = .int .i64 i ∧ v = u9 ∧ (Rw.parts (Rw.chan h) (L.take i)).2 = [] ∧ wr.ownsRow wc.heap.size 55 1 v (Rw.pxs h (L.take i)).length (pixs (Rw.pxs h (L.take i))) ∧ Below wc.heap.size wc wr) (fun _ u10 _ => n - (intOf u10).toNat)
    case atStart => exact ⟨0, _, Nat.zero_le _, rfl, rfl, rfl, World.ownsRow_nil _ _ _ _, .refl _ _⟩
    case round =>
      obtain ⟨i, v, hi1, rfl, rfl, hrs, hrow, hBc⟩ := hrel
      have HRS := Lib.hid hrs
      have HBC := Lib.hid hBc
      have HRW := Lib.hid hrow
      have hle := Rw.pxs_le h (L.take i)
      rw [List.length_take] at hle
      obtain ⟨m, hmn⟩ : ∃ m, (Rw.pxs h (L.take i)).length = m := ⟨_, rfl⟩
      have HML := Lib.hid hmn
      rw [hmn] at hrow hle
      have HROW := Lib.hid hrow
      have q1 : m + 1 ≤ maxLen := by unfold maxLen; omega
      have q2 : (m + 1) * 8 ≤ 140737488355328 := by omega
      have q3 := hBc.size
      have hsl := HS5.out.below hBc
      clear hrow hrs hle hmn hBc
      by_cases hlt : i + 3 ≤ n
      · have hle : (i : Int) + 3 ≤ (n : Int) := by omega
        have hle2 : (i : Int) + 3 ≤ (c : Int) := by omega
        have hi0 : (0 : Int) ≤ (i : Int) := by omega
        have hi2 : (i : Int) ≤ (i : Int) + 3 := by omega
        obtain ⟨bg, bo, hba, hbc⟩ := Rw.slk_pos hsl (by omega)
        subst hba
        have HPT := Lib.hid (Rw.sl_part hsl hlt)
        have HST := Lib.hid (Rw.pxs_step HCH.out (by rw [HNL.out]; exact hlt) HRS.out)
        obtain ⟨pt, hpt⟩ : ∃ pt, (L.drop i).take 3 = pt := ⟨_, rfl⟩
        rw [hpt] at HPT HST
        obtain ⟨p, hp⟩ : ∃ p, Pq.Px.packV pt = p := ⟨_, rfl⟩
        have HPK : Hid (∀ cq W, Pq.Sl W (some ⟨bg, bo + i, none⟩) 3 pt → Calls Tryz.prog 75 #[.slice (some ⟨bg, bo + i, none⟩) 3 cq] W fun e w' => e = .returned (.tuple #[.int .u64 p.1, .int .i64 p.2]) ∧ W = w') := Lib.hid fun cq W hW => by
          have h9 := Pq.refPack_any (some ⟨bg, bo + i, none⟩) 3 cq pt W (by omega) hW
          rw [hp] at h9; exact h9
        have HPP : Hid (Rw.pk pt = p.1) := Lib.hid (by unfold Rw.pk; rw [hp])
        clear hbc hsl hp hpt
        go_wp2_with (first | (go_at_call 75; refine (HPK.out _ _ HPT.out).mono ?_; rintro e w9 ⟨rfl, rfl⟩) | (at_builtin; refine Rw.wpList_app1 rfl _ _ 30 rfl wc.heap.size 55 p0 (.int .u64 0) 8 Tryz.underlying30 pi pz0 rfl pz1 pz2 v m (pixs (Rw.pxs h (L.take i))) rfl (HROW.out.alloc _) wr.heap.size (.int .u64 p.1) rfl rfl (by rw [World.cell?_alloc_at _ _ _ _ rfl]; rfl) q1 q2 (Nat.le_trans q3 (by simp)) ?_; intro v3 w3 hown hgrow hat; have HO3 := Lib.hid hown; have HC3 := Lib.hid ((HBC.out.alloc q3 _).grown hgrow (Nat.le_trans q3 (by simp)) (fun j ej => (HROW.out.lt j ej).1)); clear hown hgrow hat))
        go_roundw
        case rel => exact ⟨i + 3, v3, hlt, by go_num, rfl, HST.out.2, by rw [HST.out.1, List.length_append, HML.out, HPP.out]; have h := HO3.out; unfold pixs at h ⊢; rw [List.map_append]; exact h, HC3.out⟩
        case measure => simp [intOf]; omega
      · have hle : ¬ (i : Int) + 3 ≤ (n : Int) := by omega
        have HE : Hid (Rw.pxs h L = Rw.pxs h (L.take i)) := Lib.hid (Rw.pxs_end (by rw [HNL.out, HCH.out]; omega) HRS.out)
        clear hsl
        go_wp2
        go_ret
        rw [HE.out]
        obtain ⟨a9, c9, rfl, hsl9⟩ := slk_row HRW.out rfl
        exact ⟨a9, c9, rfl, hsl9, HB5.out.trans (Below.mono HBC.out HB5.out.size)⟩
theorem refRow_any (g o : Nat) (nb cb : Nat) (bs : List Int) (h : Hd.H) (hm : Rw.May h) (hnb : nb = Rw.stride h) (w : World) (hs : Bt.Bs w (some ⟨g, o, none⟩) nb cb bs) :
    Calls Tryz.prog 109 #[.slice (some ⟨g, o, none⟩) nb cb, agH h] w (RowR w (Rw.rowV h bs) (Rw.rowV h bs).length) := by
  by_cases h6 : h.kd = 6
  · exact refRow_3 g o nb cb bs h hm h6 hnb w hs
  · exact refRow_1 g o nb cb bs h hm h6 hnb w hs
end Go.Proofs.YtkjkepnailamnaaGreat
namespace Go.Proofs.YtkjkepnailamnaaGreat
open Go.RowKit
set_option linter.unusedVariables false
namespace Rw
def curAt (h : Hd.H) (bs : List Int) (i : Nat) : List Int := (bs.take i).drop (i / stride h * stride h)
def st (h : Hd.H) (bs : List Int) (i : Nat) : S := ⟨h, curAt h bs i, ((i / stride h : Nat) : Int), Hj.size h - (i : Int), 0⟩
def rowsV (h : Hd.H) (bs : List Int) : Nat → List Int
  | 0 => []
  | y + 1 => rowsV h bs y ++ rowV h ((bs.drop (y * stride h)).take (stride h))
def badN (h : Hd.H) (bs : List Int) (i : Nat) : Int := if h.kd = 4 then 0 else badL (wide h) h.m (smp h (bs.take i)) 0
theorem badV_eq (h : Hd.H) (bs : List Int) : badV h bs = badN h bs (Hj.size h).toNat := rfl
theorem badL_snoc (w m : Int) (w0 : 1 ≤ w) (x : Int) : ∀ (l : List Int) (i : Int), 0 ≤ i → badL w m (l ++ [x]) i = if badL w m l i ≠ 0 then badL w m l i else if m < x then w * (i + l.length + 1) else 0
  | [], i, hi => by
    show badL w m [x] i = _
    rw [badL_cons]
    show (if m < x then w * (i + 1) else 0) = if (0 : Int) ≠ 0 then 0 else if m < x then w * (i + ((0 : Nat) : Int) + 1) else 0
    rw [if_neg (show ¬ (0 : Int) ≠ 0 by omega)]
    split
    · congr 1; omega
    · rfl
  | y :: l, i, hi => by
    rw [List.cons_append, badL_cons, badL_cons]
    by_cases hy : m < y
    · rw [if_pos hy, if_pos hy, if_pos]
      have : 1 * 1 ≤ w * (i + 1) := Int.mul_le_mul w0 (by omega) (by omega) (by omega)
      omega
    · rw [if_neg hy, if_neg hy, badL_snoc w m w0 x l (i + 1) (by omega)]
      have e : i + 1 + (l.length : Int) + 1 = i + ((y :: l).length : Int) + 1 := by rw [List.length_cons]; omega
      rw [e]
theorem badN_zero (h : Hd.H) (bs : List Int) : badN h bs 0 = 0 := by
  unfold badN
  split
  · rfl
  · rfl
theorem badN_succ (h : Hd.H) (bs : List Int) (i : Nat) (hi : i < bs.length) : badN h bs (i + 1) = if badN h bs i ≠ 0 then badN h bs i else if bad h (bs.take i) (bs.getD i 0) then ((i + 1 : Nat) : Int) else 0 := by
  unfold badN
  by_cases h4 : h.kd = 4
  · rw [if_pos h4, if_pos h4, if_neg (by omega), if_neg]
    intro hb; exact hb.1 h4
  rw [if_neg h4, if_neg h4, take_snoc1 bs i hi]
  have hw := wide_at h
  by_cases hf : (parts (wide h) (bs.take i)).2.length + 1 = wide h
  · rw [smp_more hf, badL_snoc _ _ (by omega) _ _ _ (Int.le_refl _)]
    have hl := smp_len h (bs.take i)
    rw [List.length_take, Nat.min_eq_left (by omega)] at hl
    have e : (wide h : Int) * (0 + ((smp h (bs.take i)).length : Int) + 1) = ((i + 1 : Nat) : Int) := by
      have e1 : (smp h (bs.take i)).length * wide h + wide h = i + 1 := by omega
      have e2 : ((smp h (bs.take i)).length + 1) * wide h = i + 1 := by rw [Nat.add_mul, Nat.one_mul]; exact e1
      rw [← e2, Int.natCast_mul, Int.mul_comm]
      congr 1; omega
    rw [e]
    have eb : bad h (bs.take i) (bs.getD i 0) ↔ h.m < val ((parts (wide h) (bs.take i)).2 ++ [bs.getD i 0]) := ⟨fun hb => hb.2.2, fun hv => ⟨h4, hf, hv⟩⟩
    by_cases hv : h.m < val ((parts (wide h) (bs.take i)).2 ++ [bs.getD i 0])
    · rw [if_pos hv, if_pos (eb.2 hv)]
    · rw [if_neg hv, if_neg fun hb => hv (eb.1 hb)]
  · rw [smp_wait hf, if_neg (c := bad _ _ _) fun hb => hf hb.2.1]
    split
    · rfl
    · rename_i h0; exact Classical.not_not.1 h0
theorem badN_stays (h : Hd.H) (bs : List Int) {i : Nat} (hb : badN h bs i ≠ 0) : ∀ j, i ≤ j → j ≤ bs.length → badN h bs j = badN h bs i := by
  intro j hij
  induction j with
  | zero => intro _; have : i = 0 := by omega
            subst this; rfl
  | succ j ih =>
    intro hj
    by_cases he : i = j + 1
    · subst he; rfl
    · have h1 := ih (by omega) (by omega)
      rw [badN_succ h bs j (by omega), h1, if_pos hb]
theorem badN_early (h : Hd.H) (bs : List Int) {i j : Nat} (hij : i ≤ j) (hj : j ≤ bs.length) (hb : badN h bs j = 0) : badN h bs i = 0 := by
  by_cases h0 : badN h bs i = 0
  · exact h0
  · exact absurd (badN_stays h bs h0 j hij hj) (by rw [hb]; exact fun e => h0 e.symm)
theorem badN_over (h : Hd.H) (bs : List Int) {i : Nat} (hi : bs.length ≤ i) : badN h bs i = badN h bs bs.length := by unfold badN; rw [List.take_of_length_le hi, List.take_length]
theorem badN_nonneg (h : Hd.H) (bs : List Int) (i : Nat) : 0 ≤ badN h bs i := by
  unfold badN
  split
  · omega
  · exact badL_le _ _ (by omega) _ _ (Int.le_refl _)
theorem parts_app {k : Nat} {a : List Int} (ha : (parts k a).2 = []) : ∀ b : List Int, parts k (a ++ b) = ((parts k a).1 ++ (parts k b).1, (parts k b).2) := by
  refine snoc_ind ?_ fun b x ih => ?_
  · rw [List.append_nil, parts_nil, List.append_nil]; exact Prod.ext rfl ha
  · rw [← List.append_assoc]
    by_cases hf : (parts k b).2.length + 1 = k
    · rw [parts_full (by rw [ih]; exact hf), parts_full hf, ih]; simp
    · rw [parts_wait (by rw [ih]; exact hf), parts_wait hf, ih]
theorem parts_mul {k : Nat} (hk : 1 ≤ k) {a : List Int} {q : Nat} (ha : a.length = q * k) : (parts k a).2 = [] := by
  obtain ⟨h1, h2, _⟩ := parts_at hk a
  rw [ha] at h2
  have h3 : (parts k a).2.length % k = 0 := by
    have : (parts k a).2.length = q * k - (parts k a).1.length * k := by omega
    rw [this, ← Nat.sub_mul, Nat.mul_mod_left]
  rw [Nat.mod_eq_of_lt h1] at h3
  exact List.eq_nil_of_length_eq_zero h3
theorem stride_wide (h : Hd.H) (hm : May h) : ∃ c, stride h = c * wide h := by
  by_cases h4 : h.kd = 4
  · exact ⟨stride h, by rw [(hm.one h4).2.1, Nat.mul_one]⟩
  · refine ⟨h.w.toNat * chan h, ?_⟩
    unfold stride; rw [if_neg h4, Nat.mul_assoc]
theorem cur_split (h : Hd.H) (bs : List Int) (i : Nat) : bs.take (i / stride h * stride h) ++ curAt h bs i = bs.take i := by
  unfold curAt
  have hle : i / stride h * stride h ≤ i := Nat.div_mul_le_self _ _
  have e : bs.take (i / stride h * stride h) = (bs.take i).take (i / stride h * stride h) := by rw [List.take_take, Nat.min_eq_left hle]
  rw [e, List.take_append_drop]
theorem rest_cur {h : Hd.H} (hm : May h) (bs : List Int) {i : Nat} (hi : i ≤ bs.length) : rest h (bs.take i) = rest h (curAt h bs i) := by
  obtain ⟨c, hc⟩ := stride_wide h hm
  have hle : i / stride h * stride h ≤ i := Nat.div_mul_le_self _ _
  have h0 : (parts (wide h) (bs.take (i / stride h * stride h))).2 = [] := parts_mul (wide_pos h) (q := i / stride h * c) (by rw [List.length_take, Nat.min_eq_left (by omega), Nat.mul_assoc, ← hc])
  unfold rest
  rw [← cur_split h bs i, parts_app h0]
theorem bad_cur {h : Hd.H} (hm : May h) (bs : List Int) {i : Nat} (hi : i ≤ bs.length) (c : Int) : bad h (bs.take i) c ↔ bad h (curAt h bs i) c := by
  have := rest_cur hm bs hi
  unfold rest at this
  unfold bad
  rw [this]
theorem cur_len {h : Hd.H} (hm : May h) (bs : List Int) {i : Nat} (hi : i ≤ bs.length) : (curAt h bs i).length = i % stride h := by
  have hs := (stride_at hm).1
  have := Nat.div_add_mod i (stride h)
  rw [Nat.mul_comm] at this
  unfold curAt; rw [List.length_drop, List.length_take, Nat.min_eq_left hi]; omega
theorem cur_more {h : Hd.H} (bs : List Int) {i : Nat} (hi : i < bs.length) : curAt h bs i ++ [bs.getD i 0] = (bs.take (i + 1)).drop (i / stride h * stride h) := by
  have hle : i / stride h * stride h ≤ i := Nat.div_mul_le_self _ _
  unfold curAt
  rw [take_snoc1 bs i hi, List.drop_append_of_le_length (by rw [List.length_take, Nat.min_eq_left (by omega)]; exact hle)]
end Rw
end Go.Proofs.YtkjkepnailamnaaGreat
namespace Go.Proofs.YtkjkepnailamnaaGreat
open Go.RowKit
set_option linter.unusedVariables false
namespace Rw
theorem dm_lt {i W : Nat} (h : i % W + 1 < W) : (i + 1) / W = i / W ∧ (i + 1) % W = i % W + 1 := by
  have h0 := Nat.div_add_mod i W
  have hW : 0 < W := by omega
  have e : i + 1 = W * (i / W) + (i % W + 1) := by omega
  constructor
  · rw [e, Nat.mul_add_div hW, Nat.div_eq_of_lt h, Nat.add_zero]
  · rw [e, Nat.mul_add_mod, Nat.mod_eq_of_lt h]
theorem dm_eq {i W : Nat} (h : i % W + 1 = W) : (i + 1) / W = i / W + 1 ∧ (i + 1) % W = 0 := by
  have h0 := Nat.div_add_mod i W
  have hW : 0 < W := by omega
  have e : i + 1 = W * (i / W + 1) := by rw [Nat.mul_add, Nat.mul_one]; omega
  constructor
  · rw [e, Nat.mul_div_cancel_left _ hW]
  · rw [e, Nat.mul_mod_right]
theorem st_zero {h : Hd.H} (hm : May h) (bs : List Int) : st h bs 0 = new h := by
  unfold st new curAt
  simp
theorem put_st {h : Hd.H} (hm : May h) (bs : List Int) {i : Nat} (hi : i < bs.length) (hsz : (i : Int) < Hj.size h) (hb : badN h bs (i + 1) = 0) :
    put (st h bs i) (bs.getD i 0) = (st h bs (i + 1), if (i + 1) % stride h = 0 then rowV h ((bs.drop (i / stride h * stride h)).take (stride h)) else []) := by
  have hs := (stride_at hm).1
  have hb0 := badN_early h bs (Nat.le_succ i) (by omega) hb
  have hnb : ¬ bad h (curAt h bs i) (bs.getD i 0) := fun hbd => by
    rw [badN_succ h bs i hi, hb0, if_neg (by omega), if_pos ((bad_cur hm bs (by omega) _).2 hbd)] at hb
    omega
  have hcl := cur_len hm bs (i := i) (by omega)
  have hml := Nat.mod_lt i hs
  unfold put
  rw [if_neg (show ¬ (st h bs i).left = 0 by show ¬ Hj.size h - (i : Int) = 0; omega), if_neg (show ¬ bad (st h bs i).h (st h bs i).cur (bs.getD i 0) from hnb)]
  have hcl' : (st h bs i).cur.length = i % stride h := hcl
  rw [hcl']
  show (if i % stride h + 1 = stride h then _ else _) = _
  by_cases he : i % stride h + 1 = stride h
  · obtain ⟨d1, d2⟩ := dm_eq he
    rw [if_pos he, if_pos d2]
    have e1 : i / stride h * stride h + stride h = i + 1 := by have := Nat.div_add_mod i (stride h); rw [Nat.mul_comm] at this; omega
    refine Prod.ext ?_ ?_
    · show (⟨h, [], ((i / stride h : Nat) : Int) + 1, Hj.size h - (i : Int) - 1, 0⟩ : S) = st h bs (i + 1)
      unfold st
      have e2 : curAt h bs (i + 1) = [] := List.eq_nil_of_length_eq_zero (by rw [cur_len hm bs hi, d2])
      rw [e2, d1]
      congr 1; omega
    · show rowV h (curAt h bs i ++ [bs.getD i 0]) = rowV h _
      rw [cur_more bs hi, ← e1, List.drop_take]
      congr 2; omega
  · obtain ⟨d1, d2⟩ := dm_lt (show i % stride h + 1 < stride h by omega)
    rw [if_neg he, if_neg (by omega)]
    refine Prod.ext ?_ rfl
    show (⟨h, curAt h bs i ++ [bs.getD i 0], ((i / stride h : Nat) : Int), Hj.size h - (i : Int) - 1, 0⟩ : S) = st h bs (i + 1)
    unfold st
    have e2 : curAt h bs (i + 1) = curAt h bs i ++ [bs.getD i 0] := by rw [cur_more bs hi]; unfold curAt; rw [d1]
    rw [e2, d1]
    congr 1; omega
theorem put_wrong {h : Hd.H} (hm : May h) (bs : List Int) {i : Nat} (hi : i < bs.length) (hsz : (i : Int) < Hj.size h) (hb0 : badN h bs i = 0) (hb : badN h bs (i + 1) ≠ 0) :
    put (st h bs i) (bs.getD i 0) = (⟨h, curAt h bs i, ((i / stride h : Nat) : Int), 0, 5⟩, []) ∧ badN h bs (i + 1) = ((i + 1 : Nat) : Int) := by
  have hbd : bad h (bs.take i) (bs.getD i 0) := by
    rw [badN_succ h bs i hi, hb0, if_neg (by omega)] at hb
    by_cases hbd : bad h (bs.take i) (bs.getD i 0)
    · exact hbd
    · rw [if_neg hbd] at hb; exact absurd rfl hb
  refine ⟨?_, ?_⟩
  · unfold put
    rw [if_neg (show ¬ (st h bs i).left = 0 by show ¬ Hj.size h - (i : Int) = 0; omega), if_pos (show bad (st h bs i).h (st h bs i).cur (bs.getD i 0) from (bad_cur hm bs (by omega) _).1 hbd)]
    rfl
  · rw [badN_succ h bs i hi, hb0, if_neg (by omega), if_pos hbd]
theorem size_nat {h : Hd.H} (hm : May h) : ∃ H sz : Nat, h.h = (H : Int) ∧ Hj.size h = (sz : Int) ∧ sz = H * stride h ∧ 1 ≤ H := by
  have hmm := hm.m
  refine ⟨h.h.toNat, h.h.toNat * stride h, by omega, ?_, rfl, by omega⟩
  rw [size_eq hm, Int.natCast_mul]
  congr 1; omega
def refV (h : Hd.H) (bs : List Int) : List Int × Int :=
  if 0 < badV h bs then ([], 5) else if (bs.length : Int) < Hj.size h then ([], 6) else (rowsV h bs h.h.toNat, 0)
theorem last_st {h : Hd.H} (bs : List Int) {i : Nat} (hsz : (i : Int) < Hj.size h) : last (st h bs i) = 0 := by
  show (if (0 : Int) ≠ 0 then (2 : Int) else if Hj.size h - (i : Int) = 0 then 1 else 0) = 0
  rw [if_neg (by omega), if_neg (by omega)]
theorem last_st1 {h : Hd.H} (bs : List Int) {i : Nat} (hsz : (i : Int) = Hj.size h) : last (st h bs i) = 1 := by
  show (if (0 : Int) ≠ 0 then (2 : Int) else if Hj.size h - (i : Int) = 0 then 1 else 0) = 1
  rw [if_neg (by omega), if_pos (by omega)]
theorem readF_st {h : Hd.H} (hm : May h) (bs : List Int) : ∀ (d i : Nat), bs.length - i = d → i ≤ bs.length → (i : Int) < Hj.size h → badN h bs i = 0 → readF (st h bs i) (rowsV h bs (i / stride h)) (bs.drop i) = refV h bs := by
  obtain ⟨H, sz, hH, hsz, hszm, H1⟩ := size_nat hm
  have hs := (stride_at hm).1
  intro d
  induction d with
  | zero =>
    intro i hd hi hlt hb
    have e : i = bs.length := by omega
    subst e
    rw [List.drop_length, readF_nil]
    unfold refV
    have hbv : badV h bs = 0 := by rw [badV_eq, hsz, badN_over h bs (by show bs.length ≤ sz; omega)]; exact hb
    rw [hbv, if_neg (by omega), if_pos hlt]
  | succ d ih =>
    intro i hd hi hlt hb
    have hil : i < bs.length := by omega
    have hdr : bs.drop i = bs.getD i 0 :: bs.drop (i + 1) := by rw [List.drop_eq_getElem_cons hil, List.getD_eq_getElem?_getD, List.getElem?_eq_getElem hil]; rfl
    rw [hdr]
    by_cases hb1 : badN h bs (i + 1) = 0
    · have hp := put_st hm bs hil hlt hb1
      have hrow : rowsV h bs (i / stride h) ++ (if (i + 1) % stride h = 0 then rowV h ((bs.drop (i / stride h * stride h)).take (stride h)) else []) = rowsV h bs ((i + 1) / stride h) := by
        have hml := Nat.mod_lt i hs
        by_cases he : i % stride h + 1 = stride h
        · obtain ⟨d1, d2⟩ := dm_eq he
          rw [if_pos d2, d1]; rfl
        · obtain ⟨d1, d2⟩ := dm_lt (show i % stride h + 1 < stride h by omega)
          rw [if_neg (by omega), d1, List.append_nil]
      by_cases hlt1 : ((i + 1 : Nat) : Int) < Hj.size h
      · rw [readF_more hp (last_st bs hlt1)]
        show readF (st h bs (i + 1)) (rowsV h bs (i / stride h) ++ _) _ = _
        rw [hrow]
        exact ih (i + 1) (by omega) (by omega) hlt1 hb1
      · have e1 : ((i + 1 : Nat) : Int) = Hj.size h := by omega
        rw [readF_over hp (last_st1 bs e1)]
        show (rowsV h bs (i / stride h) ++ _, (0 : Int)) = _
        rw [hrow]
        have e2 : i + 1 = sz := by omega
        have hbv : badV h bs = 0 := by rw [badV_eq, hsz]; show badN h bs sz = 0; rw [← e2]; exact hb1
        unfold refV
        rw [hbv, if_neg (by omega), if_neg (by omega), e2, hszm, Nat.mul_div_cancel _ hs]
        congr 2; omega
    · obtain ⟨hp, hv⟩ := put_wrong hm bs hil hlt hb hb1
      rw [readF_wrong hp rfl]
      have hbv : badV h bs = ((i + 1 : Nat) : Int) := by
        rw [badV_eq, hsz]
        show badN h bs sz = _
        by_cases hle : sz ≤ bs.length
        · rw [badN_stays h bs hb1 sz (by omega) hle, hv]
        · rw [badN_over h bs (by omega), badN_stays h bs hb1 bs.length (by omega) (Nat.le_refl _), hv]
      unfold refV
      rw [hbv, if_pos (by omega)]
theorem readV_ref {h : Hd.H} (hm : May h) (bs : List Int) : readV h bs = refV h bs := by
  obtain ⟨H, sz, hH, hsz, hszm, H1⟩ := size_nat hm
  have hs := (stride_at hm).1
  have h1 := size_pos hm
  unfold readV
  rw [if_pos hm, ← st_zero hm bs]
  have := readF_st hm bs bs.length 0 (by omega) (by omega) (by omega) (badN_zero h bs)
  rw [Nat.zero_div] at this
  exact this
end Rw
end Go.Proofs.YtkjkepnailamnaaGreat
namespace Go.Proofs.YtkjkepnailamnaaGreat
open Go.RowKit
set_option linter.unusedVariables false
namespace Rw
def wbs (h : Hd.H) (s : Int) : List Int := if wide h = 2 then [s / 256, s % 256] else [s % 256]
def bts (h : Hd.H) (p : Int) : List Int := (Pq.Px.smp p).flatMap (wbs h)
def s0 (p : Int) : Int := (Pq.Px.smp p).getD 0 0
def rowB (h : Hd.H) (row : List Int) : List Int := if h.kd = 4 then Bt.packB (row.map s0) else row.flatMap (bts h)
def wRows (h : Hd.H) (l : List Int) (W : Nat) : Nat → List Int
  | 0 => []
  | y + 1 => wRows h l W y ++ rowB h ((l.drop (y * W)).take W)
theorem good_smp {h : Hd.H} (hm : May h) {p : Int} (hp : Pq.GoodP p (Hj.chan h) h.m) : (Pq.Px.smp p).length = chan h ∧ (∀ s ∈ Pq.Px.smp p, 0 ≤ s ∧ s ≤ h.m) ∧ pk (Pq.Px.smp p) = p := by
  have hc := chan_eq hm
  have hcc := chan_at h
  rcases hp with ⟨h3, x, y, z, hi, hx, hy, hz⟩ | ⟨h1, x, hi, hx⟩
  · obtain ⟨e0, a1, a2, a3, a4, a5, a6⟩ := id hi
    rw [Pq.Px.smp3 hi]
    refine ⟨by simp; omega, ?_, ?_⟩
    · intro s hs
      simp only [List.mem_cons, List.not_mem_nil, or_false] at hs
      rcases hs with rfl | rfl | rfl <;> exact ⟨by assumption, by assumption⟩
    · show (Pq.Px.packV [x, y, z]).1 = p
      rw [Pq.Px.packV3 a1 a2 a3 a4 a5 a6, e0]
  · obtain ⟨e0, a1, a2⟩ := id hi
    rw [Pq.Px.smp1 hi]
    refine ⟨by simp; omega, ?_, ?_⟩
    · intro s hs
      simp only [List.mem_cons, List.not_mem_nil, or_false] at hs
      subst hs; exact ⟨a1, hx⟩
    · show (Pq.Px.packV [x]).1 = p
      rw [Pq.Px.packV1 a1 a2, e0]
theorem wbs_len (h : Hd.H) (s : Int) : (wbs h s).length = wide h := by
  unfold wbs
  rcases wide_at h with ⟨_, e⟩ | ⟨_, e⟩ <;> rw [e] <;> rfl
theorem wbs_val {h : Hd.H} (hm : May h) {s : Int} (s0 : 0 ≤ s) (s1 : s ≤ h.m) : val (wbs h s) = s := by
  have hmm := hm.m
  unfold wbs
  rcases wide_at h with ⟨h1, e⟩ | ⟨h1, e⟩ <;> rw [e]
  · show val [s / 256, s % 256] = s; rw [val_two]; omega
  · show val [s % 256] = s; rw [val_one]; omega
theorem flat_len {f : Int → List Int} {k : Nat} : ∀ l : List Int, (∀ x ∈ l, (f x).length = k) → (l.flatMap f).length = l.length * k
  | [], _ => by simp
  | x :: l, hx => by
    rw [List.flatMap_cons, List.length_append, hx x (List.mem_cons_self ..), flat_len l fun y hy => hx y (List.mem_cons_of_mem _ hy), List.length_cons, Nat.add_mul, Nat.one_mul, Nat.add_comm]
theorem parts_flat {k : Nat} (hk : 1 ≤ k) : ∀ ts : List (List Int), (∀ t ∈ ts, t.length = k) → parts k ts.flatten = (ts, [])
  | [], _ => rfl
  | t :: ts, ht => by
    have h1 : parts k t = ([t], []) := by have := parts_whole (k := k) (l := []) rfl hk (ht t (List.mem_cons_self ..)); simpa [parts_nil] using this
    rw [List.flatten_cons, parts_app (by rw [h1]), h1, parts_flat hk ts fun u hu => ht u (List.mem_cons_of_mem _ hu)]
    rfl
section
variable {h : Hd.H} (hm : May h) {l : List Int} (hl : Pl.Fits h l)
include hm hl
theorem all_smp : ∀ s ∈ l.flatMap Pq.Px.smp, 0 ≤ s ∧ s ≤ h.m := by
  intro s hs
  obtain ⟨p, hp, hs⟩ := List.mem_flatMap.1 hs
  exact (good_smp hm (hl p hp)).2.1 s hs
theorem smp_bts : smp h (l.flatMap (bts h)) = l.flatMap Pq.Px.smp ∧ rest h (l.flatMap (bts h)) = [] := by
  have e : l.flatMap (bts h) = ((l.flatMap Pq.Px.smp).map (wbs h)).flatten := by
    rw [← List.flatMap_def, List.flatMap_assoc]; rfl
  have hp := parts_flat (wide_pos h) ((l.flatMap Pq.Px.smp).map (wbs h)) fun t ht => by
    obtain ⟨s, _, rfl⟩ := List.mem_map.1 ht
    exact wbs_len h s
  unfold smp rest
  rw [e, hp]
  refine ⟨?_, rfl⟩
  show ((l.flatMap Pq.Px.smp).map (wbs h)).map val = _
  rw [List.map_map]
  conv => rhs; rw [← List.map_id (l.flatMap Pq.Px.smp)]
  refine List.map_congr_left fun s hs => ?_
  obtain ⟨a, b⟩ := all_smp hm hl s hs
  exact wbs_val hm a b
theorem pxs_smp : pxs h (l.flatMap Pq.Px.smp) = l := by
  have hp := parts_flat (chan_pos h) (l.map Pq.Px.smp) fun t ht => by
    obtain ⟨p, hp, rfl⟩ := List.mem_map.1 ht
    exact (good_smp hm (hl p hp)).1
  unfold pxs
  rw [List.flatMap_def, hp]
  show (l.map Pq.Px.smp).map pk = l
  rw [List.map_map]
  conv => rhs; rw [← List.map_id l]
  exact List.map_congr_left fun p hp => (good_smp hm (hl p hp)).2.2
theorem bits_one (h4 : h.kd = 4) : ∀ p ∈ l, (s0 p = 0 ∨ s0 p = 1) ∧ pk [s0 p] = p := by
  intro p hp
  obtain ⟨a, b, c⟩ := good_smp hm (hl p hp)
  have h11 := hm.one h4
  rw [h11.2.2] at a
  obtain ⟨x, hx⟩ : ∃ x, Pq.Px.smp p = [x] := by
    match h' : Pq.Px.smp p with
    | [x] => exact ⟨x, rfl⟩
    | [] => rw [h'] at a; simp at a
    | x :: y :: t => rw [h'] at a; simp at a
  have hs : s0 p = x := by unfold s0; rw [hx]; rfl
  rw [hs]
  rw [hx] at c
  have := b x (by rw [hx]; simp)
  exact ⟨by omega, c⟩
theorem row_back {W : Nat} (hW : h.w = (W : Int)) (hL : l.length = W) : rowV h (rowB h l) = l ∧ (rowB h l).length = stride h := by
  have hmm := hm.m
  have hs := stride_at hm
  unfold rowV rowB
  by_cases h4 : h.kd = 4
  · rw [if_pos h4, if_pos h4]
    have h5 := hs.2.2.1 h4
    have ho : Bt.Ones (l.map s0) := by
      intro x hx
      obtain ⟨p, hp, rfl⟩ := List.mem_map.1 hx
      exact (bits_one hm hl h4 p hp).1
    have hb := Bt.bits_pack (stride h) (l.map s0) (by rw [List.length_map]; omega) (by rw [List.length_map]; omega) ho
    refine ⟨?_, Bt.packB_len (stride h) (l.map s0) (by rw [List.length_map]; omega) (by rw [List.length_map]; omega)⟩
    rw [hb, List.take_append_of_le_length (by rw [List.length_map]; omega), List.take_of_length_le (by rw [List.length_map]; omega), List.map_map]
    conv => rhs; rw [← List.map_id l]
    exact List.map_congr_left fun p hp => (bits_one hm hl h4 p hp).2
  · rw [if_neg h4, if_neg h4]
    refine ⟨by rw [(smp_bts hm hl).1, pxs_smp hm hl], ?_⟩
    have hb : ∀ p ∈ l, (bts h p).length = chan h * wide h := fun p hp => by
      unfold bts
      rw [flat_len _ fun s _ => wbs_len h s, (good_smp hm (hl p hp)).1]
    rw [flat_len l hb, hL]
    unfold stride
    rw [if_neg h4]
    congr 1; omega
end
theorem fits_sub {h : Hd.H} {l : List Int} (hl : Pl.Fits h l) (a n : Nat) : Pl.Fits h ((l.drop a).take n) := fun p hp => hl p (List.mem_of_mem_drop (List.mem_of_mem_take hp))
theorem part_len {l : List Int} {W H : Nat} (hL : l.length = W * H) {y : Nat} (hy : y < H) : ((l.drop (y * W)).take W).length = W := by
  have h1 : (y + 1) * W ≤ H * W := Nat.mul_le_mul_right W hy
  rw [Nat.add_mul, Nat.one_mul, Nat.mul_comm H W] at h1
  rw [List.length_take, List.length_drop, hL]; omega
theorem wRows_flat {h : Hd.H} (l : List Int) (W : Nat) (h4 : h.kd ≠ 4) : ∀ y, wRows h l W y = (l.take (y * W)).flatMap (bts h)
  | 0 => by simp [wRows]
  | y + 1 => by
    show wRows h l W y ++ rowB h _ = _
    unfold rowB
    rw [wRows_flat l W h4 y, if_neg h4, Nat.add_mul, Nat.one_mul, List.take_add, List.flatMap_append]
theorem badL_none (w m : Int) : ∀ (l : List Int) (i : Int), (∀ x ∈ l, x ≤ m) → badL w m l i = 0
  | [], i, _ => rfl
  | x :: l, i, hx => by
    rw [badL_cons, if_neg (by have := hx x (List.mem_cons_self ..); omega)]
    exact badL_none w m l (i + 1) fun y hy => hx y (List.mem_cons_of_mem _ hy)
theorem row_in {h : Hd.H} (hm : May h) {l : List Int} (hl : Pl.Fits h l) : ∀ z ∈ rowB h l, 0 ≤ z ∧ z ≤ 255 := by
  have hmm := hm.m
  unfold rowB
  by_cases h4 : h.kd = 4
  · rw [if_pos h4]
    exact Bt.packB_byte _ fun x hx => by
      obtain ⟨p, hp, rfl⟩ := List.mem_map.1 hx
      exact (bits_one hm hl h4 p hp).1
  · rw [if_neg h4]
    intro z hz
    obtain ⟨p, hp, hz⟩ := List.mem_flatMap.1 hz
    obtain ⟨s, hs, hz⟩ := List.mem_flatMap.1 hz
    have hsm := (good_smp hm (hl p hp)).2.1 s hs
    unfold wbs at hz
    split at hz
    · simp only [List.mem_cons, List.not_mem_nil, or_false] at hz
      rcases hz with rfl | rfl <;> omega
    · simp only [List.mem_cons, List.not_mem_nil, or_false] at hz
      subst hz; omega
theorem wRows_in {h : Hd.H} (hm : May h) {l : List Int} (hl : Pl.Fits h l) {W : Nat} : ∀ y, ∀ z ∈ wRows h l W y, 0 ≤ z ∧ z ≤ 255
  | 0, z, hz => by cases hz
  | y + 1, z, hz => by
    rcases List.mem_append.1 hz with hz | hz
    · exact wRows_in hm hl y z hz
    · exact row_in hm (fits_sub hl (y * W) W) z hz
theorem bad_none {h : Hd.H} (hm : May h) {l : List Int} (hl : Pl.Fits h l) {W H : Nat} (hL : l.length = W * H) (i : Nat) (hi : i ≤ (wRows h l W H).length) : badN h (wRows h l W H) i = 0 := by
  refine badN_early h _ hi (Nat.le_refl _) ?_
  unfold badN
  by_cases h4 : h.kd = 4
  · rw [if_pos h4]
  · rw [if_neg h4, List.take_length, wRows_flat l W h4 H, List.take_of_length_le (by rw [hL, Nat.mul_comm]; exact Nat.le_refl _), (smp_bts hm hl).1]
    exact badL_none _ _ _ _ fun x hx => (all_smp hm hl x hx).2
section
variable {h : Hd.H} (hm : May h) {l : List Int} (hl : Pl.Fits h l) {W H : Nat} (hW : h.w = (W : Int)) (hL : l.length = W * H)
include hm hl hW hL
theorem wRows_len : ∀ y, y ≤ H → (wRows h l W y).length = y * stride h
  | 0, _ => by simp [wRows]
  | y + 1, hy => by
    show (wRows h l W y ++ _).length = _
    rw [List.length_append, wRows_len y (by omega), (row_back hm (fits_sub hl (y * W) W) hW (part_len hL (by omega))).2, Nat.add_mul, Nat.one_mul]
theorem wRows_take : ∀ z y, y ≤ z → z ≤ H → (wRows h l W z).take (y * stride h) = wRows h l W y
  | 0, y, hy, _ => by
    have : y = 0 := by omega
    subst this; simp [wRows]
  | z + 1, y, hy, hz => by
    by_cases he : y = z + 1
    · subst he
      rw [List.take_of_length_le (by rw [wRows_len hm hl hW hL _ hz]; exact Nat.le_refl _)]
    · show (wRows h l W z ++ _).take _ = _
      rw [List.take_append_of_le_length (by rw [wRows_len hm hl hW hL z (by omega)]; exact Nat.mul_le_mul_right _ (by omega))]
      exact wRows_take z y (by omega) (by omega)
theorem wRows_part {y : Nat} (hy : y < H) (more : List Int) : ((wRows h l W H ++ more).drop (y * stride h)).take (stride h) = rowB h ((l.drop (y * W)).take W) := by
  have h1 := wRows_take hm hl hW hL H (y + 1) (by omega) (Nat.le_refl _)
  have h2 := wRows_len hm hl hW hL y (by omega)
  have h3 := wRows_len hm hl hW hL H (Nat.le_refl _)
  have h4 : (y + 1) * stride h ≤ H * stride h := Nat.mul_le_mul_right _ hy
  have e : (wRows h l W H ++ more).take ((y + 1) * stride h) = wRows h l W y ++ rowB h ((l.drop (y * W)).take W) := by
    rw [List.take_append_of_le_length (by rw [h3]; exact h4), h1]; rfl
  have e2 : ((wRows h l W H ++ more).drop (y * stride h)).take (stride h) = ((wRows h l W H ++ more).take ((y + 1) * stride h)).drop (y * stride h) := by
    rw [List.drop_take]
    congr 1
    rw [Nat.add_mul, Nat.one_mul]; omega
  rw [e2, e, List.drop_append_of_le_length (by rw [h2]; exact Nat.le_refl _), List.drop_of_length_le (by rw [h2]; exact Nat.le_refl _), List.nil_append]
theorem rows_back (more : List Int) : ∀ y, y ≤ H → rowsV h (wRows h l W H ++ more) y = l.take (y * W)
  | 0, _ => by simp [rowsV]
  | y + 1, hy => by
    show rowsV h _ y ++ rowV h _ = _
    rw [rows_back more y (by omega), wRows_part hm hl hW hL (show y < H by omega) more, (row_back hm (fits_sub hl (y * W) W) hW (part_len hL (by omega))).1, Nat.add_mul, Nat.one_mul, List.take_add]
end
end Rw
end Go.Proofs.YtkjkepnailamnaaGreat
namespace Go.Proofs.YtkjkepnailamnaaGreat
open Go.RowKit
set_option linter.unusedVariables false
def Rw.refReadV (h : Hd.H) (bs : List Int) : List Int × Int := if Rw.May h then Rw.refV h bs else ([], 1)
theorem Rw.readV_same (h : Hd.H) (bs : List Int) : Rw.readV h bs = Rw.refReadV h bs := by
  unfold Rw.refReadV
  by_cases hm : Rw.May h
  · rw [if_pos hm, Rw.readV_ref hm]
  · rw [if_neg hm]; exact if_neg hm
theorem Rw.rows_len {h : Hd.H} (hm : Rw.May h) (bs : List Int) : ∀ y, (Rw.rowsV h bs y).length ≤ 4096 * y
  | 0 => by simp [Rw.rowsV]
  | y + 1 => by
    have hmm := hm.m
    have ih := Rw.rows_len hm bs y
    have h1 := (Rw.row_len hm ((bs.drop (y * Rw.stride h)).take (Rw.stride h))).2.2 (List.length_take_le _ _)
    show (Rw.rowsV h bs y ++ _).length ≤ _
    rw [List.length_append]; omega
theorem rwz_bs {w : World} {g o nb cb : Nat} {bs : List Int} (h : Bt.Bs w (some ⟨g, o, none⟩) nb cb bs) {p n : Nat} (hp : p + n ≤ nb) : Bt.Bs w (some ⟨g, o + p, none⟩) n (cb - p) ((bs.drop p).take n) := by
  obtain ⟨⟨hl, hs⟩, hc, hm, hby⟩ := h
  refine ⟨⟨by rw [List.length_take, List.length_drop, hl]; omega, ?_⟩, by omega, by omega, fun z hz => hby z (List.mem_of_mem_drop (List.mem_of_mem_take hz))⟩
  rcases hs with h0 | ⟨g', o', e, hcell⟩
  · exact .inl (by omega)
  · cases e
    refine .inr ⟨g, o + p, rfl, fun i hi => ?_⟩
    rw [Nat.add_assoc, hcell (p + i) (by omega), List.getD_eq_getElem?_getD, List.getD_eq_getElem?_getD, List.getElem?_take_of_lt hi, List.getElem?_drop]
set_option maxRecDepth 100000 in
set_option maxHeartbeats 8000000 in
theorem refRead_any (ab : Option Addr) (nb cb : Nat) (bs : List Int) (hnb : nb ≤ 100000) (G : Hd.H) (hf : Hj.Fit G) (w : World) (hs : Bt.Bs w ab nb cb bs) :
    Calls Tryz.prog 63 #[.slice ab nb cb, agH G] w (RwdR (Rw.refReadV G bs) w) := by
  unfold Rw.refReadV
  have hM := refRwMay_any G hf
  by_cases hm : Rw.May G
  · rw [if_pos hm]
    simp only [decide_eq_true hm] at hM
    obtain ⟨H, sz, hH, hsz, hszm, H1⟩ := Rw.size_nat hm
    have hst := Rw.stride_at hm
    have hmm := hm.m
    have hBD := fun W hb => refBad_any ab nb cb bs hnb hs.2.1 G hm W (hs.below hb)
    have hSZ := fun W => refSize_any G hm.1 W
    have hSD := fun W => refStride_any G hm.1 W
    have hsv : Rw.strideV G = (Rw.stride G : Int) := if_pos hm.2
    have hbv := Rw.badN_nonneg G bs (Hj.size G).toNat
    rw [← Rw.badV_eq] at hbv
    have hval : Rw.refV G bs = if 0 < Rw.badV G bs then ([], 5) else if (bs.length : Int) < Hj.size G then ([], 6) else (Rw.rowsV G bs G.h.toNat, 0) := rfl
    have hRW := fun W hb (p : Nat) (hp : p + Rw.stride G ≤ nb) g o (e : ab = some ⟨g, o, none⟩) => refRow_any g (o + p) (Rw.stride G) (cb - p) ((bs.drop p).take (Rw.stride G)) G hm rfl W (rwz_bs (by rw [e] at hs; exact hs.below hb) hp)
    rw [hsv] at hSD
    rw [hsz] at hSZ hval
    rw [hs.1.1] at hval
    rw [hval]
    obtain ⟨bad, hbd⟩ : ∃ bad, Rw.badV G bs = bad := ⟨_, rfl⟩
    rw [hbd] at hBD hbv ⊢
    obtain ⟨n, hn⟩ : ∃ n, Rw.stride G = n := ⟨_, rfl⟩
    have HRL := Lib.hid (Rw.rows_len hm bs)
    have HRS : Hid (∀ y, Rw.rowsV G bs (y + 1) = Rw.rowsV G bs y ++ Rw.rowV G ((bs.drop (y * n)).take n)) := Lib.hid fun y => by rw [← hn]; rfl
    have HR0 : Hid (Rw.rowsV G bs 0 = []) := Lib.hid rfl
    have HRN : Hid (∀ p, (Rw.rowV G ((bs.drop p).take n)).length ≤ 4096) := Lib.hid fun p => by
      have := (Rw.row_len hm ((bs.drop p).take n)).2.2 (by rw [hn]; exact List.length_take_le _ _)
      omega
    have HRN1 : Hid (∀ p, p + n ≤ nb → 1 ≤ (Rw.rowV G ((bs.drop p).take n)).length) := Lib.hid fun p hp => by
      have := (Rw.row_len hm ((bs.drop p).take n)).2.1 (by rw [hn, List.length_take, List.length_drop, hs.1.1]; omega)
      omega
    rw [hn] at hSD hRW hszm hst
    have hst1 := hst.1
    obtain ⟨p0, pi, pz0, pz1, pz2⟩ : ∃ i, Tryz.prog.info? 55 = some i ∧ i.zero = some (.int .u64 0) ∧ i.size = 1 ∧ i.bytes = 8 := (by have G := Tryz.info_px8; cases hh : Tryz.prog.info? 55 with | none => rw [hh] at G; cases G | some i => rw [hh] at G; simp at G; exact ⟨i, rfl, G.1, G.2.1, G.2.2⟩)
    have HAB : Hid (sz ≤ nb → ∃ g o, ab = some ⟨g, o, none⟩) := Lib.hid fun hle => by
      have h1 : 1 * 1 ≤ H * n := Nat.mul_le_mul H1 hst.1
      obtain ⟨g, o, e, _⟩ := Rw.slk_pos hs.1 (by omega)
      exact ⟨g, o, e⟩
    have h9 : (sz : Int) ≤ 1610612736 := by
      have := Rw.left_le (Rw.good_new hm)
      have e : (Rw.new G).left = Hj.size G := rfl
      rw [e, hsz] at this; exact this
    have H65 : H ≤ 65536 := by omega
    have hHN : G.h.toNat = H := by omega
    have n24 : n ≤ 24576 := hst.2.1
    have hcbb := hs.2.1
    unfold agH at hM hBD hSZ hSD hRW ⊢
    have HM := Lib.hid hM
    have HBD := Lib.hid hBD
    have HSZ := Lib.hid hSZ
    have HSD := Lib.hid hSD
    have HRW := Lib.hid hRW
    have HSM := Lib.hid hszm
    have HCB := Lib.hid hcbb
    have HHH := Lib.hid hH
    rw [hHN]
    clear hM hBD hSZ hSD hRW hszm hcbb hst hmm hs hf hm hsz hval hsv hbd hn hHN hH
    go_enter Tryz.func63, Tryz.ntmps63
    go_upto_region 1 with fail
    generalize hW : w.alloc (.cells #[.int .i64 G.kd, .int .i64 G.w, .int .i64 G.h, .int .i64 G.m] 112) = w1
    have HN : Hid (Hb w1 w.heap.size 112 G) := by show Hb _ _ _ _; rw [← hW]; exact Hb.new w 112 G
    have HB1 : Hid (Below w.heap.size w w1) := by show Below _ _ _; rw [← hW]; exact box1' _ _
    clear hW
    obtain ⟨n0, n1, n2, n3⟩ := HN.out.cells
    go_upto_region 4 with (go_at_call 92; refine (HM.out _).mono ?_; rintro e w2 ⟨rfl, hb2⟩; have HB2 := Lib.hid (HB1.out.trans (hb2.mono HB1.out.size)); have HN2 := Lib.hid (HN.out.later hb2); clear hb2)
    clear n0 n1 n2 n3 HB1 HN
    obtain ⟨n0, n1, n2, n3⟩ := HN2.out.cells
    by_cases hb : 0 < bad
    · rw [if_pos hb]
      have hbt : decide (0 < bad) = true := decide_eq_true hb
      clear hbv
      go_wp2_with (go_at_call 107; refine (HBD.out _ HB2.out).mono ?_; rintro e w3 ⟨rfl, hb3⟩; have HB3 := Lib.hid (HB2.out.trans (hb3.mono HB2.out.size)); clear hb3)
      go_returns
      exact rwd_nil rfl HB3.out
    rw [if_neg hb]
    obtain rfl : bad = 0 := by omega
    clear hb hbv
    go_upto_region 6 with (go_at_call 107; refine (HBD.out _ HB2.out).mono ?_; rintro e w3 ⟨rfl, hb3⟩; have HB3 := Lib.hid (HB2.out.trans (hb3.mono HB2.out.size)); have HN3 := Lib.hid (HN2.out.later hb3); clear hb3)
    clear n0 n1 n2 n3 HB2 HN2
    obtain ⟨n0, n1, n2, n3⟩ := HN3.out.cells
    by_cases hlt : (nb : Int) < (sz : Int)
    · rw [if_pos hlt]
      have hltn : nb < sz := by omega
      go_wp2_with (go_at_call 64; refine (HSZ.out _).mono ?_; rintro e w4 ⟨rfl, hb4⟩; have HB4 := Lib.hid (HB3.out.trans (hb4.mono HB3.out.size)); clear hb4)
      go_returns
      exact rwd_nil rfl HB4.out
    rw [if_neg hlt]
    have hltn : ¬ nb < sz := by omega
    go_upto_region 9 with (go_at_call 64; refine (HSZ.out _).mono ?_; rintro e w4 ⟨rfl, hb4⟩; have HB4 := Lib.hid (HB3.out.trans (hb4.mono HB3.out.size)); have HN4 := Lib.hid (HN3.out.later hb4); clear hb4)
    clear n0 n1 n2 n3 HB3 HN3
    obtain ⟨n0, n1, n2, n3⟩ := HN4.out.cells
    obtain ⟨g, o, hgo⟩ := HAB.out (by omega)
    subst hgo
    go_upto_region 10 with (go_at_call 108; refine (HSD.out _).mono ?_; rintro e w5 ⟨rfl, hb5⟩; have HB5 := Lib.hid (HB4.out.trans (hb5.mono HB4.out.size)); have HN5 := Lib.hid (HN4.out.later hb5); clear hb5)
    clear n0 n1 n2 n3 HB4 HN4 HAB HBD HSZ HSD HM
    go_wp2_with fail
    go_loopw [7, 9] (fun u7 u9 wr => ∃ (y : Nat) (v : Value), y ≤ H ∧ u9 = .int .i64 y ∧ v = u7 ∧ wr.ownsRow w5.heap.size 55 1 v (Rw.rowsV G bs y).length (pixs (Rw.rowsV G bs y)) ∧ Below w5.heap.size w5 wr) (fun _ u9 _ => H - (intOf u9).toNat)
    case atStart => exact ⟨0, _, Nat.zero_le _, rfl, rfl, World.ownsRow_nil _ _ _ _, .refl _ _⟩
    case round =>
      obtain ⟨y, v, hy1, rfl, rfl, hrow, hB⟩ := hrel
      have HBY := Lib.hid hB
      have HRWY := Lib.hid hrow
      have HNY := Lib.hid (HN5.out.later hB)
      obtain ⟨n0, n1, n2, n3⟩ := HNY.out.cells
      have hrl := HRL.out y
      obtain ⟨m, hm⟩ : ∃ m, (Rw.rowsV G bs y).length = m := ⟨_, rfl⟩
      rw [hm] at hrow hrl
      have HROW := Lib.hid hrow
      have HML := Lib.hid hm
      have q3 := hB.size
      clear hrow hm hB
      by_cases hyH : y < H
      · have hlt2 : (y : Int) < G.h := by rw [HHH.out]; omega
        obtain ⟨p, hp⟩ : ∃ p, y * n = p := ⟨_, rfl⟩
        have hpn : p + n ≤ nb := by
          have h1 : (y + 1) * n ≤ H * n := Nat.mul_le_mul_right n hyH
          rw [Nat.add_mul, Nat.one_mul, hp] at h1
          have := HSM.out; omega
        have HPN := Lib.hid hpn
        have hRR := fun W hb => HRW.out W hb p hpn g o rfl
        have hst := HRS.out y
        rw [hp] at hst
        have HST := Lib.hid hst
        have hr4 := HRN.out p
        have hr1 := HRN1.out p hpn
        obtain ⟨R, hR⟩ : ∃ R, Rw.rowV G ((bs.drop p).take n) = R := ⟨_, rfl⟩
        rw [hR] at hRR hst hr4 hr1 HST
        obtain ⟨r, hr⟩ : ∃ r, R.length = r := ⟨_, rfl⟩
        rw [hr] at hRR hr4 hr1
        have HRL2 := Lib.hid hr
        have HRR := Lib.hid hRR
        obtain ⟨q, hq⟩ : ∃ q, p + n = q := ⟨_, rfl⟩
        have hqc : (q : Int) ≤ (cb : Int) := by have := HCB.out; omega
        have hp0 : (0 : Int) ≤ (p : Int) := by omega
        have hpq : (p : Int) ≤ (q : Int) := by omega
        have hqn : q - p = n := by omega
        have hcp : ¬ cb = p := by have := HCB.out; omega
        have w1' : IntKind.i64.wrap ((y : Int) * (n : Int)) = (p : Int) := by rw [← Int.natCast_mul, hp, IntWalk.i64_in _ (by omega)]
        have w2' : IntKind.i64.wrap ((p : Int) + (n : Int)) = (q : Int) := by rw [← Int.natCast_add, hq, IntWalk.i64_in _ (by omega)]
        have m1 : m + r ≤ maxLen := by unfold maxLen; omega
        have m2 : (m + r) * 8 ≤ 140737488355328 := by omega
        clear hst hRR hR hr hq hp hpn hrl hr4
        go_upto_region 13 with fail
        go_region_law (first
          | (refine step_append_lies _ rfl _ _ 30 rfl w5.heap.size 55 p0 (.int .u64 0) 1 8 Tryz.underlying30 pi pz0 pz1 pz2 rfl (by decide) v m _ rfl HO9.out ad9 r c9 (R.map (Value.int .u64)) rfl (by rw [List.length_map, HRL2.out, Nat.mul_one]) hsr9 (Rw.one_px _) hr1 m1 m2 hz9 _ rfl ?_; intro gg cc w6 hown' hgrow' _ _)
          | (go_simp; go_at_call 109; refine (HRR.out _ (HB5.out.trans (Below.mono (by first | exact HBY.out | exact HBY.out.drew) HB5.out.size))).mono ?_; rintro e w9 ⟨a9, c9, rfl, hs9, hb9⟩; have hB9 : Below wr.heap.size wr w9 := (by first | exact hb9 | exact Below.trans (b := wr.drew) ⟨rfl, rfl, rfl, Nat.le_refl _, fun _ _ => rfl⟩ hb9); have HO9 := Lib.hid (below_row HROW.out hB9); have hz9 : w5.heap.size ≤ w9.heap.size := Nat.le_trans q3 hB9.size; obtain ⟨ad9, had9, hsr9⟩ := Rw.slk_src hs9 hr1; subst had9; clear hs9 hb9))
        all_goals
          have HO6 := Lib.hid hown'
          have HB6 := Lib.hid ((HBY.out.trans (hB9.mono q3)).grown hgrow' hz9 (fun j ej => (HO9.out.lt j ej).1))
          clear hown' hgrow'
          clear w1' w2'
          go_wp2_with fail
          go_roundw
          case rel => exact ⟨y + 1, _, by omega, by go_num, rfl, by rw [HST.out, List.length_append, HML.out, HRL2.out]; have h9 := HO6.out; unfold pixs at h9 ⊢; rw [List.map_append]; exact h9, HB6.out⟩
          case measure => simp [intOf]; omega
      · have hlt2 : ¬ (y : Int) < G.h := by rw [HHH.out]; omega
        obtain rfl : y = H := by omega
        go_wp2
        go_returns
        exact rwd_row rfl HRWY.out rfl (HB5.out.trans (Below.mono HBY.out HB5.out.size))
  · rw [if_neg hm]
    simp only [decide_eq_false hm] at hM
    unfold agH at hM ⊢
    have HM := Lib.hid hM
    clear hM hm hf hs
    go_enter Tryz.func63, Tryz.ntmps63
    go_wp2_with (go_at_call 92; refine (HM.out _).mono ?_; rintro e w2 ⟨rfl, hb2⟩; have HB2 := Lib.hid (((Below.refl _ w).alloc (Nat.le_refl _) _).trans (hb2.mono (by simp))))
    go_returns
    exact rwd_nil rfl HB2.out
end Go.Proofs.YtkjkepnailamnaaGreat
namespace Go.Proofs.YtkjkepnailamnaaGreat
open Go.RowKit
set_option linter.unusedVariables false
def Im.cutA (a : Option Addr) (cap s : Nat) : Option Addr := if cap = s then a else a.map (·.add s)
theorem Im.run_cut (a : Option Addr) (len cap s : Nat) (hs : s ≤ len) (W : World) :
    (Instr.slice 22 (.slice a len cap) (some (.int .i64 s)) none none).run Tryz.prog W = .ok (.slice (Im.cutA a cap s) (len - s) (cap - s)) W := by
  rw [run_slice_l W 22 a len cap (by kernel_rfl) .i64 s (by omega) (by omega)]
  have hz : (sizeOf (Tryz.prog.elem 22)).run Tryz.prog W = .ok 1 W := by kernel_rfl
  rw [hz]
  simp [Result.andThen, sliced, Im.cutA]
theorem Im.cut_bs {w : World} {a : Option Addr} {len cap s : Nat} {zs : List Int} (h : Bt.Bs w a len cap zs) (hs : s ≤ len) : Bt.Bs w (Im.cutA a cap s) (len - s) (cap - s) (zs.drop s) := by
  obtain ⟨⟨h1, h2⟩, h3, h4, h5⟩ := h
  refine ⟨⟨by rw [List.length_drop, h1], ?_⟩, by omega, by omega, fun z hz => h5 z (List.mem_of_mem_drop hz)⟩
  by_cases h0 : len - s = 0
  · exact .inl h0
  right
  rcases h2 with h2 | ⟨g, o, rfl, hc⟩
  · omega
  · refine ⟨g, o + s, by simp [Im.cutA, Addr.add, show ¬ cap = s by omega], fun i hi => ?_⟩
    rw [Nat.add_assoc, hc (s + i) (by omega), List.getD_eq_getElem?_getD, List.getD_eq_getElem?_getD, List.getElem?_drop]
def Im.readV (h : Hd.H) (bs : List Int) : List Int × Int × Int := if 3 < h.kd then ((Rw.readV h bs).1, Hj.size h, (Rw.readV h bs).2) else Pl.readV h bs
structure Im.P where
  c : Int
  m : Int
  w : Int
  h : Int
  l : List Int
  u : Int
  e : Int
def Im.bad (e : Int) : Im.P := ⟨0, 0, 0, 0, [], 0, e⟩
def Im.parseV (lim : Hd.L) (bs : List Int) : Im.P :=
  if (Hd.parseV lim bs).2.2 = 0 then
    (if (Im.readV (Hd.parseV lim bs).1 (bs.drop (Hd.parseV lim bs).2.1.toNat)).2.2 = 0 then
      ⟨Hj.chan (Hd.parseV lim bs).1, (Hd.parseV lim bs).1.m, (Hd.parseV lim bs).1.w, (Hd.parseV lim bs).1.h, (Im.readV (Hd.parseV lim bs).1 (bs.drop (Hd.parseV lim bs).2.1.toNat)).1, (Hd.parseV lim bs).2.1 + (Im.readV (Hd.parseV lim bs).1 (bs.drop (Hd.parseV lim bs).2.1.toNat)).2.1, 0⟩
    else Im.bad (Im.readV (Hd.parseV lim bs).1 (bs.drop (Hd.parseV lim bs).2.1.toNat)).2.2)
  else Im.bad (Hd.parseV lim bs).2.2
theorem Im.parse_head {lim : Hd.L} {bs : List Int} {h : Hd.H} {u e : Int} (hp : Hd.parseV lim bs = (h, u, e)) (he : e ≠ 0) : Im.parseV lim bs = Im.bad e := by
  unfold Im.parseV; rw [hp]; simp only; rw [if_neg he]
theorem Im.parse_read {lim : Hd.L} {bs : List Int} {h : Hd.H} {u : Int} (hp : Hd.parseV lim bs = (h, u, 0)) {l : List Int} {k e : Int} (hr : Im.readV h (bs.drop u.toNat) = (l, k, e)) (he : e ≠ 0) : Im.parseV lim bs = Im.bad e := by
  unfold Im.parseV; rw [hp]; simp only [if_true]; rw [hr]; simp only; rw [if_neg he]
theorem Im.parse_all {lim : Hd.L} {bs : List Int} {h : Hd.H} {u : Int} (hp : Hd.parseV lim bs = (h, u, 0)) {l : List Int} {k : Int} (hr : Im.readV h (bs.drop u.toNat) = (l, k, 0)) : Im.parseV lim bs = ⟨Hj.chan h, h.m, h.w, h.h, l, u + k, 0⟩ := by
  unfold Im.parseV; rw [hp]; simp only [if_true]; rw [hr]; simp only [if_true]
def ImParR (t : Im.P) (w : World) (e : Ending) (w' : World) : Prop :=
  ∃ a cap, e = .returned (.tuple #[agI t.c t.m t.w t.h (.slice a t.l.length cap), .int .i64 t.u, .int .i64 t.e]) ∧ SlK .u64 w' a t.l.length t.l ∧ Below w.heap.size w w'
set_option maxHeartbeats 1000000 in
theorem imRead_any (a : Option Addr) (nb cb : Nat) (bs : List Int) (hnb : nb ≤ 100000) (h : Hd.H) (hm : Hd.May h) (w : World) (hs : Bt.Bs w a nb cb bs) :
    Calls Tryz.prog 58 #[.slice a nb cb, agH h] w (RdR (Im.readV h bs) w) := by
  have hf := Hj.may_fit hm
  have HR := Lib.hid (hraw_any h hm)
  have HSZ := Lib.hid (hsize_any h hm)
  have hsz : (strOfNums bs).size ≤ 100000 := by rw [strOfNums_size, hs.1.1]; exact hnb
  have HP := Lib.hid (plRead_any (strOfNums bs) hsz h hf)
  rw [bytesOf_strOfNums hs.2.2.2] at HP
  have HW : Hid (∀ W, Below w.heap.size w W → Calls Tryz.prog 99 #[.slice a nb cb, agH h] W (RwdR (Rw.readV h bs) W)) := Lib.hid fun W hb => rwRead_any a nb cb bs hnb h hf W (hs.below hb)
  have HS := Lib.hid hs
  unfold Im.readV
  obtain ⟨kd, ww, hh, mx⟩ := h
  have X := Hb.new w 62 ⟨kd, ww, hh, mx⟩
  have hbx := box1 w (.cells #[.int .i64 kd, .int .i64 ww, .int .i64 hh, .int .i64 mx] 62)
  obtain ⟨W, hW⟩ : ∃ W, w.alloc (.cells #[.int .i64 kd, .int .i64 ww, .int .i64 hh, .int .i64 mx] 62) = W := ⟨_, rfl⟩
  simp only at X
  rw [hW] at X hbx
  clear hs hsz hf hm
  unfold agH at HR HSZ HP HW ⊢
  simp only at HR HSZ HP HW ⊢
  by_cases hk : 3 < kd
  · have HR' : Hid (∀ w, Calls Tryz.prog 87 #[.agg #[.int .i64 kd, .int .i64 ww, .int .i64 hh, .int .i64 mx]] w fun e w' => e = .returned (.bool true) ∧ Below w.heap.size w w') := Lib.hid fun w => by have := HR.out w; rw [decide_eq_true hk] at this; exact this
    obtain ⟨t, ht⟩ : ∃ t, Rw.readV ⟨kd, ww, hh, mx⟩ bs = t := ⟨_, rfl⟩
    rw [if_pos hk]
    rw [ht] at HW ⊢
    clear HR HP HS hk ht
    obtain ⟨l0, l1, l2, l3⟩ := X.cells
    simp only at l0 l1 l2 l3
    go_enter Tryz.func58, Tryz.ntmps58
    go_upto_region 1 with fail
    try rw [hW]
    go_wp2_with fail
    refine (HR'.out _).mono ?_
    rintro e w2 ⟨rfl, hb2⟩
    replace X := X.later hb2
    replace hbx := hbx.trans (hb2.mono hbx.size)
    obtain ⟨l0, l1, l2, l3⟩ := X.cells
    simp only at l0 l1 l2 l3
    go_wp2_with fail
    refine (HW.out _ hbx).mono ?_
    unfold RwdR
    rintro e w3 ⟨ra, rc, rfl, hrs, hb3⟩
    replace X := X.later hb3
    replace hbx := hbx.trans (hb3.mono hbx.size)
    have HRS := Lib.hid hrs
    obtain ⟨l0, l1, l2, l3⟩ := X.cells
    simp only at l0 l1 l2 l3
    go_wp2_with fail
    refine (HSZ.out _).mono ?_
    rintro e w4 ⟨rfl, hb4⟩
    replace hbx := hbx.trans (hb4.mono hbx.size)
    go_wp2
    go_returns
    exact ⟨ra, rc, rfl, HRS.out.below hb4, hbx⟩
  · have HR' : Hid (∀ w, Calls Tryz.prog 87 #[.agg #[.int .i64 kd, .int .i64 ww, .int .i64 hh, .int .i64 mx]] w fun e w' => e = .returned (.bool false) ∧ Below w.heap.size w w') := Lib.hid fun w => by have := HR.out w; rw [decide_eq_false hk] at this; exact this
    obtain ⟨t, ht⟩ : ∃ t, Pl.readV ⟨kd, ww, hh, mx⟩ bs = t := ⟨_, rfl⟩
    rw [if_neg hk]
    rw [ht] at HP ⊢
    clear HR HW hk ht
    obtain ⟨l0, l1, l2, l3⟩ := X.cells
    simp only at l0 l1 l2 l3
    go_enter Tryz.func58, Tryz.ntmps58
    go_upto_region 1 with fail
    try rw [hW]
    go_wp2_with fail
    refine (HR'.out _).mono ?_
    rintro e w2 ⟨rfl, hb2⟩
    replace X := X.later hb2
    replace hbx := hbx.trans (hb2.mono hbx.size)
    obtain ⟨l0, l1, l2, l3⟩ := X.cells
    simp only at l0 l1 l2 l3
    have C := Cv.conv_slk (cap := cb) (HS.out.1.below hbx)
    go_wp2_with fail
    refine (HP.out _).mono ?_
    unfold RdR
    rintro e w3 ⟨ra, rc, rfl, hrs, hb3⟩
    replace hbx := hbx.trans (hb3.mono hbx.size)
    have HRS := Lib.hid hrs
    go_wp2
    go_returns
    exact ⟨ra, rc, rfl, HRS.out, hbx⟩
end Go.Proofs.YtkjkepnailamnaaGreat
namespace Go.Proofs.YtkjkepnailamnaaGreat
open Go.RowKit
set_option linter.unusedVariables false
def ImParC (t : Im.P) (w : World) (e : Ending) (w' : World) : Prop :=
  ∃ a cap, e = .returned (.tuple #[agI t.c t.m t.w t.h (.slice a t.l.length cap), .int .i64 t.u, .int .i64 t.e]) ∧ SlK .u64 w' a t.l.length t.l ∧ Below w.heap.size w w' ∧ Cp t.l.length cap
set_option maxHeartbeats 1000000 in
theorem imReadC_any (a : Option Addr) (nb cb : Nat) (bs : List Int) (hnb : nb ≤ 100000) (h : Hd.H) (hm : Hd.May h) (hk3 : ¬ 3 < h.kd) (w : World) (hs : Bt.Bs w a nb cb bs) :
    Calls Tryz.prog 58 #[.slice a nb cb, agH h] w (RdRc (Im.readV h bs) w) := by
  have hf := Hj.may_fit hm
  have HR := Lib.hid (hraw_any h hm)
  have HSZ := Lib.hid (hsize_any h hm)
  have hsz : (strOfNums bs).size ≤ 100000 := by rw [strOfNums_size, hs.1.1]; exact hnb
  have HP := Lib.hid (plReadC_any (strOfNums bs) hsz h hf)
  rw [bytesOf_strOfNums hs.2.2.2] at HP
  have HW : Hid (∀ W, Below w.heap.size w W → Calls Tryz.prog 99 #[.slice a nb cb, agH h] W (RwdR (Rw.readV h bs) W)) := Lib.hid fun W hb => rwRead_any a nb cb bs hnb h hf W (hs.below hb)
  have HS := Lib.hid hs
  unfold Im.readV
  obtain ⟨kd, ww, hh, mx⟩ := h
  have X := Hb.new w 62 ⟨kd, ww, hh, mx⟩
  have hbx := box1 w (.cells #[.int .i64 kd, .int .i64 ww, .int .i64 hh, .int .i64 mx] 62)
  obtain ⟨W, hW⟩ : ∃ W, w.alloc (.cells #[.int .i64 kd, .int .i64 ww, .int .i64 hh, .int .i64 mx] 62) = W := ⟨_, rfl⟩
  simp only at X
  rw [hW] at X hbx
  clear hs hsz hf hm
  unfold agH at HR HSZ HP HW ⊢
  simp only at HR HSZ HP HW ⊢
  have hk : ¬ 3 < kd := hk3
  have HR' : Hid (∀ w, Calls Tryz.prog 87 #[.agg #[.int .i64 kd, .int .i64 ww, .int .i64 hh, .int .i64 mx]] w fun e w' => e = .returned (.bool false) ∧ Below w.heap.size w w') := Lib.hid fun w => by have := HR.out w; rw [decide_eq_false hk] at this; exact this
  obtain ⟨t, ht⟩ : ∃ t, Pl.readV ⟨kd, ww, hh, mx⟩ bs = t := ⟨_, rfl⟩
  rw [if_neg hk]
  rw [ht] at HP ⊢
  clear HR HW hk ht
  obtain ⟨l0, l1, l2, l3⟩ := X.cells
  simp only at l0 l1 l2 l3
  go_enter Tryz.func58, Tryz.ntmps58
  go_upto_region 1 with fail
  try rw [hW]
  go_wp2_with fail
  refine (HR'.out _).mono ?_
  rintro e w2 ⟨rfl, hb2⟩
  replace X := X.later hb2
  replace hbx := hbx.trans (hb2.mono hbx.size)
  obtain ⟨l0, l1, l2, l3⟩ := X.cells
  simp only at l0 l1 l2 l3
  have C := Cv.conv_slk (cap := cb) (HS.out.1.below hbx)
  go_wp2_with fail
  refine (HP.out _).mono ?_
  unfold RdRc
  rintro e w3 ⟨ra, rc, rfl, hrs, hb3, hcp⟩
  replace hbx := hbx.trans (hb3.mono hbx.size)
  have HRS := Lib.hid hrs
  go_wp2
  go_returns
  exact ⟨ra, rc, rfl, HRS.out, hbx, hcp⟩
end Go.Proofs.YtkjkepnailamnaaGreat
namespace Go.Proofs.YtkjkepnailamnaaGreat
open Go.RowKit
set_option linter.unusedVariables false
theorem Rw.may_fit {h : Hd.H} (H : Rw.May h) : Hj.Fit h := by
  have := H.m
  unfold Hj.Fit Nu.I; omega
theorem Rw.readF_len : ∀ (x : List Int) (s : Rw.S) (acc : List Int), Rw.Good s → (∀ c ∈ x, 0 ≤ c ∧ c ≤ 255) → (Rw.readF s acc x).1.length ≤ acc.length + 4096 * x.length
  | [], s, acc, _, _ => by rw [Rw.readF]; simp
  | c :: cs, s, acc, hG, hx => by
    rw [Rw.readF]
    have h1 := Rw.put_len hG c
    obtain ⟨c0, c1⟩ := hx c (List.mem_cons_self ..)
    have h2 := Rw.readF_len cs (Rw.put s c).1 (acc ++ (Rw.put s c).2) (Rw.good_put hG c c0 c1) fun d hd => hx d (List.mem_cons_of_mem _ hd)
    split
    · simp only [List.length_append, List.length_cons]; omega
    split
    · simp
    · simp only [List.length_append, List.length_cons] at h2 ⊢; omega
theorem Rw.readV_len (h : Hd.H) (x : List Int) (hx : ∀ c ∈ x, 0 ≤ c ∧ c ≤ 255) : (Rw.readV h x).1.length ≤ 4096 * x.length := by
  unfold Rw.readV
  split
  · rename_i hm
    have := Rw.readF_len x (Rw.new h) [] (Rw.good_new hm) hx
    simpa using this
  · simp
end Go.Proofs.YtkjkepnailamnaaGreat
namespace Go.Proofs.YtkjkepnailamnaaGreat
open Go.RowKit
set_option linter.unusedVariables false
theorem Im.parse_len (lim : Hd.L) (bs : List Int) (hb : ∀ c ∈ bs, 0 ≤ c ∧ c ≤ 255) : (Im.parseV lim bs).l.length ≤ 4096 * bs.length + 1 := by
  unfold Im.parseV
  split
  · split
    · show (Im.readV _ _).1.length ≤ _
      unfold Im.readV
      obtain ⟨n, hn⟩ : ∃ n, (Hd.parseV lim bs).2.1.toNat = n := ⟨_, rfl⟩
      rw [hn]
      have hd : (bs.drop n).length ≤ bs.length := by rw [List.length_drop]; omega
      split
      · have := Rw.readV_len (Hd.parseV lim bs).1 (bs.drop n) (fun c hc => hb c (List.mem_of_mem_drop hc))
        have h2 := Nat.mul_le_mul_left 4096 hd
        simp only; omega
      · have := Pl.readV_len (Hd.parseV lim bs).1 (bs.drop n)
        omega
    · simp [Im.bad]
  · simp [Im.bad]
end Go.Proofs.YtkjkepnailamnaaGreat
