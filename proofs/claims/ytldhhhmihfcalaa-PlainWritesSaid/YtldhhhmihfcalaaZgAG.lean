/- The document's reader of digits is told a byte: what it comes to, over any memory. Condition: its head may be. -/
import Derived.Test.YtldhhhmihfcalaaZPlP
namespace Go.Proofs.Ytldhhhmihfcalaa
open Go.RowKit
set_option linter.unusedVariables false

theorem refSample_s {s : Pl.S} (hG : Pl.Good s) (h0 : s.last = 0) (n : Int) (W : World) (a1 a2 : Option Addr) (c1 c2 : Nat) (S1 : SlK .i64 W a1 s.one.length s.one) (S2 : SlK .u64 W a2 s.row.length s.row) :
    Calls Try.prog 78 #[agR s.h (-1) (.slice a1 s.one.length c1) (.slice a2 s.row.length c2) s.rows 0 0, .int .i64 n] W (RfS W s.h a2 s.row (Pl.sample s n).1.one (Pl.sample s n).1.row (Pl.sample s n).1.rows (Pl.sample s n).1.last 0 (Pl.sample s n).2) := by
  have hm := hG.may.m
  have hc := Hj.chan_at s.h
  have ho := hG.one
  have hr := hG.row
  have hr0 := hG.rows0
  have hr2 := hG.rows2
  have l1 : s.one.length ≤ 3 := by omega
  have l2 : s.row.length ≤ 4096 := by omega
  have l3 : s.rows ≤ 65536 := by omega
  have hk3 : Hj.chan s.h = if s.h.kd = 3 then 3 else 1 := by
    unfold Hj.chan
    by_cases h : s.h.kd = 3
    · rw [if_pos (.inl h), if_pos h]
    · rw [if_neg (by omega), if_neg h]
  unfold Pl.sample
  by_cases h1 : (s.one.length : Int) + 1 < Hj.chan s.h
  · rw [if_pos h1]
    by_cases h : s.h.kd = 3
    · rw [if_pos h] at hk3
      exact refSample_more s.h n s.one s.row s.rows 0 a1 a2 c1 c2 W S1 S2 l1 l2 hr0 l3 h (by omega)
    · rw [if_neg h] at hk3; omega
  rw [if_neg h1]
  have hone : ¬ (s.h.kd = 3 ∧ s.one.length + 1 < 3) := by
    rintro ⟨h, h'⟩
    rw [if_pos h] at hk3; omega
  by_cases h2 : (s.row.length : Int) + 1 < s.h.w
  · rw [if_pos h2]
    exact refSample_pixel s.h n s.one s.row s.rows 0 a1 a2 c1 c2 W S1 S2 l1 l2 hr0 l3 hone h2
  rw [if_neg h2]
  by_cases h3 : s.rows + 1 = s.h.h
  · have e : (Pl.line s n).last = 1 := if_pos h3
    show Calls _ _ _ _ (RfS W s.h a2 s.row [] [] (s.rows + 1) (Pl.line s n).last 0 (s.row ++ [Pl.pix s n]))
    rw [e]
    exact refSample_over s.h n s.one s.row s.rows 0 a1 a2 c1 c2 W S1 S2 l1 l2 hr0 l3 hone h2 h3
  · have e : (Pl.line s n).last = 0 := if_neg h3
    show Calls _ _ _ _ (RfS W s.h a2 s.row [] [] (s.rows + 1) (Pl.line s n).last 0 (s.row ++ [Pl.pix s n]))
    rw [e]
    exact refSample_row s.h n s.one s.row s.rows 0 a1 a2 c1 c2 W S1 S2 l1 l2 hr0 l3 hone h2 h3
/-- v is the document's reader where s says; its memory is what was handed in, or was made since W -/
def RfF (A1 A2 : Option Addr) (O1 O2 : List Int) (W w : World) (v : Value) (s : Pl.S) : Prop :=
  ∃ a1 c1 a2 c2, v = agR s.h (Pl.nn s) (.slice a1 s.one.length c1) (.slice a2 s.row.length c2) s.rows s.last s.e ∧ SlK .i64 w a1 s.one.length s.one ∧ SlK .u64 w a2 s.row.length s.row ∧ ((a1 = A1 ∧ s.one = O1) ∨ Nw W a1) ∧ ((a2 = A2 ∧ s.row = O2) ∨ Nw W a2)
/-- what the document's reader hands back of a byte -/
def RfW (A1 A2 : Option Addr) (O1 O2 : List Int) (w : World) (q : Pl.S × List Int) (e : Ending) (w' : World) : Prop :=
  ∃ v a c, e = .returned (.tuple #[v, .slice a q.2.length c]) ∧ RfF A1 A2 O1 O2 w w' v q.1 ∧ SlK .u64 w' a q.2.length q.2 ∧ Nw w a ∧ Below w.heap.size w w'
theorem rf_same {w w' : World} {s t : Pl.S} {a1 a2 : Option Addr} {c1 c2 : Nat} (S1 : SlK .i64 w a1 s.one.length s.one) (S2 : SlK .u64 w a2 s.row.length s.row) {x : Ending} (N : Int) (rows last e : Int)
    (hx : RpP w (agR s.h N (.slice a1 s.one.length c1) (.slice a2 s.row.length c2) rows last e) x w') (hs : t.h = s.h ∧ Pl.nn t = N ∧ t.one = s.one ∧ t.row = s.row ∧ t.rows = rows ∧ t.last = last ∧ t.e = e) : RfW a1 a2 s.one s.row w (t, []) x w' := by
  obtain ⟨rfl, hb⟩ := hx
  obtain ⟨e1, e2, e3, e4, e5, e6, e7⟩ := hs
  refine ⟨_, none, 0, rfl, ⟨a1, c1, a2, c2, by rw [e1, e2, e3, e4, e5, e6, e7], ?_, ?_, .inl ⟨rfl, e3⟩, .inl ⟨rfl, e4⟩⟩, slk_nil, nw_none _, hb⟩
  · rw [e3]; exact S1.below hb
  · rw [e4]; exact S2.below hb
theorem rf_samp {k : Int} {w w' : World} {s : Pl.S} {a0 a1 : Option Addr} {x : Ending} (hx : RpS w s.h a0 s.row (Pl.sample s k).1.one (Pl.sample s k).1.row (Pl.sample s k).1.rows (Pl.sample s k).1.last 0 (Pl.sample s k).2 x w') : RfW a1 a0 s.one s.row w (Pl.sample s k) x w' := by
  obtain ⟨a1, c1, a2, c2, a, c, rfl, h1, h2, h3, hb, n1, n2, n3⟩ := hx
  have hh := Pl.sample_h s k
  have hd := Pl.sample_d s k
  have he := Pl.sample_e s k
  refine ⟨_, a, c, rfl, ⟨a1, c1, a2, c2, ?_, h1, h2, .inr n1, n2⟩, h3, n3, hb⟩
  rw [hh, he]; unfold Pl.nn; rw [hd]; rfl
theorem refPut_any {s : Pl.S} (hG : Pl.Good s) (c : Int) (c0 : 0 ≤ c) (c1 : c ≤ 255) (w : World) (a1 a2 : Option Addr) (d1 d2 : Nat) (S1 : SlK .i64 w a1 s.one.length s.one) (S2 : SlK .u64 w a2 s.row.length s.row) :
    Calls Try.prog 44 #[agR s.h (Pl.nn s) (.slice a1 s.one.length d1) (.slice a2 s.row.length d2) s.rows s.last s.e, .int .u8 c] w (RfW a1 a2 s.one s.row w (Pl.put s c)) := by
  have hm := hG.may.m
  unfold Pl.put
  by_cases h0 : s.last = 0
  · have e0 := hG.e0 (by omega)
    rw [if_neg (by omega), h0, e0]
    have hT : ∀ (W : World) (n : Int), Below w.heap.size w W → Calls Try.prog 78 #[agR s.h (-1) (.slice a1 s.one.length d1) (.slice a2 s.row.length d2) s.rows 0 0, .int .i64 n] W (RfS W s.h a2 s.row (Pl.sample s n).1.one (Pl.sample s n).1.row (Pl.sample s n).1.rows (Pl.sample s n).1.last 0 (Pl.sample s n).2) :=
      fun W n hb => refSample_s hG h0 n W a1 a2 d1 d2 (S1.below hb) (S2.below hb)
    cases hb : Tk.blank c with
    | true =>
      rw [if_pos rfl]
      cases hd : s.d with
      | true =>
        rw [if_pos rfl]
        have hn : Pl.nn s = s.n := by unfold Pl.nn; rw [if_pos hd]
        rw [hn]
        refine (rfPut_blankN s.h a1 a2 s.one.length d1 s.row.length d2 s.rows 0 c s.n c0 c1 w hb hG.n0 S2 (fun W hB => hT W s.n hB)).mono ?_
        intro e w' h
        exact rf_samp h
      | false =>
        rw [if_neg (by decide)]
        have hn : Pl.nn s = -1 := by unfold Pl.nn; rw [if_neg (by rw [hd]; decide)]
        rw [hn]
        refine (rfPut_blank0 s.h a1 a2 s.one.length d1 s.row.length d2 s.rows 0 c c0 c1 w hb).mono ?_
        intro e w' h
        exact rf_same S1 S2 _ _ _ _ h ⟨rfl, hn, rfl, rfl, rfl, h0, e0⟩
    | false =>
      rw [if_neg (by decide)]
      by_cases hk : s.h.kd = 1
      · rw [if_pos hk]
        have hd := hG.kd hk
        have hn : Pl.nn s = -1 := by unfold Pl.nn; rw [if_neg (by rw [hd]; decide)]
        rw [hn]
        by_cases hc : c = 48 ∨ c = 49
        · rw [if_pos hc]
          rcases hc with rfl | rfl
          · refine (rfPut_bit48 s.h a1 a2 s.one.length d1 s.row.length d2 s.rows 0 w hk S2 (fun W hB => hT W 0 hB)).mono ?_
            intro e w' h
            exact rf_samp h
          · refine (rfPut_bit49 s.h a1 a2 s.one.length d1 s.row.length d2 s.rows 0 w hk S2 (fun W hB => hT W 1 hB)).mono ?_
            intro e w' h
            exact rf_samp h
        · rw [if_neg hc]
          refine (rfPut_bad s.h a1 a2 s.one.length d1 s.row.length d2 s.rows 0 c c0 c1 w hb hk (by omega) (by omega)).mono ?_
          intro e w' h
          exact rf_same S1 S2 _ _ _ _ h ⟨rfl, hn, rfl, rfl, rfl, rfl, rfl⟩
      · rw [if_neg hk]
        obtain ⟨k, er, hs⟩ : ∃ k er, Nu.stepV s.n c s.h.m = (k, er) := ⟨_, _, rfl⟩
        rw [hs]
        simp only
        cases hd : s.d with
        | false =>
          have hn : Pl.nn s = -1 := by unfold Pl.nn; rw [if_neg (by rw [hd]; decide)]
          have hz := hG.nd hd
          rw [hn]
          rw [hz] at hs
          by_cases he0 : er = 0
          · rw [if_pos he0]
            refine (rfPut_digit0 s.h a1 a2 s.one.length d1 s.row.length d2 s.rows 0 c c0 c1 k er w hb hk (by omega) (by omega) hs he0).mono ?_
            intro e w' h
            exact rf_same S1 S2 _ _ _ _ h ⟨rfl, rfl, rfl, rfl, rfl, rfl, rfl⟩
          · rw [if_neg he0]
            by_cases he4 : er = 4
            · rw [if_pos he4]
              refine (rfPut_range0 s.h a1 a2 s.one.length d1 s.row.length d2 s.rows 0 c c0 c1 k er w hb hk (by omega) (by omega) hs he4).mono ?_
              intro e w' h
              exact rf_same S1 S2 _ _ _ _ h ⟨rfl, hn, rfl, rfl, rfl, rfl, rfl⟩
            · rw [if_neg he4]
              refine (rfPut_none0 s.h a1 a2 s.one.length d1 s.row.length d2 s.rows 0 c c0 c1 k er w hb hk (by omega) (by omega) hs he0 he4).mono ?_
              intro e w' h
              exact rf_same S1 S2 _ _ _ _ h ⟨rfl, hn, rfl, rfl, rfl, rfl, rfl⟩
        | true =>
          have hn : Pl.nn s = s.n := by unfold Pl.nn; rw [if_pos hd]
          rw [hn]
          by_cases he0 : er = 0
          · rw [if_pos he0]
            refine (rfPut_digitN s.h a1 a2 s.one.length d1 s.row.length d2 s.rows 0 c s.n c0 c1 k er w hb hk hG.n0 hG.n1 (by omega) (by omega) hs he0).mono ?_
            intro e w' h
            exact rf_same S1 S2 _ _ _ _ h ⟨rfl, rfl, rfl, rfl, rfl, rfl, rfl⟩
          · rw [if_neg he0]
            by_cases he4 : er = 4
            · rw [if_pos he4]
              refine (rfPut_rangeN s.h a1 a2 s.one.length d1 s.row.length d2 s.rows 0 c s.n c0 c1 k er w hb hk hG.n0 hG.n1 (by omega) (by omega) hs he4).mono ?_
              intro e w' h
              exact rf_same S1 S2 _ _ _ _ h ⟨rfl, hn, rfl, rfl, rfl, rfl, rfl⟩
            · rw [if_neg he4]
              refine (rfPut_noneN s.h a1 a2 s.one.length d1 s.row.length d2 s.rows 0 c s.n c0 c1 k er w hb hk hG.n0 hG.n1 (by omega) (by omega) hs he0 he4).mono ?_
              intro e w' h
              exact rf_same S1 S2 _ _ _ _ h ⟨rfl, hn, rfl, rfl, rfl, rfl, rfl⟩
  · rw [if_pos (by omega)]
    refine (rfPut_done s.h (Pl.nn s) a1 a2 s.one.length d1 s.row.length d2 s.rows s.last s.e c w (by simpa using h0)).mono ?_
    intro e w' h
    exact rf_same S1 S2 _ _ _ _ h ⟨rfl, rfl, rfl, rfl, rfl, rfl, rfl⟩
set_option maxRecDepth 100000 in
set_option maxHeartbeats 2000000 in
theorem rfEb_same (h : Hd.H) (N : Int) (b1 b2 : Option Addr) (n1 d1 n2 d2 : Nat) (rows last e : Int) (w : World) (hc : N < 0 ∨ (¬ N < 0 ∧ (last != 0) = true)) :
    Calls Try.prog 83 #[agR h N (.slice b1 n1 d1) (.slice b2 n2 d2) rows last e] w (RpP w (agR h N (.slice b1 n1 d1) (.slice b2 n2 d2) rows last e)) := by
  unfold agR
  rcases hc with h1 | ⟨h1, h2⟩
  · have h1d : decide (N < 0) = true := decide_eq_true h1
    go_enter Try.func83, Try.ntmps83
    go_wp2
    go_returns
    exact ⟨rfl, by go_grown⟩
  · have h1d : decide (N < 0) = false := decide_eq_false h1
    go_enter Try.func83, Try.ntmps83
    go_wp2
    go_returns
    exact ⟨rfl, by go_grown⟩
/-- a block that was made between W0 and W is written into -/
theorem slk_far {q : IntKind} {W0 W w w' : World} {a : Option Addr} {n b : Nat} {l : List Int} (h : SlK q w a n l) (hf : SlK q W0 a n l ∨ Nw W a) (h1 : W0.heap.size ≤ b) (h2 : b < W.heap.size) (hg : w.grownBy w' (some b)) : SlK q w' a n l := by
  rcases hf with hf | hf
  · refine ⟨h.1, ?_⟩
    rcases hf.2 with h0 | ⟨g, o, rfl, hc⟩
    · exact .inl h0
    · rcases h.2 with h0 | ⟨g', o', ha, hc'⟩
      · exact .inl h0
      · cases ha
        refine .inr ⟨g, o, rfl, fun i hi => ?_⟩
        have hlt := block_lt_of_cell (hc i hi)
        exact hg.cell (hc' i hi) (by intro e; injection e with e; have e : g = b := e; omega)
  · exact slk_kept h (far_of hf h2) hg
theorem RfF.far {A1 A2 : Option Addr} {O1 O2 : List Int} {W0 W w w' : World} {v : Value} {s : Pl.S} (h : RfF A1 A2 O1 O2 W w v s) {n1 n2 : Nat} (S1 : SlK .i64 W0 A1 n1 O1) (S2 : SlK .u64 W0 A2 n2 O2) {b : Nat} (h1 : W0.heap.size ≤ b) (h2 : b < W.heap.size) (hg : w.grownBy w' (some b)) : RfF A1 A2 O1 O2 W w' v s := by
  obtain ⟨a1, c1, a2, c2, hv, s1, s2, f1, f2⟩ := h
  refine ⟨a1, c1, a2, c2, hv, slk_far s1 (f1.imp ?_ id) h1 h2 hg, slk_far s2 (f2.imp ?_ id) h1 h2 hg, f1, f2⟩
  · rintro ⟨rfl, e⟩; rw [e]; have := S1.1; rw [this]; exact S1
  · rintro ⟨rfl, e⟩; rw [e]; have := S2.1; rw [this]; exact S2
theorem RfF.mono {A1 A2 : Option Addr} {O1 O2 : List Int} {W W' w : World} {v : Value} {s : Pl.S} (h : RfF A1 A2 O1 O2 W' w v s) (hw : W.heap.size ≤ W'.heap.size) : RfF A1 A2 O1 O2 W w v s := by
  obtain ⟨a1, c1, a2, c2, hv, s1, s2, f1, f2⟩ := h
  exact ⟨a1, c1, a2, c2, hv, s1, s2, f1.imp id (nw_mono hw), f2.imp id (nw_mono hw)⟩
theorem RfF.later {A1 A2 : Option Addr} {O1 O2 : List Int} {W w w' : World} {v : Value} {s : Pl.S} (h : RfF A1 A2 O1 O2 W w v s) (hb : Below w.heap.size w w') : RfF A1 A2 O1 O2 W w' v s := by
  obtain ⟨a1, c1, a2, c2, hv, s1, s2, f1, f2⟩ := h
  exact ⟨a1, c1, a2, c2, hv, s1.below hb, s2.below hb, f1, f2⟩
end Go.Proofs.Ytldhhhmihfcalaa

/- The document's reader of digits is told the end: what it comes to, over any memory. Condition: its head may be. -/
namespace Go.Proofs.Ytldhhhmihfcalaa
open Go.RowKit
set_option linter.unusedVariables false

theorem zero_later {w w2 : World} {o : Obj} (hb : Below ((w.alloc o).alloc (.cells #[.int .i64 0, .int .i64 0, .int .i64 0, .int .i64 0, .int .i64 0, .slice none 0 0, .slice none 0 0, .int .i64 0, .int .i64 0, .int .i64 0] 77)).heap.size ((w.alloc o).alloc (.cells #[.int .i64 0, .int .i64 0, .int .i64 0, .int .i64 0, .int .i64 0, .slice none 0 0, .slice none 0 0, .int .i64 0, .int .i64 0, .int .i64 0] 77)) w2) :
    RbC w2 (w.heap.size + 1) Hd.none 0 (.slice none 0 0) (.slice none 0 0) 0 0 0 ∧ Below w.heap.size w w2 ∧ w.heap.size + 2 ≤ w2.heap.size := by
  have h := (RbC.new (w.alloc o) Hd.none 0 (.slice none 0 0) (.slice none 0 0) 0 0 0).later hb
  rw [World.size_alloc] at h
  refine ⟨h, (((Below.refl _ w).alloc (Nat.le_refl _) _).alloc (by simp) _).trans (hb.mono (by simp; omega)), ?_⟩
  have := hb.size; simp at this; omega
set_option maxRecDepth 100000 in
set_option maxHeartbeats 2000000 in
theorem refEb_any {s : Pl.S} (hG : Pl.Good s) (w : World) (a1 a2 : Option Addr) (d1 d2 : Nat) (S1 : SlK .i64 w a1 s.one.length s.one) (S2 : SlK .u64 w a2 s.row.length s.row) :
    Calls Try.prog 83 #[agR s.h (Pl.nn s) (.slice a1 s.one.length d1) (.slice a2 s.row.length d2) s.rows s.last s.e] w (RfW a1 a2 s.one s.row w (Pl.put s 32)) := by
  have hP := fun (W : World) (hb : Below w.heap.size w W) => refPut_any hG 32 (by decide) (by decide) W a1 a2 d1 d2 (S1.below hb) (S2.below hb)
  have hbl : Tk.blank 32 = true := by decide
  by_cases hs : s.d = true ∧ s.last = 0
  · obtain ⟨hd, h0⟩ := hs
    have hn : Pl.nn s = s.n := by unfold Pl.nn; rw [if_pos hd]
    have n0 := hG.n0
    have n0' : ¬ s.n < 0 := by omega
    have n0d : decide (s.n < 0) = false := decide_eq_false n0'
    rw [hn, h0] at hP
    rw [hn, h0]
    obtain ⟨q, hq⟩ : ∃ q, Pl.put s 32 = q := ⟨_, rfl⟩
    rw [hq] at hP ⊢
    have HP := Lib.hid hP
    have HS1 := Lib.hid S1
    have HS2 := Lib.hid S2
    clear hP hq hd h0 hn hbl S1 S2 hG
    unfold agR at HP ⊢
    go_enter Try.func83, Try.ntmps83
    go_wp2_with fail
    refine (HP.out _ (((Below.refl _ w).alloc (Nat.le_refl _) _).alloc (by simp) _)).mono ?_
    rintro x w2 ⟨v2, a, c, rfl, F, S, NA, hb2⟩
    obtain ⟨hz, hbw, hsz⟩ := zero_later hb2
    have F' := (F.mono (W := w) (by simp; omega))
    have HF := Lib.hid F
    have HS := Lib.hid S
    have HNA := Lib.hid NA
    have HZ2 := Lib.hid hz
    have HBW := Lib.hid hbw
    obtain ⟨b1, e1, b2, e2, rfl, F2⟩ := F
    unfold agR
    clear F2 F' S NA hb2 hz hbw
    obtain ⟨z0, z1, z2, z3, z4, z5, z6, z7, z8, z9⟩ := HZ2.out.cells
    obtain ⟨y0, y1, y2, y3, y4, y5, y6, y7, y8, y9⟩ := HZ2.out.frs
    have HPA := Lib.hid (HZ2.out.putAll q.1.h (Pl.nn q.1) (.slice b1 q.1.one.length e1) (.slice b2 q.1.row.length e2) q.1.rows q.1.last q.1.e)
    go_wp2
    have GP := Lib.hid (RbC.grownAll w2 (w.heap.size + 1) q.1.h (Pl.nn q.1) (.slice b1 q.1.one.length e1) (.slice b2 q.1.row.length e2) q.1.rows q.1.last q.1.e)
    have BP := Lib.hid ((Below.refl (w.heap.size + 1) w2).grown GP.out (by have := HZ2.out.lt; omega) (fun j ej => by cases ej; exact Nat.le_refl _))
    refine bodyPost_ret (ret_cell_tmp Try.results83 _ _ _ _ rfl (load_rR HPA.out)) rfl ?_
    exact ⟨_, a, c, rfl, (HF.out.far HS1.out HS2.out (b := w.heap.size + 1) (by omega) (by simp) GP.out).mono (by simp; omega), slk_kept (b := w.heap.size + 1) HS.out (far_of HNA.out (by simp)) GP.out, nw_mono (by simp; omega) HNA.out, HBW.out.trans (BP.out.mono (Nat.le_succ _))⟩
  · have hp : Pl.put s 32 = (s, []) := by
      unfold Pl.put
      by_cases h0 : s.last = 0
      · rw [if_neg (by omega), if_pos hbl, if_neg (fun h => hs ⟨h, h0⟩)]
      · rw [if_pos h0]
    rw [hp]
    refine (rfEb_same s.h (Pl.nn s) a1 a2 s.one.length d1 s.row.length d2 s.rows s.last s.e w ?_).mono ?_
    · unfold Pl.nn
      by_cases hd : s.d = true
      · rw [if_pos hd]
        have h0 : s.last ≠ 0 := fun h => hs ⟨hd, h⟩
        have := hG.n0
        exact .inr ⟨by omega, by simpa using h0⟩
      · rw [if_neg hd]; exact .inl (by decide)
    · intro e w' h
      exact rf_same S1 S2 _ _ _ _ h ⟨rfl, rfl, rfl, rfl, rfl, rfl, rfl⟩
set_option maxRecDepth 100000 in
set_option maxHeartbeats 2000000 in
theorem refEnd_any {s : Pl.S} (hG : Pl.Good s) (w : World) (a1 a2 : Option Addr) (d1 d2 : Nat) (S1 : SlK .i64 w a1 s.one.length s.one) (S2 : SlK .u64 w a2 s.row.length s.row) :
    Calls Try.prog 48 #[agR s.h (Pl.nn s) (.slice a1 s.one.length d1) (.slice a2 s.row.length d2) s.rows s.last s.e] w (RfW a1 a2 s.one s.row w (Pl.fin s)) := by
  have hP := fun (W : World) (hb : Below w.heap.size w W) => refEb_any hG W a1 a2 d1 d2 (S1.below hb) (S2.below hb)
  obtain ⟨q, hq⟩ : ∃ q, Pl.put s 32 = q := ⟨_, rfl⟩
  have HS1 := Lib.hid S1
  have HS2 := Lib.hid S2
  by_cases h0 : q.1.last = 0
  · have hf : Pl.fin s = (Pl.wrong q.1 6, q.2) := by unfold Pl.fin; rw [hq, if_pos h0]
    rw [hf]
    rw [hq] at hP
    have HP := Lib.hid hP
    have H0 := Lib.hid h0
    clear hP hq hf S1 S2 hG h0
    unfold agR at HP ⊢
    go_enter Try.func48, Try.ntmps48
    go_wp2_with fail
    refine (HP.out _ (((Below.refl _ w).alloc (Nat.le_refl _) _).alloc (by simp) _)).mono ?_
    rintro x w2 ⟨v2, a, c, rfl, F, S, NA, hb2⟩
    obtain ⟨hz, hbw, hsz⟩ := zero_later hb2
    have HF := Lib.hid F
    have HS := Lib.hid S
    have HNA := Lib.hid NA
    have HZ2 := Lib.hid hz
    have HBW := Lib.hid hbw
    obtain ⟨b1, e1, b2, e2, rfl, F2⟩ := F
    have HW := Lib.hid (refWrong_any q.1.h (Pl.nn q.1) b1 b2 q.1.one.length e1 q.1.row.length e2 q.1.rows q.1.last q.1.e 6)
    rw [H0.out] at HW
    unfold agR at HW ⊢
    rw [H0.out]
    clear F2 S NA hb2 hz hbw
    go_wp2_with fail
    refine (HW.out _).mono ?_
    rintro x w3 ⟨rfl, hb3⟩
    have HBx := Lib.hid (((Below.refl _ w2).alloc (Nat.le_refl _) _).trans (hb3.mono (by simp)))
    have HZ3 := Lib.hid (HZ2.out.later HBx.out)
    clear hb3
    obtain ⟨z0, z1, z2, z3, z4, z5, z6, z7, z8, z9⟩ := HZ3.out.cells
    obtain ⟨y0, y1, y2, y3, y4, y5, y6, y7, y8, y9⟩ := HZ3.out.frs
    have HPA := Lib.hid (HZ3.out.putAll q.1.h (Pl.nn q.1) (.slice b1 q.1.one.length e1) (.slice b2 q.1.row.length e2) q.1.rows 2 6)
    go_wp2
    have GP := Lib.hid (RbC.grownAll w3 (w.heap.size + 1) q.1.h (Pl.nn q.1) (.slice b1 q.1.one.length e1) (.slice b2 q.1.row.length e2) q.1.rows 2 6)
    have BP := Lib.hid ((Below.refl (w.heap.size + 1) w3).grown GP.out (by have := HZ3.out.lt; omega) (fun j ej => by cases ej; exact Nat.le_refl _))
    refine bodyPost_ret (ret_cell_tmp Try.results48 _ _ _ _ rfl (load_rR HPA.out)) rfl ?_
    have HFB := (((HF.out.later HBx.out).far HS1.out HS2.out (b := w.heap.size + 1) (by omega) (by simp) GP.out).mono (W := w) (by simp; omega))
    refine ⟨_, a, c, rfl, ?_, slk_kept (b := w.heap.size + 1) (HS.out.below HBx.out) (far_of HNA.out (by simp)) GP.out, nw_mono (by simp; omega) HNA.out, (HBW.out.trans (HBx.out.mono HBW.out.size)).trans (BP.out.mono (Nat.le_succ _))⟩
    obtain ⟨b3, e3, b4, e4, hv, g1, g2, g3, g4⟩ := HFB
    unfold agR at hv
    cases hv
    exact ⟨_, _, _, _, rfl, g1, g2, g3, g4⟩
  · have hf : Pl.fin s = q := by unfold Pl.fin; rw [hq, if_neg h0]
    rw [hf]
    rw [hq] at hP
    obtain ⟨t, ht⟩ : ∃ t, q.1.last = t := ⟨_, rfl⟩
    have htb : (t == 0) = false := by rw [← ht]; simpa using h0
    have HP := Lib.hid hP
    have HT := Lib.hid ht
    clear hP hq hf S1 S2 hG h0 ht
    unfold agR at HP ⊢
    go_enter Try.func48, Try.ntmps48
    go_wp2_with fail
    refine (HP.out _ (((Below.refl _ w).alloc (Nat.le_refl _) _).alloc (by simp) _)).mono ?_
    rintro x w2 ⟨v2, a, c, rfl, F, S, NA, hb2⟩
    obtain ⟨hz, hbw, hsz⟩ := zero_later hb2
    have HF := Lib.hid F
    have HS := Lib.hid S
    have HNA := Lib.hid NA
    have HZ2 := Lib.hid hz
    have HBW := Lib.hid hbw
    obtain ⟨b1, e1, b2, e2, rfl, F2⟩ := F
    unfold agR
    rw [HT.out]
    clear F2 S NA hb2 hz hbw
    go_upto_region 2 with fail
    generalize hW : w2.alloc (.cells #[.int .i64 q.1.h.kd, .int .i64 q.1.h.w, .int .i64 q.1.h.h, .int .i64 q.1.h.m, .int .i64 (Pl.nn q.1), .slice b1 q.1.one.length e1, .slice b2 q.1.row.length e2, .int .i64 q.1.rows, .int .i64 t, .int .i64 q.1.e] 77) = w5
    have HBx : Hid (Below w2.heap.size w2 w5) := by show Below _ _ _; rw [← hW]; exact box1' _ _
    have HB5 : Hid (RbC w5 w2.heap.size q.1.h (Pl.nn q.1) (.slice b1 q.1.one.length e1) (.slice b2 q.1.row.length e2) q.1.rows t q.1.e) := by show RbC _ _ _ _ _ _ _ _ _; rw [← hW]; exact RbC.new w2 _ _ _ _ _ _ _
    have HZ5 := Lib.hid (HZ2.out.later HBx.out)
    obtain ⟨x0, x1, x2, x3, x4, x5, x6, x7, x8, x9⟩ := HB5.out.cells
    clear hW HZ2 hsz
    obtain ⟨z0, z1, z2, z3, z4, z5, z6, z7, z8, z9⟩ := HZ5.out.cells
    obtain ⟨y0, y1, y2, y3, y4, y5, y6, y7, y8, y9⟩ := HZ5.out.frs
    have HPA := Lib.hid (HZ5.out.putAll q.1.h (Pl.nn q.1) (.slice b1 q.1.one.length e1) (.slice b2 q.1.row.length e2) q.1.rows t q.1.e)
    go_wp2
    have GP := Lib.hid (RbC.grownAll w5 (w.heap.size + 1) q.1.h (Pl.nn q.1) (.slice b1 q.1.one.length e1) (.slice b2 q.1.row.length e2) q.1.rows t q.1.e)
    have BP := Lib.hid ((Below.refl (w.heap.size + 1) w5).grown GP.out (by have := HZ5.out.lt; omega) (fun j ej => by cases ej; exact Nat.le_refl _))
    refine bodyPost_ret (ret_cell_tmp Try.results48 _ _ _ _ rfl (load_rR HPA.out)) rfl ?_
    have HFB := (((HF.out.later HBx.out).far HS1.out HS2.out (b := w.heap.size + 1) (by omega) (by simp) GP.out).mono (W := w) (by simp; omega))
    refine ⟨_, a, c, rfl, ?_, slk_kept (b := w.heap.size + 1) (HS.out.below HBx.out) (far_of HNA.out (by simp)) GP.out, nw_mono (by simp; omega) HNA.out, (HBW.out.trans (HBx.out.mono HBW.out.size)).trans (BP.out.mono (Nat.le_succ _))⟩
    unfold agR at HFB
    rw [HT.out] at HFB
    exact HFB
end Go.Proofs.Ytldhhhmihfcalaa
