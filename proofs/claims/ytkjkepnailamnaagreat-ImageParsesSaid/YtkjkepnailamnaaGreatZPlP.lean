/- The document's reader of digits is told a byte, way by way, over any memory. Condition: its head may be. -/
import Derived.Test.YtkjkepnailamnaaGreatZPlQ
namespace Go.Proofs.YtkjkepnailamnaaGreat
open Go.RowKit
set_option linter.unusedVariables false
def RpP (w : World) (v : Value) (x : Ending) (w' : World) : Prop := x = .returned (.tuple #[v, .slice none 0 0]) ∧ Below w.heap.size w w'
section
variable (h : Hd.H) (N : Int) (a1 a2 : Option Addr) (k c1 r c2 : Nat) (rows last e c : Int) (c0 : 0 ≤ c) (c1' : c ≤ 255) (w : World)
set_option maxRecDepth 100000 in
set_option maxHeartbeats 1000000 in
theorem rfPut_done (hl : (last != 0) = true) :
    Calls Tryz.prog 105 #[agR h N (.slice a1 k c1) (.slice a2 r c2) rows last e, .int .u8 c] w (RpP w (agR h N (.slice a1 k c1) (.slice a2 r c2) rows last e)) := by
  unfold agR
  go_enter Tryz.func105, Tryz.ntmps105
  go_wp2
  go_returns
  exact ⟨rfl, by go_grown⟩
include c0 c1'
set_option maxRecDepth 100000 in
set_option maxHeartbeats 1000000 in
theorem rfPut_blank0 (hb : Tk.blank c = true) :
    Calls Tryz.prog 105 #[agR h (-1) (.slice a1 k c1) (.slice a2 r c2) rows 0 e, .int .u8 c] w (RpP w (agR h (-1) (.slice a1 k c1) (.slice a2 r c2) rows 0 e)) := by
  have HB : Hid (∀ W, Calls Tryz.prog 78 #[.int .u8 c] W fun e w' => e = .returned (.bool true) ∧ W = w') := fun W => by have := refBlank_any c c0 c1' W; rw [hb] at this; exact this
  clear hb
  unfold agR
  go_enter Tryz.func105, Tryz.ntmps105
  go_wp2_with (go_at_call 78; refine (HB.out _).mono ?_; rintro e w1 ⟨rfl, rfl⟩)
  go_returns
  exact ⟨rfl, by go_grown⟩
end
set_option maxRecDepth 100000 in
set_option maxHeartbeats 2000000 in
theorem rfPut_bad (h : Hd.H) (a1 a2 : Option Addr) (k c1 r c2 : Nat) (rows e : Int) (c : Int) (c0 : 0 ≤ c) (c1' : c ≤ 255) (w : World) (hb : Tk.blank c = false) (hk : h.kd = 1) (h48 : c ≠ 48) (h49 : c ≠ 49) :
    Calls Tryz.prog 105 #[agR h (-1) (.slice a1 k c1) (.slice a2 r c2) rows 0 e, .int .u8 c] w (RpP w (agR h (-1) (.slice a1 k c1) (.slice a2 r c2) rows 2 3)) := by
  have HB : Hid (∀ W, Calls Tryz.prog 78 #[.int .u8 c] W fun e w' => e = .returned (.bool false) ∧ W = w') := fun W => by have := refBlank_any c c0 c1' W; rw [hb] at this; exact this
  have HW := Lib.hid (refWrong_any h (-1) a1 a2 k c1 r c2 rows 0 e 3)
  have k8 : (c != 48) = true := by simpa using h48
  have k9 : (c != 49) = true := by simpa using h49
  have HK := Lib.hid hk
  clear hb h48 h49 hk
  unfold agR at HW ⊢
  go_enter Tryz.func105, Tryz.ntmps105
  go_wp2_with fail
  refine (HB.out _).mono ?_; rintro e w1 ⟨rfl, rfl⟩
  have hk : (h.kd == 1) = true := by have := HK.out; simpa using this
  go_wp2_with fail
  refine (HW.out _).mono ?_; rintro e w2 ⟨rfl, hb2⟩
  clear hk
  have HZ2 : Hid (RbC w2 (w.heap.size + 1) Hd.none 0 (.slice none 0 0) (.slice none 0 0) 0 0 0) := by have := (RbC.new (w.alloc _) Hd.none 0 (.slice none 0 0) (.slice none 0 0) 0 0 0).later hb2; rw [World.size_alloc] at this; exact Lib.hid this
  have BW := Lib.hid ((((Below.refl _ w).alloc (Nat.le_refl _) _).alloc (by simp) _).trans (hb2.mono (by simp; omega)))
  clear hb2
  obtain ⟨z0, z1, z2, z3, z4, z5, z6, z7, z8, z9⟩ := HZ2.out.cells
  obtain ⟨y0, y1, y2, y3, y4, y5, y6, y7, y8, y9⟩ := HZ2.out.frs
  have HPA := Lib.hid (HZ2.out.putAll h (-1) (.slice a1 k c1) (.slice a2 r c2) rows 2 3)
  go_wp2
  have GP := Lib.hid (RbC.grownAll w2 (w.heap.size + 1) h (-1) (.slice a1 k c1) (.slice a2 r c2) rows 2 3)
  have BP := Lib.hid ((Below.refl (w.heap.size + 1) w2).grown GP.out (by have := HZ2.out.lt; omega) (fun j ej => by cases ej; exact Nat.le_refl _))
  refine bodyPost_ret (ret_cell_tmp Tryz.results105 _ _ _ _ rfl (load_rR HPA.out)) rfl ?_
  exact ⟨rfl, BW.out.trans (BP.out.mono (Nat.le_succ _))⟩
def RpS (w : World) (h : Hd.H) (a0 : Option Addr) (row0 : List Int) (one row : List Int) (rows last e : Int) (out : List Int) (r : Ending) (w' : World) : Prop :=
  ∃ a1 c1 a2 c2 a c, r = .returned (.tuple #[agR h (-1) (.slice a1 one.length c1) (.slice a2 row.length c2) rows last e, .slice a out.length c]) ∧ SlK .i64 w' a1 one.length one ∧ SlK .u64 w' a2 row.length row ∧ SlK .u64 w' a out.length out ∧ Below w.heap.size w w' ∧ Nw w a1 ∧ ((a2 = a0 ∧ row = row0) ∨ Nw w a2) ∧ Nw w a
theorem nw_mono {W W' : World} (h : W.heap.size ≤ W'.heap.size) {a : Option Addr} (hn : Nw W' a) : Nw W a := fun y hy => Nat.le_trans h (hn y hy)
theorem far_of {W : World} {a : Option Addr} (h : Nw W a) {b : Nat} (hb : b < W.heap.size) : ∀ y, a = some y → y.block ≠ b := fun y hy e => by have := h y hy; omega
set_option maxRecDepth 100000 in
set_option maxHeartbeats 2000000 in
theorem rfPut_blankN (h : Hd.H) (a1 a2 : Option Addr) (k c1 r c2 : Nat) (rows e : Int) (c n : Int) (c0 : 0 ≤ c) (c1' : c ≤ 255) (w : World) (hb : Tk.blank c = true) (n0 : 0 ≤ n) {one row : List Int} {rows' last' e' : Int} {out row0 : List Int} (h2 : SlK .u64 w a2 r row0) (hs : ∀ W, Below w.heap.size w W → Calls Tryz.prog 140 #[agR h (-1) (.slice a1 k c1) (.slice a2 r c2) rows 0 e, .int .i64 n] W (RfS W h a2 row0 one row rows' last' e' out)) :
    Calls Tryz.prog 105 #[agR h n (.slice a1 k c1) (.slice a2 r c2) rows 0 e, .int .u8 c] w (RpS w h a2 row0 one row rows' last' e' out) := by
  have HB : Hid (∀ W, Calls Tryz.prog 78 #[.int .u8 c] W fun e w' => e = .returned (.bool true) ∧ W = w') := fun W => by have := refBlank_any c c0 c1' W; rw [hb] at this; exact this
  have n0' : ¬ n < 0 := by omega
  have n0d : decide (n < 0) = false := decide_eq_false n0'
  clear hb
  have HS := Lib.hid hs
  have H2 : Hid (∀ W, Below w.heap.size w W → SlK .u64 W a2 row0.length row0) := Lib.hid fun W hb => by have := h2.below hb; rwa [h2.1]
  clear hs h2
  unfold agR at HS ⊢
  go_enter Tryz.func105, Tryz.ntmps105
  go_wp2_with fail
  refine (HB.out _).mono ?_; rintro e w1 ⟨rfl, rfl⟩
  go_wp2_with fail
  refine (HS.out _ ((((Below.refl _ w).alloc (Nat.le_refl _) _).alloc (by simp) _))).mono ?_
  rintro x w2 ⟨b1, d1, b2, d2, b, d, rfl, S1, S2, S3, hb2, N1, N2, N3⟩
  unfold agR
  have HS1 := Lib.hid S1
  have HS2 := Lib.hid S2
  have HS3 := Lib.hid S3
  have HN1 := Lib.hid N1
  have HN2 := Lib.hid N2
  have HN3 := Lib.hid N3
  clear S1 S2 S3 N1 N2 N3
  have HZ2 : Hid (RbC w2 (w.heap.size + 1) Hd.none 0 (.slice none 0 0) (.slice none 0 0) 0 0 0) := by have := (RbC.new (w.alloc _) Hd.none 0 (.slice none 0 0) (.slice none 0 0) 0 0 0).later hb2; rw [World.size_alloc] at this; exact Lib.hid this
  have BW := Lib.hid ((((Below.refl _ w).alloc (Nat.le_refl _) _).alloc (by simp) _).trans (hb2.mono (by simp; omega)))
  clear hb2
  obtain ⟨z0, z1, z2, z3, z4, z5, z6, z7, z8, z9⟩ := HZ2.out.cells
  obtain ⟨y0, y1, y2, y3, y4, y5, y6, y7, y8, y9⟩ := HZ2.out.frs
  have HPA := Lib.hid (HZ2.out.putAll h (-1) (.slice b1 one.length d1) (.slice b2 row.length d2) rows' last' e')
  go_wp2
  have GP := Lib.hid (RbC.grownAll w2 (w.heap.size + 1) h (-1) (.slice b1 one.length d1) (.slice b2 row.length d2) rows' last' e')
  have BP := Lib.hid ((Below.refl (w.heap.size + 1) w2).grown GP.out (by have := HZ2.out.lt; omega) (fun j ej => by cases ej; exact Nat.le_refl _))
  refine bodyPost_ret (ret_cell_tmp Tryz.results105 _ _ _ _ rfl (load_rR HPA.out)) rfl ?_
  refine ⟨b1, d1, b2, d2, b, d, rfl, slk_kept (b := w.heap.size + 1) HS1.out (far_of HN1.out (by simp)) GP.out, ?_, slk_kept (b := w.heap.size + 1) HS3.out (far_of HN3.out (by simp)) GP.out, BW.out.trans (BP.out.mono (Nat.le_succ _)), nw_mono (by simp; omega) HN1.out, HN2.out.imp id (nw_mono (by simp; omega)), nw_mono (by simp; omega) HN3.out⟩
  rcases HN2.out with ⟨rfl, rfl⟩ | hn
  · exact H2.out _ (BW.out.trans (BP.out.mono (Nat.le_succ _)))
  · exact slk_kept (b := w.heap.size + 1) HS2.out (far_of hn (by simp)) GP.out
set_option maxRecDepth 100000 in
set_option maxHeartbeats 2000000 in
theorem rfPut_bit48 (h : Hd.H) (a1 a2 : Option Addr) (k c1 r c2 : Nat) (rows e : Int) (w : World) (hk : h.kd = 1) {one row : List Int} {rows' last' e' : Int} {out row0 : List Int} (h2 : SlK .u64 w a2 r row0) (hs : ∀ W, Below w.heap.size w W → Calls Tryz.prog 140 #[agR h (-1) (.slice a1 k c1) (.slice a2 r c2) rows 0 e, .int .i64 0] W (RfS W h a2 row0 one row rows' last' e' out)) :
    Calls Tryz.prog 105 #[agR h (-1) (.slice a1 k c1) (.slice a2 r c2) rows 0 e, .int .u8 48] w (RpS w h a2 row0 one row rows' last' e' out) := by
  have HB : Hid (∀ W, Calls Tryz.prog 78 #[.int .u8 48] W fun e w' => e = .returned (.bool false) ∧ W = w') := fun W => by have := refBlank_any 48 (by decide) (by decide) W; rw [show Tk.blank 48 = false from by decide] at this; exact this
  have HK := Lib.hid hk
  clear hk
  have HS := Lib.hid hs
  have H2 : Hid (∀ W, Below w.heap.size w W → SlK .u64 W a2 row0.length row0) := Lib.hid fun W hb => by have := h2.below hb; rwa [h2.1]
  clear hs h2
  unfold agR at HS ⊢
  go_enter Tryz.func105, Tryz.ntmps105
  go_wp2_with fail
  refine (HB.out _).mono ?_; rintro e w1 ⟨rfl, rfl⟩
  have hk : (h.kd == 1) = true := by have := HK.out; simpa using this
  go_wp2_with fail
  clear hk
  refine (HS.out _ ((((Below.refl _ w).alloc (Nat.le_refl _) _).alloc (by simp) _))).mono ?_
  rintro x w2 ⟨b1, d1, b2, d2, b, d, rfl, S1, S2, S3, hb2, N1, N2, N3⟩
  unfold agR
  have HS1 := Lib.hid S1
  have HS2 := Lib.hid S2
  have HS3 := Lib.hid S3
  have HN1 := Lib.hid N1
  have HN2 := Lib.hid N2
  have HN3 := Lib.hid N3
  clear S1 S2 S3 N1 N2 N3
  have HZ2 : Hid (RbC w2 (w.heap.size + 1) Hd.none 0 (.slice none 0 0) (.slice none 0 0) 0 0 0) := by have := (RbC.new (w.alloc _) Hd.none 0 (.slice none 0 0) (.slice none 0 0) 0 0 0).later hb2; rw [World.size_alloc] at this; exact Lib.hid this
  have BW := Lib.hid ((((Below.refl _ w).alloc (Nat.le_refl _) _).alloc (by simp) _).trans (hb2.mono (by simp; omega)))
  clear hb2
  obtain ⟨z0, z1, z2, z3, z4, z5, z6, z7, z8, z9⟩ := HZ2.out.cells
  obtain ⟨y0, y1, y2, y3, y4, y5, y6, y7, y8, y9⟩ := HZ2.out.frs
  have HPA := Lib.hid (HZ2.out.putAll h (-1) (.slice b1 one.length d1) (.slice b2 row.length d2) rows' last' e')
  go_wp2
  have GP := Lib.hid (RbC.grownAll w2 (w.heap.size + 1) h (-1) (.slice b1 one.length d1) (.slice b2 row.length d2) rows' last' e')
  have BP := Lib.hid ((Below.refl (w.heap.size + 1) w2).grown GP.out (by have := HZ2.out.lt; omega) (fun j ej => by cases ej; exact Nat.le_refl _))
  refine bodyPost_ret (ret_cell_tmp Tryz.results105 _ _ _ _ rfl (load_rR HPA.out)) rfl ?_
  refine ⟨b1, d1, b2, d2, b, d, rfl, slk_kept (b := w.heap.size + 1) HS1.out (far_of HN1.out (by simp)) GP.out, ?_, slk_kept (b := w.heap.size + 1) HS3.out (far_of HN3.out (by simp)) GP.out, BW.out.trans (BP.out.mono (Nat.le_succ _)), nw_mono (by simp; omega) HN1.out, HN2.out.imp id (nw_mono (by simp; omega)), nw_mono (by simp; omega) HN3.out⟩
  rcases HN2.out with ⟨rfl, rfl⟩ | hn
  · exact H2.out _ (BW.out.trans (BP.out.mono (Nat.le_succ _)))
  · exact slk_kept (b := w.heap.size + 1) HS2.out (far_of hn (by simp)) GP.out
set_option maxRecDepth 100000 in
set_option maxHeartbeats 2000000 in
theorem rfPut_bit49 (h : Hd.H) (a1 a2 : Option Addr) (k c1 r c2 : Nat) (rows e : Int) (w : World) (hk : h.kd = 1) {one row : List Int} {rows' last' e' : Int} {out row0 : List Int} (h2 : SlK .u64 w a2 r row0) (hs : ∀ W, Below w.heap.size w W → Calls Tryz.prog 140 #[agR h (-1) (.slice a1 k c1) (.slice a2 r c2) rows 0 e, .int .i64 1] W (RfS W h a2 row0 one row rows' last' e' out)) :
    Calls Tryz.prog 105 #[agR h (-1) (.slice a1 k c1) (.slice a2 r c2) rows 0 e, .int .u8 49] w (RpS w h a2 row0 one row rows' last' e' out) := by
  have HB : Hid (∀ W, Calls Tryz.prog 78 #[.int .u8 49] W fun e w' => e = .returned (.bool false) ∧ W = w') := fun W => by have := refBlank_any 49 (by decide) (by decide) W; rw [show Tk.blank 49 = false from by decide] at this; exact this
  have HK := Lib.hid hk
  clear hk
  have HS := Lib.hid hs
  have H2 : Hid (∀ W, Below w.heap.size w W → SlK .u64 W a2 row0.length row0) := Lib.hid fun W hb => by have := h2.below hb; rwa [h2.1]
  clear hs h2
  unfold agR at HS ⊢
  go_enter Tryz.func105, Tryz.ntmps105
  go_wp2_with fail
  refine (HB.out _).mono ?_; rintro e w1 ⟨rfl, rfl⟩
  have hk : (h.kd == 1) = true := by have := HK.out; simpa using this
  go_wp2_with fail
  clear hk
  refine (HS.out _ ((((Below.refl _ w).alloc (Nat.le_refl _) _).alloc (by simp) _))).mono ?_
  rintro x w2 ⟨b1, d1, b2, d2, b, d, rfl, S1, S2, S3, hb2, N1, N2, N3⟩
  unfold agR
  have HS1 := Lib.hid S1
  have HS2 := Lib.hid S2
  have HS3 := Lib.hid S3
  have HN1 := Lib.hid N1
  have HN2 := Lib.hid N2
  have HN3 := Lib.hid N3
  clear S1 S2 S3 N1 N2 N3
  have HZ2 : Hid (RbC w2 (w.heap.size + 1) Hd.none 0 (.slice none 0 0) (.slice none 0 0) 0 0 0) := by have := (RbC.new (w.alloc _) Hd.none 0 (.slice none 0 0) (.slice none 0 0) 0 0 0).later hb2; rw [World.size_alloc] at this; exact Lib.hid this
  have BW := Lib.hid ((((Below.refl _ w).alloc (Nat.le_refl _) _).alloc (by simp) _).trans (hb2.mono (by simp; omega)))
  clear hb2
  obtain ⟨z0, z1, z2, z3, z4, z5, z6, z7, z8, z9⟩ := HZ2.out.cells
  obtain ⟨y0, y1, y2, y3, y4, y5, y6, y7, y8, y9⟩ := HZ2.out.frs
  have HPA := Lib.hid (HZ2.out.putAll h (-1) (.slice b1 one.length d1) (.slice b2 row.length d2) rows' last' e')
  go_wp2
  have GP := Lib.hid (RbC.grownAll w2 (w.heap.size + 1) h (-1) (.slice b1 one.length d1) (.slice b2 row.length d2) rows' last' e')
  have BP := Lib.hid ((Below.refl (w.heap.size + 1) w2).grown GP.out (by have := HZ2.out.lt; omega) (fun j ej => by cases ej; exact Nat.le_refl _))
  refine bodyPost_ret (ret_cell_tmp Tryz.results105 _ _ _ _ rfl (load_rR HPA.out)) rfl ?_
  refine ⟨b1, d1, b2, d2, b, d, rfl, slk_kept (b := w.heap.size + 1) HS1.out (far_of HN1.out (by simp)) GP.out, ?_, slk_kept (b := w.heap.size + 1) HS3.out (far_of HN3.out (by simp)) GP.out, BW.out.trans (BP.out.mono (Nat.le_succ _)), nw_mono (by simp; omega) HN1.out, HN2.out.imp id (nw_mono (by simp; omega)), nw_mono (by simp; omega) HN3.out⟩
  rcases HN2.out with ⟨rfl, rfl⟩ | hn
  · exact H2.out _ (BW.out.trans (BP.out.mono (Nat.le_succ _)))
  · exact slk_kept (b := w.heap.size + 1) HS2.out (far_of hn (by simp)) GP.out
set_option maxRecDepth 100000 in
set_option maxHeartbeats 2000000 in
theorem rfPut_digit0 (h : Hd.H) (a1 a2 : Option Addr) (k c1 r c2 : Nat) (rows e : Int) (c : Int) (c0 : 0 ≤ c) (c1' : c ≤ 255) (k2 er : Int) (w : World) (hb : Tk.blank c = false) (hk : h.kd ≠ 1) (m0 : 0 ≤ h.m) (m1 : h.m ≤ 65535) (hst : Nu.stepV 0 c h.m = (k2, er)) (he : er = 0) :
    Calls Tryz.prog 105 #[agR h (-1) (.slice a1 k c1) (.slice a2 r c2) rows 0 e, .int .u8 c] w (RpP w (agR h k2 (.slice a1 k c1) (.slice a2 r c2) rows 0 e)) := by
  have HB : Hid (∀ W, Calls Tryz.prog 78 #[.int .u8 c] W fun e w' => e = .returned (.bool false) ∧ W = w') := fun W => by have := refBlank_any c c0 c1' W; rw [hb] at this; exact this
  have HS : Hid (∀ W, Calls Tryz.prog 139 #[.int .i64 0, .int .u8 c, .int .i64 h.m] W fun r w' => r = .returned (.tuple #[.int .i64 k2, .int .i64 er]) ∧ W = w') := fun W => refStep_two 0 c h.m (by omega) m0 (by omega) c0 c1' k2 er hst W
  have HK := Lib.hid hk
  have ke : (er == 4) = false := by rw [he]; rfl
  have kn : (er != 0) = false := by rw [he]; rfl
  clear hb hk hst m0 m1 he
  unfold agR
  go_enter Tryz.func105, Tryz.ntmps105
  go_wp2_with fail
  refine (HB.out _).mono ?_; rintro e w1 ⟨rfl, rfl⟩
  have hk : (h.kd == 1) = false := by have := HK.out; simpa using this
  go_wp2_with fail
  refine (HS.out _).mono ?_; rintro e w1 ⟨rfl, rfl⟩
  clear hk
  go_wp2
  go_returns
  exact ⟨rfl, by go_grown⟩
set_option maxRecDepth 100000 in
set_option maxHeartbeats 2000000 in
theorem rfPut_range0 (h : Hd.H) (a1 a2 : Option Addr) (k c1 r c2 : Nat) (rows e : Int) (c : Int) (c0 : 0 ≤ c) (c1' : c ≤ 255) (k2 er : Int) (w : World) (hb : Tk.blank c = false) (hk : h.kd ≠ 1) (m0 : 0 ≤ h.m) (m1 : h.m ≤ 65535) (hst : Nu.stepV 0 c h.m = (k2, er)) (he : er = 4) :
    Calls Tryz.prog 105 #[agR h (-1) (.slice a1 k c1) (.slice a2 r c2) rows 0 e, .int .u8 c] w (RpP w (agR h (-1) (.slice a1 k c1) (.slice a2 r c2) rows 2 5)) := by
  have HB : Hid (∀ W, Calls Tryz.prog 78 #[.int .u8 c] W fun e w' => e = .returned (.bool false) ∧ W = w') := fun W => by have := refBlank_any c c0 c1' W; rw [hb] at this; exact this
  have HS : Hid (∀ W, Calls Tryz.prog 139 #[.int .i64 0, .int .u8 c, .int .i64 h.m] W fun r w' => r = .returned (.tuple #[.int .i64 k2, .int .i64 er]) ∧ W = w') := fun W => refStep_two 0 c h.m (by omega) m0 (by omega) c0 c1' k2 er hst W
  have HK := Lib.hid hk
  have ke : (er == 4) = true := by rw [he]; rfl
  have HW := Lib.hid (refWrong_any h (-1) a1 a2 k c1 r c2 rows 0 e 5)
  clear hb hk hst m0 m1 he
  unfold agR at HW ⊢
  go_enter Tryz.func105, Tryz.ntmps105
  go_wp2_with fail
  refine (HB.out _).mono ?_; rintro e w1 ⟨rfl, rfl⟩
  have hk : (h.kd == 1) = false := by have := HK.out; simpa using this
  go_wp2_with fail
  refine (HS.out _).mono ?_; rintro e w1 ⟨rfl, rfl⟩
  clear hk
  go_wp2_with fail
  refine (HW.out _).mono ?_; rintro e w2 ⟨rfl, hb2⟩
  have HZ2 : Hid (RbC w2 (w.heap.size + 1) Hd.none 0 (.slice none 0 0) (.slice none 0 0) 0 0 0) := by have := (RbC.new (w.alloc _) Hd.none 0 (.slice none 0 0) (.slice none 0 0) 0 0 0).later hb2; rw [World.size_alloc] at this; exact Lib.hid this
  have BW := Lib.hid ((((Below.refl _ w).alloc (Nat.le_refl _) _).alloc (by simp) _).trans (hb2.mono (by simp; omega)))
  clear hb2
  obtain ⟨z0, z1, z2, z3, z4, z5, z6, z7, z8, z9⟩ := HZ2.out.cells
  obtain ⟨y0, y1, y2, y3, y4, y5, y6, y7, y8, y9⟩ := HZ2.out.frs
  have HPA := Lib.hid (HZ2.out.putAll h (-1) (.slice a1 k c1) (.slice a2 r c2) rows 2 5)
  go_wp2
  have GP := Lib.hid (RbC.grownAll w2 (w.heap.size + 1) h (-1) (.slice a1 k c1) (.slice a2 r c2) rows 2 5)
  have BP := Lib.hid ((Below.refl (w.heap.size + 1) w2).grown GP.out (by have := HZ2.out.lt; omega) (fun j ej => by cases ej; exact Nat.le_refl _))
  refine bodyPost_ret (ret_cell_tmp Tryz.results105 _ _ _ _ rfl (load_rR HPA.out)) rfl ?_
  exact ⟨rfl, BW.out.trans (BP.out.mono (Nat.le_succ _))⟩
set_option maxRecDepth 100000 in
set_option maxHeartbeats 2000000 in
theorem rfPut_none0 (h : Hd.H) (a1 a2 : Option Addr) (k c1 r c2 : Nat) (rows e : Int) (c : Int) (c0 : 0 ≤ c) (c1' : c ≤ 255) (k2 er : Int) (w : World) (hb : Tk.blank c = false) (hk : h.kd ≠ 1) (m0 : 0 ≤ h.m) (m1 : h.m ≤ 65535) (hst : Nu.stepV 0 c h.m = (k2, er)) (he : er ≠ 0) (he4 : er ≠ 4) :
    Calls Tryz.prog 105 #[agR h (-1) (.slice a1 k c1) (.slice a2 r c2) rows 0 e, .int .u8 c] w (RpP w (agR h (-1) (.slice a1 k c1) (.slice a2 r c2) rows 2 er)) := by
  have HB : Hid (∀ W, Calls Tryz.prog 78 #[.int .u8 c] W fun e w' => e = .returned (.bool false) ∧ W = w') := fun W => by have := refBlank_any c c0 c1' W; rw [hb] at this; exact this
  have HS : Hid (∀ W, Calls Tryz.prog 139 #[.int .i64 0, .int .u8 c, .int .i64 h.m] W fun r w' => r = .returned (.tuple #[.int .i64 k2, .int .i64 er]) ∧ W = w') := fun W => refStep_two 0 c h.m (by omega) m0 (by omega) c0 c1' k2 er hst W
  have HK := Lib.hid hk
  have ke : (er == 4) = false := by simpa using he4
  have kn : (er != 0) = true := by simpa using he
  have HW := Lib.hid (refWrong_any h (-1) a1 a2 k c1 r c2 rows 0 e er)
  clear hb hk hst m0 m1 he he4
  unfold agR at HW ⊢
  go_enter Tryz.func105, Tryz.ntmps105
  go_wp2_with fail
  refine (HB.out _).mono ?_; rintro e w1 ⟨rfl, rfl⟩
  have hk : (h.kd == 1) = false := by have := HK.out; simpa using this
  go_wp2_with fail
  refine (HS.out _).mono ?_; rintro e w1 ⟨rfl, rfl⟩
  clear hk
  go_wp2_with fail
  refine (HW.out _).mono ?_; rintro e w2 ⟨rfl, hb2⟩
  have HZ2 : Hid (RbC w2 (w.heap.size + 1) Hd.none 0 (.slice none 0 0) (.slice none 0 0) 0 0 0) := by have := (RbC.new (w.alloc _) Hd.none 0 (.slice none 0 0) (.slice none 0 0) 0 0 0).later hb2; rw [World.size_alloc] at this; exact Lib.hid this
  have BW := Lib.hid ((((Below.refl _ w).alloc (Nat.le_refl _) _).alloc (by simp) _).trans (hb2.mono (by simp; omega)))
  clear hb2
  obtain ⟨z0, z1, z2, z3, z4, z5, z6, z7, z8, z9⟩ := HZ2.out.cells
  obtain ⟨y0, y1, y2, y3, y4, y5, y6, y7, y8, y9⟩ := HZ2.out.frs
  have HPA := Lib.hid (HZ2.out.putAll h (-1) (.slice a1 k c1) (.slice a2 r c2) rows 2 er)
  go_wp2
  have GP := Lib.hid (RbC.grownAll w2 (w.heap.size + 1) h (-1) (.slice a1 k c1) (.slice a2 r c2) rows 2 er)
  have BP := Lib.hid ((Below.refl (w.heap.size + 1) w2).grown GP.out (by have := HZ2.out.lt; omega) (fun j ej => by cases ej; exact Nat.le_refl _))
  refine bodyPost_ret (ret_cell_tmp Tryz.results105 _ _ _ _ rfl (load_rR HPA.out)) rfl ?_
  exact ⟨rfl, BW.out.trans (BP.out.mono (Nat.le_succ _))⟩
set_option maxRecDepth 100000 in
set_option maxHeartbeats 2000000 in
theorem rfPut_digitN (h : Hd.H) (a1 a2 : Option Addr) (k c1 r c2 : Nat) (rows e : Int) (c n : Int) (c0 : 0 ≤ c) (c1' : c ≤ 255) (k2 er : Int) (w : World) (hb : Tk.blank c = false) (hk : h.kd ≠ 1) (n0 : 0 ≤ n) (n1 : n ≤ h.m) (m0 : 0 ≤ h.m) (m1 : h.m ≤ 65535) (hst : Nu.stepV n c h.m = (k2, er)) (he : er = 0) :
    Calls Tryz.prog 105 #[agR h n (.slice a1 k c1) (.slice a2 r c2) rows 0 e, .int .u8 c] w (RpP w (agR h k2 (.slice a1 k c1) (.slice a2 r c2) rows 0 e)) := by
  have HB : Hid (∀ W, Calls Tryz.prog 78 #[.int .u8 c] W fun e w' => e = .returned (.bool false) ∧ W = w') := fun W => by have := refBlank_any c c0 c1' W; rw [hb] at this; exact this
  have HS : Hid (∀ W, Calls Tryz.prog 139 #[.int .i64 n, .int .u8 c, .int .i64 h.m] W fun r w' => r = .returned (.tuple #[.int .i64 k2, .int .i64 er]) ∧ W = w') := fun W => refStep_two n c h.m n0 n1 (by omega) c0 c1' k2 er hst W
  have n0' : ¬ n < 0 := by omega
  have n0d : decide (n < 0) = false := decide_eq_false n0'
  have hmx : max n 0 = n := by omega
  have HMX := Lib.hid hmx
  clear hmx
  have HK := Lib.hid hk
  have ke : (er == 4) = false := by rw [he]; rfl
  have kn : (er != 0) = false := by rw [he]; rfl
  clear hb hk hst m0 m1 he n1
  unfold agR
  go_enter Tryz.func105, Tryz.ntmps105
  go_wp2_with fail
  refine (HB.out _).mono ?_; rintro e w1 ⟨rfl, rfl⟩
  have hk : (h.kd == 1) = false := by have := HK.out; simpa using this
  have hmx := HMX.out
  go_wp2_with fail
  refine (HS.out _).mono ?_; rintro e w1 ⟨rfl, rfl⟩
  clear hk hmx
  go_wp2
  go_returns
  exact ⟨rfl, by go_grown⟩
set_option maxRecDepth 100000 in
set_option maxHeartbeats 2000000 in
theorem rfPut_rangeN (h : Hd.H) (a1 a2 : Option Addr) (k c1 r c2 : Nat) (rows e : Int) (c n : Int) (c0 : 0 ≤ c) (c1' : c ≤ 255) (k2 er : Int) (w : World) (hb : Tk.blank c = false) (hk : h.kd ≠ 1) (n0 : 0 ≤ n) (n1 : n ≤ h.m) (m0 : 0 ≤ h.m) (m1 : h.m ≤ 65535) (hst : Nu.stepV n c h.m = (k2, er)) (he : er = 4) :
    Calls Tryz.prog 105 #[agR h n (.slice a1 k c1) (.slice a2 r c2) rows 0 e, .int .u8 c] w (RpP w (agR h n (.slice a1 k c1) (.slice a2 r c2) rows 2 5)) := by
  have HB : Hid (∀ W, Calls Tryz.prog 78 #[.int .u8 c] W fun e w' => e = .returned (.bool false) ∧ W = w') := fun W => by have := refBlank_any c c0 c1' W; rw [hb] at this; exact this
  have HS : Hid (∀ W, Calls Tryz.prog 139 #[.int .i64 n, .int .u8 c, .int .i64 h.m] W fun r w' => r = .returned (.tuple #[.int .i64 k2, .int .i64 er]) ∧ W = w') := fun W => refStep_two n c h.m n0 n1 (by omega) c0 c1' k2 er hst W
  have n0' : ¬ n < 0 := by omega
  have n0d : decide (n < 0) = false := decide_eq_false n0'
  have hmx : max n 0 = n := by omega
  have HMX := Lib.hid hmx
  clear hmx
  have HK := Lib.hid hk
  have ke : (er == 4) = true := by rw [he]; rfl
  have HW := Lib.hid (refWrong_any h n a1 a2 k c1 r c2 rows 0 e 5)
  clear hb hk hst m0 m1 he n1
  unfold agR at HW ⊢
  go_enter Tryz.func105, Tryz.ntmps105
  go_wp2_with fail
  refine (HB.out _).mono ?_; rintro e w1 ⟨rfl, rfl⟩
  have hk : (h.kd == 1) = false := by have := HK.out; simpa using this
  have hmx := HMX.out
  go_wp2_with fail
  refine (HS.out _).mono ?_; rintro e w1 ⟨rfl, rfl⟩
  clear hk hmx
  go_wp2_with fail
  refine (HW.out _).mono ?_; rintro e w2 ⟨rfl, hb2⟩
  have HZ2 : Hid (RbC w2 (w.heap.size + 1) Hd.none 0 (.slice none 0 0) (.slice none 0 0) 0 0 0) := by have := (RbC.new (w.alloc _) Hd.none 0 (.slice none 0 0) (.slice none 0 0) 0 0 0).later hb2; rw [World.size_alloc] at this; exact Lib.hid this
  have BW := Lib.hid ((((Below.refl _ w).alloc (Nat.le_refl _) _).alloc (by simp) _).trans (hb2.mono (by simp; omega)))
  clear hb2
  obtain ⟨z0, z1, z2, z3, z4, z5, z6, z7, z8, z9⟩ := HZ2.out.cells
  obtain ⟨y0, y1, y2, y3, y4, y5, y6, y7, y8, y9⟩ := HZ2.out.frs
  have HPA := Lib.hid (HZ2.out.putAll h n (.slice a1 k c1) (.slice a2 r c2) rows 2 5)
  go_wp2
  have GP := Lib.hid (RbC.grownAll w2 (w.heap.size + 1) h n (.slice a1 k c1) (.slice a2 r c2) rows 2 5)
  have BP := Lib.hid ((Below.refl (w.heap.size + 1) w2).grown GP.out (by have := HZ2.out.lt; omega) (fun j ej => by cases ej; exact Nat.le_refl _))
  refine bodyPost_ret (ret_cell_tmp Tryz.results105 _ _ _ _ rfl (load_rR HPA.out)) rfl ?_
  exact ⟨rfl, BW.out.trans (BP.out.mono (Nat.le_succ _))⟩
set_option maxRecDepth 100000 in
set_option maxHeartbeats 2000000 in
theorem rfPut_noneN (h : Hd.H) (a1 a2 : Option Addr) (k c1 r c2 : Nat) (rows e : Int) (c n : Int) (c0 : 0 ≤ c) (c1' : c ≤ 255) (k2 er : Int) (w : World) (hb : Tk.blank c = false) (hk : h.kd ≠ 1) (n0 : 0 ≤ n) (n1 : n ≤ h.m) (m0 : 0 ≤ h.m) (m1 : h.m ≤ 65535) (hst : Nu.stepV n c h.m = (k2, er)) (he : er ≠ 0) (he4 : er ≠ 4) :
    Calls Tryz.prog 105 #[agR h n (.slice a1 k c1) (.slice a2 r c2) rows 0 e, .int .u8 c] w (RpP w (agR h n (.slice a1 k c1) (.slice a2 r c2) rows 2 er)) := by
  have HB : Hid (∀ W, Calls Tryz.prog 78 #[.int .u8 c] W fun e w' => e = .returned (.bool false) ∧ W = w') := fun W => by have := refBlank_any c c0 c1' W; rw [hb] at this; exact this
  have HS : Hid (∀ W, Calls Tryz.prog 139 #[.int .i64 n, .int .u8 c, .int .i64 h.m] W fun r w' => r = .returned (.tuple #[.int .i64 k2, .int .i64 er]) ∧ W = w') := fun W => refStep_two n c h.m n0 n1 (by omega) c0 c1' k2 er hst W
  have n0' : ¬ n < 0 := by omega
  have n0d : decide (n < 0) = false := decide_eq_false n0'
  have hmx : max n 0 = n := by omega
  have HMX := Lib.hid hmx
  clear hmx
  have HK := Lib.hid hk
  have ke : (er == 4) = false := by simpa using he4
  have kn : (er != 0) = true := by simpa using he
  have HW := Lib.hid (refWrong_any h n a1 a2 k c1 r c2 rows 0 e er)
  clear hb hk hst m0 m1 he he4 n1
  unfold agR at HW ⊢
  go_enter Tryz.func105, Tryz.ntmps105
  go_wp2_with fail
  refine (HB.out _).mono ?_; rintro e w1 ⟨rfl, rfl⟩
  have hk : (h.kd == 1) = false := by have := HK.out; simpa using this
  have hmx := HMX.out
  go_wp2_with fail
  refine (HS.out _).mono ?_; rintro e w1 ⟨rfl, rfl⟩
  clear hk hmx
  go_wp2_with fail
  refine (HW.out _).mono ?_; rintro e w2 ⟨rfl, hb2⟩
  have HZ2 : Hid (RbC w2 (w.heap.size + 1) Hd.none 0 (.slice none 0 0) (.slice none 0 0) 0 0 0) := by have := (RbC.new (w.alloc _) Hd.none 0 (.slice none 0 0) (.slice none 0 0) 0 0 0).later hb2; rw [World.size_alloc] at this; exact Lib.hid this
  have BW := Lib.hid ((((Below.refl _ w).alloc (Nat.le_refl _) _).alloc (by simp) _).trans (hb2.mono (by simp; omega)))
  clear hb2
  obtain ⟨z0, z1, z2, z3, z4, z5, z6, z7, z8, z9⟩ := HZ2.out.cells
  obtain ⟨y0, y1, y2, y3, y4, y5, y6, y7, y8, y9⟩ := HZ2.out.frs
  have HPA := Lib.hid (HZ2.out.putAll h n (.slice a1 k c1) (.slice a2 r c2) rows 2 er)
  go_wp2
  have GP := Lib.hid (RbC.grownAll w2 (w.heap.size + 1) h n (.slice a1 k c1) (.slice a2 r c2) rows 2 er)
  have BP := Lib.hid ((Below.refl (w.heap.size + 1) w2).grown GP.out (by have := HZ2.out.lt; omega) (fun j ej => by cases ej; exact Nat.le_refl _))
  refine bodyPost_ret (ret_cell_tmp Tryz.results105 _ _ _ _ rfl (load_rR HPA.out)) rfl ?_
  exact ⟨rfl, BW.out.trans (BP.out.mono (Nat.le_succ _))⟩
end Go.Proofs.YtkjkepnailamnaaGreat
