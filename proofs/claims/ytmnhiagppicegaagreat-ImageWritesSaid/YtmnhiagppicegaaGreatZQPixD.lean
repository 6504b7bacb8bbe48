/- What Fits, Good, Same and the example of the document's own answer come to, over any memory. Condition: numbers fit their kinds. -/
import Derived.Test.YtmnhiagppicegaaGreatZgAC
import Derived.Test.YtmnhiagppicegaaGreatZgAA
namespace Go.Proofs.YtmnhiagppicegaaGreat
open Go.RowKit
set_option linter.unusedVariables false
namespace Pq
theorem refFits3 (p c m a b d : Int) (h : Px.Is3 p a b d) (w : World) :
    Calls Tryz.prog 63 #[.int .u64 p, .agg #[.int .i64 c, .int .i64 m]] w fun e w' => e = .returned (.bool (Px.fitsV p c m)) ∧ Below w.heap.size w w' := by
  by_cases ha : m < a
  · have X := Lib.hid (Px.fitsV3_bad (c := c) h (.inl ha))
    go_enter Tryz.func63, Tryz.ntmps63
    go_wp2_with (go_at_call 64; refine (refUnpack3 p a b d h _).mono ?_; rintro e w1 ⟨g, cap, rfl, ⟨hg0, hg1, c0, c1, c2, f0, f1, f2⟩, hb1⟩)
    have d0 : w1.cell? ⟨w.heap.size, 0, none⟩ = some (.int .i64 c) := cell_later hb1 (by simp [go_sem])
    have d1 : w1.cell? ⟨w.heap.size, 1, none⟩ = some (.int .i64 m) := cell_later hb1 (by simp [go_sem])
    have hz : w.heap.size < w1.heap.size := by have := hb1.size; simp at this; omega
    have hb0 := box_below w _ _ hb1
    clear hb1
    refine wp_loop_rounds 4 ?_
    repeat any_goals (rw [rounds_succ]; go_wp2_with (first | go_quiet (fail) | (go_at_call 109; refine (refFormat_any _ _ _).mono ?_; rintro e w2 ⟨rfl, hb2⟩; have d2 : w2.cell? ⟨w.heap.size, 0, none⟩ = some (.int .i64 c) := cell_later hb2 (by simp [go_sem, d0]); have hb3 : Below w.heap.size w w2 := (by first | exact (below_drewN hb0 _).trans (hb2.mono (B' := w.heap.size) (by simp; omega)) | exact hb0.trans (hb2.mono (B' := w.heap.size) (by omega))); clear hb2)))
    all_goals go_ret
    all_goals first | exact ⟨ret_b X.out.symm, below_drewN hb0 _⟩ | exact ⟨ret_b X.out.symm, below_drewN (below_drewN hb0 _) _⟩ | exact ⟨ret_b X.out.symm, hb3⟩
  by_cases hb : m < b
  · have X := Lib.hid (Px.fitsV3_bad (c := c) h (.inr (.inl hb)))
    go_enter Tryz.func63, Tryz.ntmps63
    go_wp2_with (go_at_call 64; refine (refUnpack3 p a b d h _).mono ?_; rintro e w1 ⟨g, cap, rfl, ⟨hg0, hg1, c0, c1, c2, f0, f1, f2⟩, hb1⟩)
    have d0 : w1.cell? ⟨w.heap.size, 0, none⟩ = some (.int .i64 c) := cell_later hb1 (by simp [go_sem])
    have d1 : w1.cell? ⟨w.heap.size, 1, none⟩ = some (.int .i64 m) := cell_later hb1 (by simp [go_sem])
    have hz : w.heap.size < w1.heap.size := by have := hb1.size; simp at this; omega
    have hb0 := box_below w _ _ hb1
    clear hb1
    refine wp_loop_rounds 4 ?_
    repeat any_goals (rw [rounds_succ]; go_wp2_with (first | go_quiet (fail) | (go_at_call 109; refine (refFormat_any _ _ _).mono ?_; rintro e w2 ⟨rfl, hb2⟩; have d2 : w2.cell? ⟨w.heap.size, 0, none⟩ = some (.int .i64 c) := cell_later hb2 (by simp [go_sem, d0]); have hb3 : Below w.heap.size w w2 := (by first | exact (below_drewN hb0 _).trans (hb2.mono (B' := w.heap.size) (by simp; omega)) | exact hb0.trans (hb2.mono (B' := w.heap.size) (by omega))); clear hb2)))
    all_goals go_ret
    all_goals first | exact ⟨ret_b X.out.symm, below_drewN hb0 _⟩ | exact ⟨ret_b X.out.symm, below_drewN (below_drewN hb0 _) _⟩ | exact ⟨ret_b X.out.symm, hb3⟩
  by_cases hd : m < d
  · have X := Lib.hid (Px.fitsV3_bad (c := c) h (.inr (.inr hd)))
    go_enter Tryz.func63, Tryz.ntmps63
    go_wp2_with (go_at_call 64; refine (refUnpack3 p a b d h _).mono ?_; rintro e w1 ⟨g, cap, rfl, ⟨hg0, hg1, c0, c1, c2, f0, f1, f2⟩, hb1⟩)
    have d0 : w1.cell? ⟨w.heap.size, 0, none⟩ = some (.int .i64 c) := cell_later hb1 (by simp [go_sem])
    have d1 : w1.cell? ⟨w.heap.size, 1, none⟩ = some (.int .i64 m) := cell_later hb1 (by simp [go_sem])
    have hz : w.heap.size < w1.heap.size := by have := hb1.size; simp at this; omega
    have hb0 := box_below w _ _ hb1
    clear hb1
    refine wp_loop_rounds 4 ?_
    repeat any_goals (rw [rounds_succ]; go_wp2_with (first | go_quiet (fail) | (go_at_call 109; refine (refFormat_any _ _ _).mono ?_; rintro e w2 ⟨rfl, hb2⟩; have d2 : w2.cell? ⟨w.heap.size, 0, none⟩ = some (.int .i64 c) := cell_later hb2 (by simp [go_sem, d0]); have hb3 : Below w.heap.size w w2 := (by first | exact (below_drewN hb0 _).trans (hb2.mono (B' := w.heap.size) (by simp; omega)) | exact hb0.trans (hb2.mono (B' := w.heap.size) (by omega))); clear hb2)))
    all_goals go_ret
    all_goals first | exact ⟨ret_b X.out.symm, below_drewN hb0 _⟩ | exact ⟨ret_b X.out.symm, below_drewN (below_drewN hb0 _) _⟩ | exact ⟨ret_b X.out.symm, hb3⟩
  cases hf : Px.formatV c m
  · have X := Lib.hid (show Px.fitsV p c m = false by rw [Px.fitsV_bad hf])
    go_enter Tryz.func63, Tryz.ntmps63
    go_wp2_with (go_at_call 64; refine (refUnpack3 p a b d h _).mono ?_; rintro e w1 ⟨g, cap, rfl, ⟨hg0, hg1, c0, c1, c2, f0, f1, f2⟩, hb1⟩)
    have d0 : w1.cell? ⟨w.heap.size, 0, none⟩ = some (.int .i64 c) := cell_later hb1 (by simp [go_sem])
    have d1 : w1.cell? ⟨w.heap.size, 1, none⟩ = some (.int .i64 m) := cell_later hb1 (by simp [go_sem])
    have hz : w.heap.size < w1.heap.size := by have := hb1.size; simp at this; omega
    have hb0 := box_below w _ _ hb1
    clear hb1
    refine wp_loop_rounds 4 ?_
    repeat any_goals (rw [rounds_succ]; go_wp2_with (first | go_quiet (fail) | (go_at_call 109; refine (refFormat_any _ _ _).mono ?_; rintro e w2 ⟨rfl, hb2⟩; have d2 : w2.cell? ⟨w.heap.size, 0, none⟩ = some (.int .i64 c) := cell_later hb2 (by simp [go_sem, d0]); have hb3 : Below w.heap.size w w2 := (by first | exact (below_drewN hb0 _).trans (hb2.mono (B' := w.heap.size) (by simp; omega)) | exact hb0.trans (hb2.mono (B' := w.heap.size) (by omega))); clear hb2)))
    all_goals go_ret
    all_goals first | exact ⟨ret_b X.out.symm, below_drewN hb0 _⟩ | exact ⟨ret_b X.out.symm, below_drewN (below_drewN hb0 _) _⟩ | exact ⟨ret_b X.out.symm, hb3⟩
  cases k : ((3 : Int) == c)
  · have X := Lib.hid (show Px.fitsV p c m = false by rw [Px.fitsV3_all h (by omega) (by omega) (by omega), hf, k]; rfl)
    go_enter Tryz.func63, Tryz.ntmps63
    go_wp2_with (go_at_call 64; refine (refUnpack3 p a b d h _).mono ?_; rintro e w1 ⟨g, cap, rfl, ⟨hg0, hg1, c0, c1, c2, f0, f1, f2⟩, hb1⟩)
    have d0 : w1.cell? ⟨w.heap.size, 0, none⟩ = some (.int .i64 c) := cell_later hb1 (by simp [go_sem])
    have d1 : w1.cell? ⟨w.heap.size, 1, none⟩ = some (.int .i64 m) := cell_later hb1 (by simp [go_sem])
    have hz : w.heap.size < w1.heap.size := by have := hb1.size; simp at this; omega
    have hb0 := box_below w _ _ hb1
    clear hb1
    refine wp_loop_rounds 4 ?_
    repeat any_goals (rw [rounds_succ]; go_wp2_with (first | go_quiet (fail) | (go_at_call 109; refine (refFormat_any _ _ _).mono ?_; rintro e w2 ⟨rfl, hb2⟩; have d2 : w2.cell? ⟨w.heap.size, 0, none⟩ = some (.int .i64 c) := cell_later hb2 (by simp [go_sem, d0]); have hb3 : Below w.heap.size w w2 := (by first | exact (below_drewN hb0 _).trans (hb2.mono (B' := w.heap.size) (by simp; omega)) | exact hb0.trans (hb2.mono (B' := w.heap.size) (by omega))); clear hb2)))
    all_goals go_ret
    all_goals first | exact ⟨ret_b X.out.symm, below_drewN hb0 _⟩ | exact ⟨ret_b X.out.symm, below_drewN (below_drewN hb0 _) _⟩ | exact ⟨ret_b X.out.symm, hb3⟩
  · have X := Lib.hid (show Px.fitsV p c m = true by rw [Px.fitsV3_all h (by omega) (by omega) (by omega), hf, k]; rfl)
    go_enter Tryz.func63, Tryz.ntmps63
    go_wp2_with (go_at_call 64; refine (refUnpack3 p a b d h _).mono ?_; rintro e w1 ⟨g, cap, rfl, ⟨hg0, hg1, c0, c1, c2, f0, f1, f2⟩, hb1⟩)
    have d0 : w1.cell? ⟨w.heap.size, 0, none⟩ = some (.int .i64 c) := cell_later hb1 (by simp [go_sem])
    have d1 : w1.cell? ⟨w.heap.size, 1, none⟩ = some (.int .i64 m) := cell_later hb1 (by simp [go_sem])
    have hz : w.heap.size < w1.heap.size := by have := hb1.size; simp at this; omega
    have hb0 := box_below w _ _ hb1
    clear hb1
    refine wp_loop_rounds 4 ?_
    repeat any_goals (rw [rounds_succ]; go_wp2_with (first | go_quiet (fail) | (go_at_call 109; refine (refFormat_any _ _ _).mono ?_; rintro e w2 ⟨rfl, hb2⟩; have d2 : w2.cell? ⟨w.heap.size, 0, none⟩ = some (.int .i64 c) := cell_later hb2 (by simp [go_sem, d0]); have hb3 : Below w.heap.size w w2 := (by first | exact (below_drewN hb0 _).trans (hb2.mono (B' := w.heap.size) (by simp; omega)) | exact hb0.trans (hb2.mono (B' := w.heap.size) (by omega))); clear hb2)))
    all_goals go_ret
    all_goals first | exact ⟨ret_b X.out.symm, below_drewN hb0 _⟩ | exact ⟨ret_b X.out.symm, below_drewN (below_drewN hb0 _) _⟩ | exact ⟨ret_b X.out.symm, hb3⟩

theorem refFits1 (p c m a : Int) (h : Px.Is1 p a) (w : World) :
    Calls Tryz.prog 63 #[.int .u64 p, .agg #[.int .i64 c, .int .i64 m]] w fun e w' => e = .returned (.bool (Px.fitsV p c m)) ∧ Below w.heap.size w w' := by
  by_cases ha : m < a
  · have X := Lib.hid (Px.fitsV1_bad (c := c) h ha)
    go_enter Tryz.func63, Tryz.ntmps63
    go_wp2_with (go_at_call 64; refine (refUnpack1 p a h _).mono ?_; rintro e w1 ⟨g, cap, rfl, ⟨hg0, hg1, c0, f0⟩, hb1⟩)
    have d0 : w1.cell? ⟨w.heap.size, 0, none⟩ = some (.int .i64 c) := cell_later hb1 (by simp [go_sem])
    have d1 : w1.cell? ⟨w.heap.size, 1, none⟩ = some (.int .i64 m) := cell_later hb1 (by simp [go_sem])
    have hz : w.heap.size < w1.heap.size := by have := hb1.size; simp at this; omega
    have hb0 := box_below w _ _ hb1
    clear hb1
    refine wp_loop_rounds 2 ?_
    repeat any_goals (rw [rounds_succ]; go_wp2_with (first | go_quiet (fail) | (go_at_call 109; refine (refFormat_any _ _ _).mono ?_; rintro e w2 ⟨rfl, hb2⟩; have d2 : w2.cell? ⟨w.heap.size, 0, none⟩ = some (.int .i64 c) := cell_later hb2 (by simp [go_sem, d0]); have hb3 : Below w.heap.size w w2 := (by first | exact (below_drewN hb0 _).trans (hb2.mono (B' := w.heap.size) (by simp; omega)) | exact hb0.trans (hb2.mono (B' := w.heap.size) (by omega))); clear hb2)))
    all_goals go_ret
    all_goals first | exact ⟨ret_b X.out.symm, below_drewN hb0 _⟩ | exact ⟨ret_b X.out.symm, below_drewN (below_drewN hb0 _) _⟩ | exact ⟨ret_b X.out.symm, hb3⟩
  cases hf : Px.formatV c m
  · have X := Lib.hid (show Px.fitsV p c m = false by rw [Px.fitsV_bad hf])
    go_enter Tryz.func63, Tryz.ntmps63
    go_wp2_with (go_at_call 64; refine (refUnpack1 p a h _).mono ?_; rintro e w1 ⟨g, cap, rfl, ⟨hg0, hg1, c0, f0⟩, hb1⟩)
    have d0 : w1.cell? ⟨w.heap.size, 0, none⟩ = some (.int .i64 c) := cell_later hb1 (by simp [go_sem])
    have d1 : w1.cell? ⟨w.heap.size, 1, none⟩ = some (.int .i64 m) := cell_later hb1 (by simp [go_sem])
    have hz : w.heap.size < w1.heap.size := by have := hb1.size; simp at this; omega
    have hb0 := box_below w _ _ hb1
    clear hb1
    refine wp_loop_rounds 2 ?_
    repeat any_goals (rw [rounds_succ]; go_wp2_with (first | go_quiet (fail) | (go_at_call 109; refine (refFormat_any _ _ _).mono ?_; rintro e w2 ⟨rfl, hb2⟩; have d2 : w2.cell? ⟨w.heap.size, 0, none⟩ = some (.int .i64 c) := cell_later hb2 (by simp [go_sem, d0]); have hb3 : Below w.heap.size w w2 := (by first | exact (below_drewN hb0 _).trans (hb2.mono (B' := w.heap.size) (by simp; omega)) | exact hb0.trans (hb2.mono (B' := w.heap.size) (by omega))); clear hb2)))
    all_goals go_ret
    all_goals first | exact ⟨ret_b X.out.symm, below_drewN hb0 _⟩ | exact ⟨ret_b X.out.symm, below_drewN (below_drewN hb0 _) _⟩ | exact ⟨ret_b X.out.symm, hb3⟩
  cases k : ((1 : Int) == c)
  · have X := Lib.hid (show Px.fitsV p c m = false by rw [Px.fitsV1_all h (by omega), hf, k]; rfl)
    go_enter Tryz.func63, Tryz.ntmps63
    go_wp2_with (go_at_call 64; refine (refUnpack1 p a h _).mono ?_; rintro e w1 ⟨g, cap, rfl, ⟨hg0, hg1, c0, f0⟩, hb1⟩)
    have d0 : w1.cell? ⟨w.heap.size, 0, none⟩ = some (.int .i64 c) := cell_later hb1 (by simp [go_sem])
    have d1 : w1.cell? ⟨w.heap.size, 1, none⟩ = some (.int .i64 m) := cell_later hb1 (by simp [go_sem])
    have hz : w.heap.size < w1.heap.size := by have := hb1.size; simp at this; omega
    have hb0 := box_below w _ _ hb1
    clear hb1
    refine wp_loop_rounds 2 ?_
    repeat any_goals (rw [rounds_succ]; go_wp2_with (first | go_quiet (fail) | (go_at_call 109; refine (refFormat_any _ _ _).mono ?_; rintro e w2 ⟨rfl, hb2⟩; have d2 : w2.cell? ⟨w.heap.size, 0, none⟩ = some (.int .i64 c) := cell_later hb2 (by simp [go_sem, d0]); have hb3 : Below w.heap.size w w2 := (by first | exact (below_drewN hb0 _).trans (hb2.mono (B' := w.heap.size) (by simp; omega)) | exact hb0.trans (hb2.mono (B' := w.heap.size) (by omega))); clear hb2)))
    all_goals go_ret
    all_goals first | exact ⟨ret_b X.out.symm, below_drewN hb0 _⟩ | exact ⟨ret_b X.out.symm, below_drewN (below_drewN hb0 _) _⟩ | exact ⟨ret_b X.out.symm, hb3⟩
  · have X := Lib.hid (show Px.fitsV p c m = true by rw [Px.fitsV1_all h (by omega), hf, k]; rfl)
    go_enter Tryz.func63, Tryz.ntmps63
    go_wp2_with (go_at_call 64; refine (refUnpack1 p a h _).mono ?_; rintro e w1 ⟨g, cap, rfl, ⟨hg0, hg1, c0, f0⟩, hb1⟩)
    have d0 : w1.cell? ⟨w.heap.size, 0, none⟩ = some (.int .i64 c) := cell_later hb1 (by simp [go_sem])
    have d1 : w1.cell? ⟨w.heap.size, 1, none⟩ = some (.int .i64 m) := cell_later hb1 (by simp [go_sem])
    have hz : w.heap.size < w1.heap.size := by have := hb1.size; simp at this; omega
    have hb0 := box_below w _ _ hb1
    clear hb1
    refine wp_loop_rounds 2 ?_
    repeat any_goals (rw [rounds_succ]; go_wp2_with (first | go_quiet (fail) | (go_at_call 109; refine (refFormat_any _ _ _).mono ?_; rintro e w2 ⟨rfl, hb2⟩; have d2 : w2.cell? ⟨w.heap.size, 0, none⟩ = some (.int .i64 c) := cell_later hb2 (by simp [go_sem, d0]); have hb3 : Below w.heap.size w w2 := (by first | exact (below_drewN hb0 _).trans (hb2.mono (B' := w.heap.size) (by simp; omega)) | exact hb0.trans (hb2.mono (B' := w.heap.size) (by omega))); clear hb2)))
    all_goals go_ret
    all_goals first | exact ⟨ret_b X.out.symm, below_drewN hb0 _⟩ | exact ⟨ret_b X.out.symm, below_drewN (below_drewN hb0 _) _⟩ | exact ⟨ret_b X.out.symm, hb3⟩

theorem refFits0 (p c m : Int) (hU : Px.U p) (h : Px.Is0 p) (w : World) :
    Calls Tryz.prog 63 #[.int .u64 p, .agg #[.int .i64 c, .int .i64 m]] w fun e w' => e = .returned (.bool (Px.fitsV p c m)) ∧ Below w.heap.size w w' := by
  cases hf : Px.formatV c m
  · have X := Lib.hid (show Px.fitsV p c m = false by rw [Px.fitsV_bad hf])
    go_enter Tryz.func63, Tryz.ntmps63
    go_wp2_with (go_at_call 64; refine (refUnpack0 p hU h _).mono ?_; rintro e w1 ⟨ad, cap, rfl, hb1⟩)
    have d0 : w1.cell? ⟨w.heap.size, 0, none⟩ = some (.int .i64 c) := cell_later hb1 (by simp [go_sem])
    have d1 : w1.cell? ⟨w.heap.size, 1, none⟩ = some (.int .i64 m) := cell_later hb1 (by simp [go_sem])
    have hz : w.heap.size < w1.heap.size := by have := hb1.size; simp at this; omega
    have hb0 := box_below w _ _ hb1
    clear hb1
    refine wp_loop_rounds 1 ?_
    repeat any_goals (rw [rounds_succ]; go_wp2_with (first | go_quiet (fail) | (go_at_call 109; refine (refFormat_any _ _ _).mono ?_; rintro e w2 ⟨rfl, hb2⟩; have d2 : w2.cell? ⟨w.heap.size, 0, none⟩ = some (.int .i64 c) := cell_later hb2 (by simp [go_sem, d0]); have hb3 : Below w.heap.size w w2 := (by first | exact (below_drewN hb0 _).trans (hb2.mono (B' := w.heap.size) (by simp; omega)) | exact hb0.trans (hb2.mono (B' := w.heap.size) (by omega))); clear hb2)))
    all_goals go_ret
    all_goals first | exact ⟨ret_b X.out.symm, below_drewN hb0 _⟩ | exact ⟨ret_b X.out.symm, below_drewN (below_drewN hb0 _) _⟩ | exact ⟨ret_b X.out.symm, hb3⟩
  have k : ((0 : Int) == c) = false := by
    have := Px.formatC hf
    rw [beq_eq_false_iff_ne]; omega
  · have X := Lib.hid (Px.fitsV0 (c := c) (m := m) h)
    go_enter Tryz.func63, Tryz.ntmps63
    go_wp2_with (go_at_call 64; refine (refUnpack0 p hU h _).mono ?_; rintro e w1 ⟨ad, cap, rfl, hb1⟩)
    have d0 : w1.cell? ⟨w.heap.size, 0, none⟩ = some (.int .i64 c) := cell_later hb1 (by simp [go_sem])
    have d1 : w1.cell? ⟨w.heap.size, 1, none⟩ = some (.int .i64 m) := cell_later hb1 (by simp [go_sem])
    have hz : w.heap.size < w1.heap.size := by have := hb1.size; simp at this; omega
    have hb0 := box_below w _ _ hb1
    clear hb1
    refine wp_loop_rounds 1 ?_
    repeat any_goals (rw [rounds_succ]; go_wp2_with (first | go_quiet (fail) | (go_at_call 109; refine (refFormat_any _ _ _).mono ?_; rintro e w2 ⟨rfl, hb2⟩; have d2 : w2.cell? ⟨w.heap.size, 0, none⟩ = some (.int .i64 c) := cell_later hb2 (by simp [go_sem, d0]); have hb3 : Below w.heap.size w w2 := (by first | exact (below_drewN hb0 _).trans (hb2.mono (B' := w.heap.size) (by simp; omega)) | exact hb0.trans (hb2.mono (B' := w.heap.size) (by omega))); clear hb2)))
    all_goals go_ret
    all_goals first | exact ⟨ret_b X.out.symm, below_drewN hb0 _⟩ | exact ⟨ret_b X.out.symm, below_drewN (below_drewN hb0 _) _⟩ | exact ⟨ret_b X.out.symm, hb3⟩

theorem refFits_any (p c m : Int) (hU : Px.U p) (w : World) :
    Calls Tryz.prog 63 #[.int .u64 p, .agg #[.int .i64 c, .int .i64 m]] w fun e w' => e = .returned (.bool (Px.fitsV p c m)) ∧ Below w.heap.size w w' := by
  rcases Px.tri hU with ⟨a, b, d, h⟩ | ⟨a, h⟩ | h
  · exact refFits3 p c m a b d h w
  · exact refFits1 p c m a h w
  · exact refFits0 p c m hU h w
end Pq
end Go.Proofs.YtmnhiagppicegaaGreat
