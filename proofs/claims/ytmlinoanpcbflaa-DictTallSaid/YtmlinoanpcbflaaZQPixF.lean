/- What Fits of pix comes to, over any memory: is a number a pixel of a format? Condition: numbers fit their kinds. -/
import Derived.Test.YtmlinoanpcbflaaZgAB
namespace Go.Proofs.Ytmlinoanpcbflaa
open Go.RowKit
set_option linter.unusedVariables false
namespace Pq
theorem fits3_nof (p c m a b d : Int) (h : Px.Is3 p a b d) (k : ((3 : Int) == c) = true) (hf : Px.formatV c m = false) (w : World) :
    Calls Try.prog 50 #[.int .u64 p, .agg #[.int .i64 c, .int .i64 m]] w fun e w' => e = .returned (.bool false) ∧ Below w.heap.size w w' := by
  go_enter Try.func50, Try.ntmps50
  go_wp2_with (go_at_call 61; refine (split3 p a b d h _).mono ?_; rintro e w1 ⟨rfl, hb1⟩)
  have d0 : w1.cell? ⟨w.heap.size, 0, none⟩ = some (.int .i64 c) := cell_later hb1 (by simp [go_sem])
  have d1 : w1.cell? ⟨w.heap.size, 1, none⟩ = some (.int .i64 m) := cell_later hb1 (by simp [go_sem])
  have hz : w.heap.size < w1.heap.size := by have := hb1.size; simp at this; omega
  first | go_region_with (go_at_call 62; refine (format_any _ _ _).mono ?_; rintro e w2 ⟨rfl, hb2⟩) | fail
  all_goals go_wp2
  all_goals go_ret
  all_goals exact ⟨rfl, ((box_below w _ _ hb1).alloc (Nat.le_of_lt hz) _).drew.trans (hb2.mono (B' := w.heap.size) (by simp; omega))⟩
theorem fits1_nof (p c m a : Int) (h : Px.Is1 p a) (k : ((1 : Int) == c) = true) (hf : Px.formatV c m = false) (w : World) :
    Calls Try.prog 50 #[.int .u64 p, .agg #[.int .i64 c, .int .i64 m]] w fun e w' => e = .returned (.bool false) ∧ Below w.heap.size w w' := by
  go_enter Try.func50, Try.ntmps50
  go_wp2_with (go_at_call 61; refine (split1 p a h _).mono ?_; rintro e w1 ⟨rfl, hb1⟩)
  have d0 : w1.cell? ⟨w.heap.size, 0, none⟩ = some (.int .i64 c) := cell_later hb1 (by simp [go_sem])
  have d1 : w1.cell? ⟨w.heap.size, 1, none⟩ = some (.int .i64 m) := cell_later hb1 (by simp [go_sem])
  have hz : w.heap.size < w1.heap.size := by have := hb1.size; simp at this; omega
  first | go_region_with (go_at_call 62; refine (format_any _ _ _).mono ?_; rintro e w2 ⟨rfl, hb2⟩) | fail
  all_goals go_wp2
  all_goals go_ret
  all_goals exact ⟨rfl, ((box_below w _ _ hb1).alloc (Nat.le_of_lt hz) _).drew.trans (hb2.mono (B' := w.heap.size) (by simp; omega))⟩
theorem fits0_nof (p c m : Int) (hU : Px.U p) (h : Px.Is0 p) (k : ((0 : Int) == c) = true) (hf : Px.formatV c m = false) (w : World) :
    Calls Try.prog 50 #[.int .u64 p, .agg #[.int .i64 c, .int .i64 m]] w fun e w' => e = .returned (.bool false) ∧ Below w.heap.size w w' := by
  go_enter Try.func50, Try.ntmps50
  go_wp2_with (go_at_call 61; refine (split0 p hU h _).mono ?_; rintro e w1 ⟨rfl, hb1⟩)
  have d0 : w1.cell? ⟨w.heap.size, 0, none⟩ = some (.int .i64 c) := cell_later hb1 (by simp [go_sem])
  have d1 : w1.cell? ⟨w.heap.size, 1, none⟩ = some (.int .i64 m) := cell_later hb1 (by simp [go_sem])
  have hz : w.heap.size < w1.heap.size := by have := hb1.size; simp at this; omega
  first | go_region_with (go_at_call 62; refine (format_any _ _ _).mono ?_; rintro e w2 ⟨rfl, hb2⟩) | fail
  all_goals go_wp2
  all_goals go_ret
  all_goals exact ⟨rfl, ((box_below w _ _ hb1).alloc (Nat.le_of_lt hz) _).drew.trans (hb2.mono (B' := w.heap.size) (by simp; omega))⟩
theorem fits3_yes (p c m a b d M : Int) (hM : Hid (max (max a b) d = M)) (h : Px.Is3 p a b d) (k : ((3 : Int) == c) = true) (hf : Px.formatV c m = true) (w : World) :
    Calls Try.prog 50 #[.int .u64 p, .agg #[.int .i64 c, .int .i64 m]] w fun e w' => e = .returned (.bool (decide (M ≤ m))) ∧ Below w.heap.size w w' := by
  go_enter Try.func50, Try.ntmps50
  go_wp2_with (go_at_call 61; refine (split3 p a b d h _).mono ?_; rintro e w1 ⟨rfl, hb1⟩)
  have d0 : w1.cell? ⟨w.heap.size, 0, none⟩ = some (.int .i64 c) := cell_later hb1 (by simp [go_sem])
  have d1 : w1.cell? ⟨w.heap.size, 1, none⟩ = some (.int .i64 m) := cell_later hb1 (by simp [go_sem])
  have hz : w.heap.size < w1.heap.size := by have := hb1.size; simp at this; omega
  go_region_held3 (fun w' => w'.cell? ⟨w.heap.size, 0, none⟩ = some (.int .i64 c) ∧ w'.cell? ⟨w.heap.size, 1, none⟩ = some (.int .i64 m)) (first | go_keep | (go_split_ands; refine ⟨cell_later hb2 ?_, cell_later hb2 ?_⟩ <;> assumption))
    (first | (go_at_call 62; refine (format_any _ _ _).mono ?_; rintro e w2 ⟨rfl, hb2⟩)
           | (go_at_call 63; refine (max3M _ _ _ a b d M hM _ ?_ ?_ ?_).mono ?_; (exact cell_later hb2 (by simp [go_sem])); (exact cell_later hb2 (by simp [go_sem])); (exact cell_later hb2 (by simp [go_sem])); rintro e w3 ⟨rfl, rfl⟩))
  go_wp2
  go_ret
  exact ⟨rfl, ((box_below w _ _ hb1).alloc (Nat.le_of_lt hz) _).drew.trans (hb2.mono (B' := w.heap.size) (by simp; omega))⟩
theorem fits1_yes (p c m a : Int) (h : Px.Is1 p a) (k : ((1 : Int) == c) = true) (hf : Px.formatV c m = true) (w : World) :
    Calls Try.prog 50 #[.int .u64 p, .agg #[.int .i64 c, .int .i64 m]] w fun e w' => e = .returned (.bool (decide (a ≤ m))) ∧ Below w.heap.size w w' := by
  go_enter Try.func50, Try.ntmps50
  go_wp2_with (go_at_call 61; refine (split1 p a h _).mono ?_; rintro e w1 ⟨rfl, hb1⟩)
  have d0 : w1.cell? ⟨w.heap.size, 0, none⟩ = some (.int .i64 c) := cell_later hb1 (by simp [go_sem])
  have d1 : w1.cell? ⟨w.heap.size, 1, none⟩ = some (.int .i64 m) := cell_later hb1 (by simp [go_sem])
  have hz : w.heap.size < w1.heap.size := by have := hb1.size; simp at this; omega
  go_region_held3 (fun w' => w'.cell? ⟨w.heap.size, 0, none⟩ = some (.int .i64 c) ∧ w'.cell? ⟨w.heap.size, 1, none⟩ = some (.int .i64 m)) (first | go_keep | (go_split_ands; refine ⟨cell_later hb2 ?_, cell_later hb2 ?_⟩ <;> assumption))
    (first | (go_at_call 62; refine (format_any _ _ _).mono ?_; rintro e w2 ⟨rfl, hb2⟩)
           | (go_at_call 63; refine (max1 _ _ _ a _ ?_).mono ?_; (exact cell_later hb2 (by simp [go_sem])); rintro e w3 ⟨rfl, rfl⟩))
  go_wp2
  go_ret
  exact ⟨rfl, ((box_below w _ _ hb1).alloc (Nat.le_of_lt hz) _).drew.trans (hb2.mono (B' := w.heap.size) (by simp; omega))⟩
theorem fits_any (p c m : Int) (hU : Px.U p) (w : World) :
    Calls Try.prog 50 #[.int .u64 p, .agg #[.int .i64 c, .int .i64 m]] w fun e w' => e = .returned (.bool (Px.fitsV p c m)) ∧ Below w.heap.size w w' := by
  rcases Px.tri hU with ⟨a, b, d, h⟩ | ⟨a, h⟩ | h
  · by_cases k : c = 3
    · subst k
      cases hf : Px.formatV 3 m
      · exact (fits3_nof p 3 m a b d h rfl hf w).mono fun e w' ⟨he, hb⟩ => ⟨by rw [he, Px.fitsV_bad hf], hb⟩
      · exact (fits3_yes p 3 m a b d _ (Lib.hid rfl) h rfl hf w).mono fun e w' ⟨he, hb⟩ => ⟨by rw [he, Px.fitsV3 h, hf]; rfl, hb⟩
    · have hl : ((Px.smp p).length : Int) ≠ c := by rw [Px.smp3 h]; simp; omega
      exact (fits3_no p c m a b d h (by rw [beq_eq_false_iff_ne]; omega) w).mono fun e w' ⟨he, hb⟩ => ⟨by rw [he, Px.fitsV_len hl], hb⟩
  · by_cases k : c = 1
    · subst k
      cases hf : Px.formatV 1 m
      · exact (fits1_nof p 1 m a h rfl hf w).mono fun e w' ⟨he, hb⟩ => ⟨by rw [he, Px.fitsV_bad hf], hb⟩
      · exact (fits1_yes p 1 m a h rfl hf w).mono fun e w' ⟨he, hb⟩ => ⟨by rw [he, Px.fitsV1 h, hf]; rfl, hb⟩
    · have hl : ((Px.smp p).length : Int) ≠ c := by rw [Px.smp1 h]; simp; omega
      exact (fits1_no p c m a h (by rw [beq_eq_false_iff_ne]; omega) w).mono fun e w' ⟨he, hb⟩ => ⟨by rw [he, Px.fitsV_len hl], hb⟩
  · by_cases k : c = 0
    · subst k
      exact (fits0_nof p 0 m hU h rfl rfl w).mono fun e w' ⟨he, hb⟩ => ⟨by rw [he, Px.fitsV_bad rfl], hb⟩
    · have hl : ((Px.smp p).length : Int) ≠ c := by rw [Px.smp0 h]; simp; omega
      exact (fits0_no p c m hU h (by rw [beq_eq_false_iff_ne]; omega) w).mono fun e w' ⟨he, hb⟩ => ⟨by rw [he, Px.fitsV_len hl], hb⟩
end Pq
end Go.Proofs.Ytmlinoanpcbflaa
