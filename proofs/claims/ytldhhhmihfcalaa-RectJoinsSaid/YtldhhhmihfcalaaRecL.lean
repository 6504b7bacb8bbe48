/- The chapter's example, over any memory. No condition. -/
import Derived.Test.YtldhhhmihfcalaaRecK
namespace Go.Proofs.Ytldhhhmihfcalaa
open Go.RowKit
set_option linter.unusedVariables false

theorem pairs_cells {w : World} {base : Nat} {e : TypeId} {g cap : Nat} {F : List (Int × Int)} (h : w.ownsRow base e 2 (.slice (some ⟨g, 0, none⟩) F.length cap) F.length (pairs F)) {i : Nat} (hi : i < F.length) :
    w.cell? ⟨g, i * 2, none⟩ = some (.int .i64 (F.getD i (0, 0)).1) ∧ w.cell? ⟨g, i * 2 + 1, none⟩ = some (.int .i64 (F.getD i (0, 0)).2) := by
  have hp : ∀ (F : List (Int × Int)) (i : Nat), i < F.length → (pairs F)[i * 2]? = some (.int .i64 (F.getD i (0, 0)).1) ∧ (pairs F)[i * 2 + 1]? = some (.int .i64 (F.getD i (0, 0)).2) := by
    intro F
    induction F with
    | nil => intro i hi; simp at hi
    | cons p F ih =>
      intro i hi
      cases i with
      | zero => simp [pairs]
      | succ i =>
        have := ih i (by simpa using hi)
        simp only [pairs, List.flatMap_cons] at this ⊢
        rw [show (i + 1) * 2 = i * 2 + 2 by omega, show i * 2 + 2 + 1 = (i * 2 + 1) + 2 by omega]
        simpa using this
  obtain ⟨p1, p2⟩ := hp F i hi
  exact ⟨by rw [h.cellAt _ (by omega), p1], by rw [h.cellAt _ (by omega), p2]⟩
theorem ownsRow_pos {W : World} {base : Nat} {e : TypeId} {size : Nat} {v : Value} {k : Nat} {xs : List Value} (h : W.ownsRow base e size v k xs) (hk : 0 < k) : ∃ g cap, v = .slice (some ⟨g, 0, none⟩) k cap := by
  rcases h.2 with ⟨_, h0⟩ | ⟨g, cap, _, rfl, _⟩
  · omega
  · exact ⟨g, cap, rfl⟩
set_option maxHeartbeats 1000000 in
theorem lives_any (w : World) :
    Calls Try.prog 23 #[] w fun e w' => e = .returned (.bool true) ∧ Below w.heap.size w w' := by
  have hs : RowsK (((w.alloc (.cells #[.int .u64 1, .int .u64 2] 88)).alloc (.cells #[.int .u64 3, .int .u64 4] 88)).alloc (.cells #[.slice (some ⟨w.heap.size, 0, none⟩) 2 2, .slice (some ⟨w.heap.size + 1, 0, none⟩) 2 2] 22)) (some ⟨w.heap.size + 1 + 1, 0, none⟩) 2 [[1, 2], [3, 4]] := by
    refine ⟨rfl, .inr ⟨_, _, rfl, fun i hi => ?_⟩⟩
    have : i = 0 ∨ i = 1 := by omega
    rcases this with rfl | rfl
    · refine ⟨some ⟨w.heap.size, 0, none⟩, 2, by simp [go_sem], rfl, .inr ⟨_, _, rfl, fun j hj => ?_⟩⟩
      have : j = 0 ∨ j = 1 := by simp at hj; omega
      rcases this with rfl | rfl <;> simp [go_sem]
    · refine ⟨some ⟨w.heap.size + 1, 0, none⟩, 2, by simp [go_sem], rfl, .inr ⟨_, _, rfl, fun j hj => ?_⟩⟩
      have : j = 0 ∨ j = 1 := by simp at hj; omega
      rcases this with rfl | rfl <;> simp [go_sem]
  have hO := Lib.hid (rectOf_yes _ 2 2 [[1, 2], [3, 4]] (by decide) _ hs)
  have B : Below w.heap.size w (((w.alloc (.cells #[.int .u64 1, .int .u64 2] 88)).alloc (.cells #[.int .u64 3, .int .u64 4] 88)).alloc (.cells #[.slice (some ⟨w.heap.size, 0, none⟩) 2 2, .slice (some ⟨w.heap.size + 1, 0, none⟩) 2 2] 22)) := by go_grown
  rw [show lenV [[1, 2], [3, 4]] = 2 by decide, show Rc.rowsOf (fun k => [[1, 2], [3, 4]].getD k []) 2 = [1, 2, 3, 4] by decide] at hO
  have hFd := fun (W2 : World) (g h : Nat) k1 k2 => find_any 2 2 1 1 (some ⟨g, 0, none⟩) (some ⟨h, 0, none⟩) 4 1 [1, 2, 3, 4] [4] (by unfold Rc.Ok; decide) (by unfold Rc.Ok; decide) (by decide) (by omega) (by decide) (by omega) W2 k1 k2
  rw [show Rc.findV 2 2 [1, 2, 3, 4] 1 1 [4] = [(1, 1)] by decide] at hFd
  simp only [List.length_cons, List.length_nil, Nat.reduceAdd, Nat.reduceMul] at hFd hO
  have HFD := Lib.hid hFd
  clear hs hFd
  go_enter Try.func23, Try.ntmps23
  go_wp2_with (first
    | (go_at_call 65; refine hO.out.mono ?_; rintro e w1 ⟨g, rfl, hg, hb⟩; replace B := bel_step B hb; have HG := Lib.hid hg; clear hg hb)
    | (go_at_call 66; refine (HFD.out _ g (w1.heap.size + 1) ?_ ?_).mono ?_; (exact (((HG.out.alloc (.cells #[.int .i64 2, .int .i64 2, .slice (some ⟨g, 0, none⟩) 4 4] 27)).alloc (.cells #[.int .u64 4] 88)).sl)); (exact ⟨rfl, .inr ⟨_, 0, rfl, fun i hi => by obtain rfl : i = 0 := (by omega); simp [go_sem]⟩⟩); rintro e w3 ⟨v3, rfl, ho, hb3⟩; obtain ⟨g3, cap3, rfl⟩ := ownsRow_pos ho (by omega); obtain ⟨c0, c1⟩ := pairs_cells (F := [(1, 1)]) ho (i := 0) (by simp); simp only [List.getD_cons_zero, Nat.zero_mul, Nat.zero_add] at c0 c1; replace B := bel_step (bel_step B (box2 _ _ _)) hb3; clear ho hb3))
  go_ret
  exact ⟨rfl, B⟩
end Go.Proofs.Ytldhhhmihfcalaa
