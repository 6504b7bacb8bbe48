/- A reader of a head is made, over any memory. No condition. -/
import Derived.Test.YtkphfpckkmendaaHedF
import Derived.Deep.RegionHeld3
namespace Go.Proofs.Ytkphfpckkmendaa
open Go.RowKit
set_option linter.unusedVariables false

set_option maxHeartbeats 2000000 in
theorem hnew_any (a b c : Int) (w : World) :
    Calls Try.prog 15 #[.agg #[.int .i64 a, .int .i64 b, .int .i64 c]] w fun e w' => ∃ k, e = .returned (.pointer (some ⟨k, 0, none⟩)) ∧ w.heap.size ≤ k ∧ HdX 0 w' k k (Hd.limits a b c) Hd.new ∧ Below w.heap.size w w' := by
  have hBt : Below w.heap.size w w := .refl _ _
  go_enter Try.func15, Try.ntmps15
  go_wp2_with fail
  obtain ⟨W, hW⟩ : ∃ W, w.alloc (Obj.cells #[Value.int IntKind.i64 a, Value.int IntKind.i64 b, Value.int IntKind.i64 c] 23) = W := ⟨_, rfl⟩
  have n0 : W.cell? ⟨w.heap.size, 0, none⟩ = some (.int .i64 a) := by rw [← hW]; simp [go_sem]
  have n1 : W.cell? ⟨w.heap.size, 1, none⟩ = some (.int .i64 b) := by rw [← hW]; simp [go_sem]
  have n2 : W.cell? ⟨w.heap.size, 2, none⟩ = some (.int .i64 c) := by rw [← hW]; simp [go_sem]
  have hB0 : Below w.heap.size w W := by rw [← hW]; exact hBt.alloc (Nat.le_refl _) _
  have hBw : Below W.heap.size W W := .refl _ _
  rw [hW]
  clear hW hBt
  go_region_held3 (fun w' => w'.cell? ⟨w.heap.size, 0, none⟩ = some (.int .i64 a) ∧ w'.cell? ⟨w.heap.size, 1, none⟩ = some (.int .i64 b) ∧ w'.cell? ⟨w.heap.size, 2, none⟩ = some (.int .i64 c))
    (first | exact ⟨n0, n1, n2⟩ | exact ⟨cell_later hBw n0, cell_later hBw n1, cell_later hBw n2⟩ | exact ⟨cell_later (hBw.alloc hBw.size _) n0, cell_later (hBw.alloc hBw.size _) n1, cell_later (hBw.alloc hBw.size _) n2⟩)
    (first
      | (go_at_call 25; refine (upTo_any _ _).mono ?_; rintro e w9 ⟨v, rfl, ⟨bk, rfl, hcl⟩, hb9⟩; replace hBw := bel_step (w := W) (by first | exact hBw | exact hBw.drew) hb9)
      | (go_at_call 30; refine (upTo1_any _ _ (by omega) _ _ hcl).mono ?_; rintro e w9 ⟨rfl, rfl⟩))
  all_goals
    go_wp2
    go_ret
    have hBz := hB0.trans (hBw.mono hB0.size)
    exact ⟨_, rfl, hBz.size, ⟨Hd.good_new (Hd.limits_ok a b c), _, _, _, World.alloc_heap_new w9 _, fun h => absurd h (show ¬ (0 : Nat) = 3 by decide), fun _ => rfl, fun h => absurd h (show ¬ (0 : Nat) = 5 by decide)⟩, hBz.alloc hBz.size _⟩
end Go.Proofs.Ytkphfpckkmendaa
