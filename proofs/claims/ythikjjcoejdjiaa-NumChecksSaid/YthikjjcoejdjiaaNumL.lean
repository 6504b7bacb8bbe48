/- The document's example of layer 2 holds. No condition. -/
import Derived.Test.YthikjjcoejdjiaaNumC
import Derived.Laws.BytesArg
namespace Go.Proofs.Ythikjjcoejdjiaa
open Go.RowKit Go.Shelf
set_option linter.unusedVariables false

theorem Nu.put300 : Nu.putV 300 = [172, 2] := by
  unfold Nu.putV
  rw [if_pos (by decide), Nu.dig_more (by omega) (by omega), Nu.dig_last (by omega)]
  rfl

theorem put300 (w : World) : Calls Try.prog 20 #[.int .i64 300] w fun e w' => ∃ g cap, e = .returned (.tuple #[.slice (some ⟨g, 0, none⟩) 2 cap, .int .i64 0]) ∧
    g < w'.heap.size ∧ (∀ i, i < 2 → w'.cell? ⟨g, 0 + i, none⟩ = some (.int .u8 (([172, 2] : List Int).getD i 0))) ∧ Below w.heap.size w w' := by
  refine (put_any 300 (by unfold Nu.I; omega) w).mono ?_
  rintro e w1 ⟨ad, cap, rfl, ho, hb, -⟩
  rw [Nu.put300] at ho ⊢
  rcases ho with ho | ⟨g, rfl, hg0, hg1, hc, hf⟩
  · cases ho
  exact ⟨g, cap, by rw [if_pos (by decide)]; rfl, hg1, by simpa using hc, hb⟩

theorem conv_lit (W : World) : (convert 33 9 (.slice (some ⟨W.heap.size, 0, none⟩) 2 2)).run Try.prog (W.alloc (.cells #[.int .u8 172, .int .u8 2] 5)) = .ok (.string (strOfNums [172, 2])) (W.alloc (.cells #[.int .u8 172, .int .u8 2] 5)) :=
  run_convert_bytes_arg (P := Try.prog) _ 33 5 Try.underlying33 Try.underlying5 W.heap.size 0 2 2 [172, 2] rfl (by
    intro i hi
    obtain rfl | rfl : i = 0 ∨ i = 1 := by omega
    all_goals simp [go_sem]) 9 Try.underlying9

set_option maxRecDepth 100000 in
theorem lives_any (w : World) : Calls Try.prog 14 #[] w fun e w' => e = .returned (.bool true) ∧ Below w.heap.size w w' := by
  go_enter Try.func14, Try.ntmps14
  go_wp2_with (go_at_call 20; refine (put300 _).mono ?_; rintro e w1 ⟨g, cap, rfl, hg1, hc, hb⟩; have C1 := run_convert_bytes_arg (P := Try.prog) w1 33 5 Try.underlying33 Try.underlying5 g 0 2 cap [172, 2] rfl hc 9 Try.underlying9; have C2 := conv_lit w1; clear hc)
  go_ret
  exact ⟨rfl, hb.alloc hb.size _⟩
end Go.Proofs.Ythikjjcoejdjiaa
