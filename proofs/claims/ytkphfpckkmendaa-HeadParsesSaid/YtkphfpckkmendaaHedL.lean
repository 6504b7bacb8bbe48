/- The document's example of layer 6 holds, over any memory; its greatest limits. No condition. -/
import Derived.Test.YtkphfpckkmendaaHedS
import Derived.Test.YtkphfpckkmendaaHedH
namespace Go.Proofs.Ytkphfpckkmendaa
open Go.RowKit
set_option linter.unusedVariables false

theorem Hj.ex_parse : Hd.parseV (Hd.limits 4096 65536 65535) (bytesOf ⟨#[80, 53, 32, 51, 32, 50, 32, 50, 53, 53, 10]⟩) = (⟨5, 3, 2, 255⟩, 11, 0) := by rfl
theorem Hj.ex_may : Hd.May ⟨5, 3, 2, 255⟩ := by decide
theorem Hj.ex_size : Hj.size ⟨5, 3, 2, 255⟩ = 6 := by rfl
set_option maxRecDepth 100000 in
set_option maxHeartbeats 4000000 in
theorem lives6_any (w : World) :
    Calls Try.prog 8 #[] w fun e w' => e = .returned (.bool true) ∧ Below w.heap.size w w' := by
  have HP : Hid (∀ W, Calls Try.prog 11 #[.string ⟨#[80, 53, 32, 51, 32, 50, 32, 50, 53, 53, 10]⟩, .agg #[.int .i64 4096, .int .i64 65536, .int .i64 65535]] W fun e w' => e = .returned (.tuple #[.agg #[.int .i64 5, .int .i64 3, .int .i64 2, .int .i64 255], .int .i64 11, .int .i64 0]) ∧ Below W.heap.size W w') := fun W => by
    refine (hparse_any ⟨#[80, 53, 32, 51, 32, 50, 32, 50, 53, 53, 10]⟩ (by decide) 4096 65536 65535 W).mono ?_
    rintro e w' ⟨rfl, hb⟩
    unfold hcnt
    rw [Hj.ex_parse]
    exact ⟨rfl, hb⟩
  have HS : Hid (∀ W, Calls Try.prog 20 #[.agg #[.int .i64 5, .int .i64 3, .int .i64 2, .int .i64 255]] W fun e w' => e = .returned (.int .i64 6) ∧ Below W.heap.size W w') := fun W => by
    have := hsize_any ⟨5, 3, 2, 255⟩ Hj.ex_may W
    rw [Hj.ex_size] at this; exact this
  go_enter Try.func8, Try.ntmps8
  go_wp2_with fail
  refine (hall_any _).mono ?_
  rintro e w1 ⟨rfl, hb1⟩
  go_wp2_with fail
  refine (HP.out _).mono ?_
  rintro e w2 ⟨rfl, hb2⟩
  have hb3 := hb1.trans (hb2.mono hb1.size)
  go_wp2_with fail
  refine (HS.out _).mono ?_
  rintro e w3 ⟨rfl, hb4⟩
  go_wp2
  go_ret
  exact ⟨rfl, (hb3.alloc hb3.size _).trans (hb4.mono (by simp; exact Nat.le_succ_of_le hb3.size))⟩
end Go.Proofs.Ytkphfpckkmendaa
