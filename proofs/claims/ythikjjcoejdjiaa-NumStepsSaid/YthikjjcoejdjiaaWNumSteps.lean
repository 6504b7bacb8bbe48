/- NumSteps: a number with one digit more is the document's, or refused: the walk of the law. No condition. -/
import Derived.Test.YthikjjcoejdjiaaNumG
import Derived.Test.YthikjjcoejdjiaaNumL
import Derived.Test.YthikjjcoejdjiaaIn
namespace Go.Proofs.Ythikjjcoejdjiaa
open Go.RowKit
set_option linter.unusedVariables false

set_option maxRecDepth 100000 in
set_option maxHeartbeats 4000000 in
theorem numSteps_walk (a0 a1 a2 : Int) (w : World) (w0 : (Lit.int .i64 a0).wf = true) (w1 : (Lit.int .i64 a1).wf = true) (w2 : (Lit.int .u8 a2).wf = true) :
    Calls Try.prog 4 #[.int .i64 a0, .int .i64 a1, .int .u8 a2] w fun e w' => e = .returned (.bool true) ∧ Below w.heap.size w w' := by
  have h0 := Lib.hid (wfI w0)
  have h1 := Lib.hid (wfI w1)
  obtain ⟨c0, c1⟩ := wfB w2
  clear w0 w1 w2
  obtain ⟨m0, m1⟩ := Nu.limit_lt a0
  obtain ⟨m, hm⟩ : ∃ m, Hid (Nu.limit a0 = m) := ⟨_, rfl⟩
  rw [hm.out] at m0 m1
  obtain ⟨k0, k1⟩ := Ar.around_lt a1 (m + 1) (by omega)
  obtain ⟨k, hk⟩ : ∃ k, Hid (Ar.around a1 (m + 1) = k) := ⟨_, rfl⟩
  rw [hk.out] at k0 k1
  have d0 : 0 ≤ m / 10 := by omega
  have d1 : m / 10 ≤ m := by omega
  go_enter Try.func4, Try.ntmps4
  go_wp2_with (first
    | (go_at_call 10; refine (limit_any a0 h0.out _).mono ?_; rw [hm.out]; rintro e w1 ⟨rfl, rfl⟩)
    | (go_at_call 15; refine (aroundOf a1 (m + 1) h1.out.1 h1.out.2 (by omega) (by omega) _).mono ?_; rw [hk.out]; rintro e w1 ⟨rfl, rfl⟩)
    | (go_at_call 16; first | ((with_reducible refine (step_any k a2 m k0 (by omega) m1 c0 c1 _).mono ?_); rintro e w1 ⟨rfl, rfl⟩) | ((with_reducible refine (step_any (m / 10) a2 m d0 d1 m1 c0 c1 _).mono ?_); rintro e w1 ⟨rfl, rfl⟩))
    | (go_at_call 17; first | ((with_reducible refine (refStep_any k a2 m k0 (by omega) m1 c0 c1 _).mono ?_); rintro e w1 ⟨rfl, rfl⟩) | ((with_reducible refine (refStep_any (m / 10) a2 m d0 d1 m1 c0 c1 _).mono ?_); rintro e w1 ⟨rfl, rfl⟩))
    | (go_at_call 14; refine (lives_any _).mono ?_; rintro e w4 ⟨rfl, hb4⟩))
  go_ret
  exact ⟨rfl, hb4⟩
end Go.Proofs.Ythikjjcoejdjiaa
