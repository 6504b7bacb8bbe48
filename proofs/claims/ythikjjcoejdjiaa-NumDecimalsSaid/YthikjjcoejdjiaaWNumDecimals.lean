/- NumDecimals: a number's digits, and how many there are, are the document's: the walk of the law. No condition. -/
import Derived.Test.YthikjjcoejdjiaaNumK
import Derived.Test.YthikjjcoejdjiaaNumB
import Derived.Test.YthikjjcoejdjiaaNumL
import Derived.Test.YthikjjcoejdjiaaIn
namespace Go.Proofs.Ythikjjcoejdjiaa
open Go.RowKit
set_option linter.unusedVariables false

set_option maxRecDepth 100000 in
set_option maxHeartbeats 4000000 in
theorem numDecimals_walk (a0 : Int) (w : World) (w0 : (Lit.int .i64 a0).wf = true) :
    Calls Try.prog 5 #[.int .i64 a0] w fun e w' => e = .returned (.bool true) ∧ Below w.heap.size w w' := by
  have hn := wfI w0
  have HN := Lib.hid hn
  clear hn w0
  have hpl : Hid (Nu.places a0 = ((strOfNums (Nu.decV a0)).size : Int)) := by
    show _ = _
    rw [strOfNums_size]; unfold Nu.places Nu.decV Nu.backV
    split <;> simp; omega
  go_enter Try.func5, Try.ntmps5
  go_wp2_with (first | (go_at_call 13; refine (decimal_any a0 HN.out _).mono ?_; rintro e w1 ⟨rfl, hb1⟩) | (go_at_call 18; refine (refDecimal_any a0 HN.out _).mono ?_; rintro e w2 ⟨rfl, hb2⟩) | (go_at_call 19; refine (places_any a0 HN.out _).mono ?_; rw [hpl.out]; rintro e w3 ⟨rfl, hb3⟩) | (go_at_call 14; refine (lives_any _).mono ?_; rintro e w4 ⟨rfl, hb4⟩))
  go_ret
  exact ⟨rfl, hb1.trans ((hb2.trans ((hb3.trans (hb4.mono hb3.size)).mono hb2.size)).mono hb1.size)⟩
end Go.Proofs.Ythikjjcoejdjiaa
