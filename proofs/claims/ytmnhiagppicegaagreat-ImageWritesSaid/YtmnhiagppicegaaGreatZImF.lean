/- A format, made of any, by the document, over any memory. Condition: the number fits. -/
import Derived.Test.YtmnhiagppicegaaGreatZgAD
import Derived.Test.YtmnhiagppicegaaGreatZgAA
namespace Go.Proofs.YtmnhiagppicegaaGreat
open Go.RowKit
set_option linter.unusedVariables false
def Im.formM (mx : Int) : Int := if 0 ≤ mx ∧ mx < 5 then ([1, 1, 2, 255, 300] : List Int).getD mx.toNat 0 else 1 + Ar.around mx 65535
theorem Im.form_at (mx : Int) : 1 ≤ Im.formM mx ∧ Im.formM mx ≤ 65535 := by
  unfold Im.formM
  split
  · rename_i h
    obtain ⟨k, rfl⟩ : ∃ k : Nat, mx = (k : Int) := ⟨mx.toNat, by omega⟩
    have : k = 0 ∨ k = 1 ∨ k = 2 ∨ k = 3 ∨ k = 4 := by omega
    rcases this with rfl | rfl | rfl | rfl | rfl <;> decide
  · have := Ar.around_lt mx 65535 (by omega); omega
set_option maxRecDepth 100000 in
set_option maxHeartbeats 4000000 in
theorem refForm10_any (three : Bool) (mx W H : Int) (a : Option Addr) (n cap : Nat) (hm : Nu.I mx) (w : World) :
    Calls Tryz.prog 46 #[.agg #[.bool three, .int .i64 mx, .int .i64 W, .int .i64 H, .slice a n cap]] w fun e w' => e = .returned (.agg #[.int .i64 (if three = true then 3 else 1), .int .i64 (Im.formM mx)]) ∧ Below w.heap.size w w' := by
  have hj := Ar.around_lt mx 65535 (by omega)
  have HA : Hid (∀ W, Calls Tryz.prog 11 #[.int .i64 mx, .int .i64 65535] W fun e w' => e = .returned (.int .i64 (Ar.around mx 65535)) ∧ W = w') := fun W => aroundOf mx 65535 hm.1 hm.2 (by omega) (by omega) W
  have HF := Lib.hid (show Im.formM mx = if 0 ≤ mx ∧ mx < 5 then ([1, 1, 2, 255, 300] : List Int).getD mx.toNat 0 else 1 + Ar.around mx 65535 from rfl)
  obtain ⟨z, hz⟩ : ∃ z, Ar.around mx 65535 = z := ⟨_, rfl⟩
  rw [hz] at HA HF hj
  have hw1 : IntKind.i64.wrap (1 + z) = 1 + z := by rw [IntWalk.i64_in] <;> omega
  obtain ⟨r, hr⟩ : ∃ r, Im.formM mx = r := ⟨_, rfl⟩
  rw [hr] at HF ⊢
  clear hz hr hm
  by_cases h0 : 0 ≤ mx
  · by_cases h5 : mx < 5
    · obtain ⟨k, rfl⟩ : ∃ k : Nat, mx = (k : Int) := ⟨mx.toNat, by omega⟩
      have hk : k = 0 ∨ k = 1 ∨ k = 2 ∨ k = 3 ∨ k = 4 := by omega
      rcases hk with rfl | rfl | rfl | rfl | rfl <;> cases three
      all_goals
        have HR := Lib.hid HF.out
        clear HF h0 h5
        go_enter Tryz.func46, Tryz.ntmps46
        go_wp2_with (go_at_call 11; refine (HA.out _).mono ?_; rintro e w1 ⟨rfl, rfl⟩)
        go_returns
        exact ⟨by rw [HR.out]; rfl, by go_grown⟩
    · have HR := Lib.hid (HF.out.trans (if_neg (by omega)))
      clear HF
      cases three
      all_goals
        go_enter Tryz.func46, Tryz.ntmps46
        go_wp2_with (go_at_call 11; refine (HA.out _).mono ?_; rintro e w1 ⟨rfl, rfl⟩)
        go_returns
        exact ⟨by rw [HR.out], by go_grown⟩
  · have HR := Lib.hid (HF.out.trans (if_neg (by omega)))
    clear HF
    cases three
    all_goals
      go_enter Tryz.func46, Tryz.ntmps46
      go_wp2_with (go_at_call 11; refine (HA.out _).mono ?_; rintro e w1 ⟨rfl, rfl⟩)
      go_returns
      exact ⟨by rw [HR.out], by go_grown⟩
end Go.Proofs.YtmnhiagppicegaaGreat
