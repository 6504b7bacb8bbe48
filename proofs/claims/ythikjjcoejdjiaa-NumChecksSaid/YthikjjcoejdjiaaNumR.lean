/- Sums that are ints, over any memory, of num and of the document's own answer. Condition: numbers fit their kinds. -/
import Derived.Test.YthikjjcoejdjiaaNumQ
namespace Go.Proofs.Ythikjjcoejdjiaa
open Go.RowKit
set_option linter.unusedVariables false

theorem Nu.inI_iff {n : Int} : Nu.inI n = true ↔ (-9223372036854775808 ≤ n ∧ n ≤ 9223372036854775807) := by simp [Nu.inI]
theorem Nu.inI_not {n : Int} : Nu.inI n = false ↔ (n < -9223372036854775808 ∨ 9223372036854775807 < n) := by
  rw [← Bool.not_eq_true, Nu.inI_iff]; omega

set_option maxHeartbeats 2000000 in
theorem add_any (a b : Int) (ha : Nu.I a) (hb : Nu.I b) (w : World) : Calls Try.prog 24 #[.int .i64 a, .int .i64 b] w (OkR (a + b) w) := by
  obtain ⟨a0, a1⟩ := ha
  obtain ⟨b0, b1⟩ := hb
  have hm := Nu.wrap_mod (a + b)
  obtain ⟨p, hp⟩ : ∃ p, wrap64 (a + b) = p := ⟨_, rfl⟩
  rw [hp] at hm
  obtain ⟨⟨p0, p1⟩, pm⟩ := hm
  cases hI : Nu.inI (a + b)
  · have X := Lib.hid (Nu.okV_no hI)
    have hI' := Nu.inI_not.1 hI
    by_cases hb : b < 0
    · have d1 : decide (b < 0) = true := decide_eq_true hb
      have d2 : decide (p < a) = false := decide_eq_false (by omega)
      clear hI hI' pm
      go_enter Try.func24, Try.ntmps24
      go_wp2
      go_ret2
      exact ⟨ret_ok X.out, rfl⟩
    · have d1 : decide (b < 0) = false := decide_eq_false hb
      have d2 : decide (p < a) = true := decide_eq_true (by omega)
      clear hI hI' pm
      go_enter Try.func24, Try.ntmps24
      go_wp2
      go_ret2
      exact ⟨ret_ok X.out, rfl⟩
  · have X := Lib.hid (Nu.okV_yes hI)
    have hI' := Nu.inI_iff.1 hI
    have XW := Lib.hid (Nu.wrap_in (Nu.inI_of hI))
    have hpe : p = a + b := by rw [← hp, XW.out]
    have HPE := Lib.hid hpe.symm
    by_cases hb : b < 0
    · have d1 : decide (b < 0) = true := decide_eq_true hb
      have d2 : decide (p < a) = true := decide_eq_true (by omega)
      clear hI hI' pm hpe
      go_enter Try.func24, Try.ntmps24
      go_wp2
      go_ret2
      exact ⟨ret_ok (by first | (rw [X.out, XW.out]; done) | (rw [X.out, HPE.out]; done)), rfl⟩
    · have d1 : decide (b < 0) = false := decide_eq_false hb
      have d2 : decide (p < a) = false := decide_eq_false (by omega)
      clear hI hI' pm hpe
      go_enter Try.func24, Try.ntmps24
      go_wp2
      go_ret2
      exact ⟨ret_ok (by first | (rw [X.out, XW.out]; done) | (rw [X.out, HPE.out]; done)), rfl⟩

set_option maxHeartbeats 2000000 in
theorem refAdd_any (a b : Int) (ha : Nu.I a) (hb : Nu.I b) (w : World) : Calls Try.prog 25 #[.int .i64 a, .int .i64 b] w (OkR (a + b) w) := by
  obtain ⟨a0, a1⟩ := ha
  obtain ⟨b0, b1⟩ := hb
  cases hI : Nu.inI (a + b)
  · have X := Lib.hid (Nu.okV_no hI)
    have hI' := Nu.inI_not.1 hI
    by_cases hb : 0 < b
    · have d1 : decide (0 < b) = true := decide_eq_true hb
      have d2 : decide (9223372036854775807 - b < a) = true := decide_eq_true (by omega)
      clear hI hI'
      go_enter Try.func25, Try.ntmps25
      go_wp2
      go_ret2
      exact ⟨ret_ok X.out, rfl⟩
    · have d1 : decide (0 < b) = false := decide_eq_false hb
      have hb2 : b < 0 := by omega
      have d3 : decide (b < 0) = true := decide_eq_true hb2
      have d2 : decide (a < -9223372036854775808 - b) = true := decide_eq_true (by omega)
      clear hI hI'
      go_enter Try.func25, Try.ntmps25
      go_wp2
      go_ret2
      exact ⟨ret_ok X.out, rfl⟩
  · have X := Lib.hid (Nu.okV_yes hI)
    obtain ⟨i0, i1⟩ := Nu.inI_iff.1 hI
    clear hI
    by_cases hb : 0 < b
    · have d1 : decide (0 < b) = true := decide_eq_true hb
      have d3 : decide (b < 0) = false := decide_eq_false (by omega)
      have d2 : decide (9223372036854775807 - b < a) = false := decide_eq_false (by omega)
      go_enter Try.func25, Try.ntmps25
      go_wp2
      go_ret2
      exact ⟨ret_ok (by rw [X.out]), rfl⟩
    · have d1 : decide (0 < b) = false := decide_eq_false hb
      by_cases hb2 : b < 0
      · have d3 : decide (b < 0) = true := decide_eq_true hb2
        have d2 : decide (a < -9223372036854775808 - b) = false := decide_eq_false (by omega)
        go_enter Try.func25, Try.ntmps25
        go_wp2
        go_ret2
        exact ⟨ret_ok (by rw [X.out]), rfl⟩
      · have d3 : decide (b < 0) = false := decide_eq_false hb2
        go_enter Try.func25, Try.ntmps25
        go_wp2
        go_ret2
        exact ⟨ret_ok (by rw [X.out]), rfl⟩
end Go.Proofs.Ythikjjcoejdjiaa
