/- The bytes of a text, a step of a number told as two numbers. Condition: numbers fit their kinds. -/
import Derived.Test.YtkphfpckkmendaaNumG
namespace Go.Proofs.Ytkphfpckkmendaa
open Go.RowKit
set_option linter.unusedVariables false

/-- the bytes of a text, as numbers -/
def bytesOf (s : ByteArray) : List Int := s.data.toList.map fun c => (c.toNat : Int)
theorem bytesOf_length (s : ByteArray) : (bytesOf s).length = s.size := by simp [bytesOf]
theorem bytesOf_drop (s : ByteArray) (k : Nat) (h : k < s.size) : (bytesOf s).drop k = (s[k].toNat : Int) :: (bytesOf s).drop (k + 1) := by
  rw [List.drop_eq_getElem_cons (by rw [bytesOf_length]; exact h)]
  simp [bytesOf, ByteArray.getElem_eq_getElem_data]
theorem Nu.stepV_le (n c most : Int) (n0 : 0 ≤ n) (n1 : n ≤ most) (h : (Nu.stepV n c most).2 = 0) : 0 ≤ (Nu.stepV n c most).1 ∧ (Nu.stepV n c most).1 ≤ most := by
  unfold Nu.stepV at *
  split at h
  · simp at h
  · split at h
    · simp at h
    · rename_i h1 h2
      rw [if_neg h1, if_neg h2]
      simp only []
      omega
/-- Step, told as a number and whether it is one -/
theorem step_two (n c most : Int) (n0 : 0 ≤ n) (n1 : n ≤ most) (m1 : most ≤ 4611686018427387903) (c0 : 0 ≤ c) (c1 : c ≤ 255) (m e : Int) (h : Nu.stepV n c most = (m, e)) (w : World) :
    Calls Try.prog 48 #[.int .i64 n, .int .u8 c, .int .i64 most] w fun r w' => r = .returned (.tuple #[.int .i64 m, .int .i64 e]) ∧ w = w' := by
  refine (step_any n c most n0 n1 m1 c0 c1 w).mono ?_
  rintro r w' ⟨rfl, rfl⟩
  rw [h]; exact ⟨rfl, rfl⟩

theorem refStep_two (n c most : Int) (n0 : 0 ≤ n) (n1 : n ≤ most) (m1 : most ≤ 4611686018427387903) (c0 : 0 ≤ c) (c1 : c ≤ 255) (m e : Int) (h : Nu.stepV n c most = (m, e)) (w : World) :
    Calls Try.prog 29 #[.int .i64 n, .int .u8 c, .int .i64 most] w fun r w' => r = .returned (.tuple #[.int .i64 m, .int .i64 e]) ∧ w = w' := by
  refine (refStep_any n c most n0 n1 m1 c0 c1 w).mono ?_
  rintro r w' ⟨rfl, rfl⟩
  rw [h]; exact ⟨rfl, rfl⟩
theorem isEmpty_of {s : ByteArray} (h : s.size = 0) : s.toList.isEmpty = true := by
  rw [ByteArray.toList_eq, List.isEmpty_iff]; exact List.eq_nil_of_length_eq_zero (by simpa using h)
theorem not_empty_of {s : ByteArray} (h : s.size ≠ 0) : s.toList.isEmpty = false := by
  rw [ByteArray.toList_eq, List.isEmpty_eq_false_iff]; intro e; exact h (by have := congrArg List.length e; simpa using this)
def Nu.parseF (most : Int) : Int → List Int → Int × Int
  | n, [] => (n, 0)
  | n, c :: cs => if (Nu.stepV n c most).2 = 0 then Nu.parseF most (Nu.stepV n c most).1 cs else (0, (Nu.stepV n c most).2)
def Nu.parseV (l : List Int) (most : Int) : Int × Int := if l = [] then (0, 3) else Nu.parseF most 0 l
end Go.Proofs.Ytkphfpckkmendaa
