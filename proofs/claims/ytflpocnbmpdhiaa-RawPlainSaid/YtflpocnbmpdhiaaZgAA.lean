/- Plain facts on numbers as texts and as bytes: digits, decimals, bytes of a number. No condition. -/
import Derived.WalkKit
import Derived.Laws.BitsAllLaws
import Derived.Test.YtflpocnbmpdhiaaProg
import Derived.WalkSpells
import Derived.WalkLawsBesides
import Derived.Handy
import Derived.Lib.Hide
import Derived.Laws.BytesArg
import Derived.RangeFuncNested
import Derived.RangeFuncBound
import Derived.RangeFuncCalls
import Derived.RangeFuncLeaves
import Derived.Shelf.Abstract
import Derived.Shelf.RegionOpen
import Derived.OwnWalkIn
import Derived.OwnWalk
import Derived.TacticsInMore
import Derived.LoopNIn
import Derived.LoopIn
import Derived.Maps.AppendAt
import Derived.Laws.EntriesVeiled
import Derived.Deep.RegionHeld3
import Derived.Deep.DeepCutAuto
import Derived.Deep.QuietTactic
import Derived.BigQuiet
import Derived.Laws.StructEq
import Derived.Laws.OwnMore
import Derived.Deep.AppendLies
namespace Go.Proofs.Ytflpocnbmpdhiaa
open Go.RowKit
set_option linter.unusedVariables false
namespace Nu

def I (n : Int) : Prop := -9223372036854775808 ≤ n ∧ n ≤ 9223372036854775807
/-- a number's digits to a base, the lowest first -/
def dig (b n : Int) : List Int :=
  if h : 2 ≤ b ∧ b ≤ n then n % b :: dig b (n / b) else [n % b]
termination_by n.toNat
decreasing_by
  have h1 : 0 ≤ n / b := Int.ediv_nonneg (by omega) (by omega)
  have h2 : n / b < n := Int.ediv_lt_self_of_pos_of_ne_one (by omega) (by omega)
  omega
theorem dig_more {b n : Int} (h2 : 2 ≤ b) (h : b ≤ n) : dig b n = n % b :: dig b (n / b) := by rw [dig, dif_pos ⟨h2, h⟩]
theorem dig_last {b n : Int} (h : n < b) : dig b n = [n % b] := by rw [dig, dif_neg (by omega)]
theorem dig_ne (b n : Int) : dig b n ≠ [] := by rw [dig]; split <;> simp
theorem dig_lt {b : Int} (hb : 0 < b) (n : Int) : ∀ x ∈ dig b n, 0 ≤ x ∧ x < b := by
  induction n using dig.induct (b := b) with
  | case1 n h ih =>
    rw [dig_more h.1 h.2]
    intro x hx
    rcases List.mem_cons.1 hx with rfl | hx
    · exact ⟨Int.emod_nonneg _ (by omega), Int.emod_lt_of_pos _ hb⟩
    · exact ih x hx
  | case2 n h =>
    rw [dig, dif_neg h]
    intro x hx
    obtain rfl : x = n % b := by simpa using hx
    exact ⟨Int.emod_nonneg _ (by omega), Int.emod_lt_of_pos _ hb⟩
/-- no more than 64 digits -/
theorem dig_len {b : Int} (h2 : 2 ≤ b) : ∀ (k : Nat) (n : Int), n < 2 ^ k → (dig b n).length ≤ k + 1 := by
  intro k
  induction k with
  | zero => intro n h; rw [dig_last (by simp at h; omega)]; simp
  | succ k ih =>
    intro n h
    by_cases hb : b ≤ n
    · rw [dig_more h2 hb]
      have : n / b < 2 ^ k := by
        have e : (2 : Int) ^ (k + 1) = 2 ^ k * 2 := by rw [Int.pow_succ]
        rw [e] at h
        refine Int.ediv_lt_of_lt_mul (by omega) (Int.lt_of_lt_of_le h ?_)
        exact Int.mul_le_mul_of_nonneg_left h2 (Int.pow_nonneg (by omega))
      have := ih _ this
      simp; omega
    · rw [dig_last (by omega)]; simp
theorem dig_len64 {b n : Int} (h2 : 2 ≤ b) (h : n ≤ 18446744073709551615) : (dig b n).length ≤ 65 := by
  have e : (2 : Int) ^ 64 = 18446744073709551616 := by decide
  exact dig_len h2 64 n (by rw [e]; omega)
end Nu
end Go.Proofs.Ytflpocnbmpdhiaa

/- The document's number made to lie below another one, over any memory. Condition: numbers fit their kinds. -/
namespace Go.Proofs.Ytflpocnbmpdhiaa
open Go.RowKit
set_option linter.unusedVariables false
namespace Ar
def around (n most : Int) : Int := (if n < 0 then -(n + 1) else n) % most
theorem around_lt (n most : Int) (h : 0 < most) : 0 ≤ around n most ∧ around n most < most := by
  unfold around; exact ⟨Int.emod_nonneg _ (by omega), Int.emod_lt_of_pos _ h⟩
theorem ret_i {k : IntKind} {a b : Int} (h : a = b) : Ending.returned (.int k a) = .returned (.int k b) := by rw [h]
end Ar
theorem aroundOf (n m : Int) (h1 : -9223372036854775808 ≤ n) (h2 : n ≤ 9223372036854775807) (hm : 0 < m) (hm' : m ≤ 9223372036854775807) (w : World) :
    Calls Try.prog 15 #[.int .i64 n, .int .i64 m] w fun e w' => e = .returned (.int .i64 (Ar.around n m)) ∧ w = w' := by
  have hz : (m == 0) = false := by simp; omega
  by_cases h : n < 0
  · have X := Lib.hid (show -((n + 1).tmod m) = Ar.around n m by unfold Ar.around; rw [if_pos h, ← Int.neg_tmod, Int.tmod_eq_emod_of_nonneg (by omega)])
    have e1 : 0 ≤ -(n + 1) := by omega
    go_enter Try.func15, Try.ntmps15
    go_wp2
    go_ret
    exact ⟨Ar.ret_i X.out, rfl⟩
  · have X := Lib.hid (show n % m = Ar.around n m by unfold Ar.around; rw [if_neg h])
    go_enter Try.func15, Try.ntmps15
    go_wp2
    go_ret
    exact ⟨Ar.ret_i X.out, rfl⟩
end Go.Proofs.Ytflpocnbmpdhiaa

/- Steps of a number, sums and products, over any memory, of num and of the document's own answer. Condition: numbers fit their kinds. -/
namespace Go.Proofs.Ytflpocnbmpdhiaa
open Go.RowKit
set_option linter.unusedVariables false

def Nu.limit (n : Int) : Int := Ar.around n 4611686018427387904
theorem Nu.limit_lt (n : Int) : 0 ≤ Nu.limit n ∧ Nu.limit n ≤ 4611686018427387903 := by have := Ar.around_lt n 4611686018427387904 (by omega); unfold Nu.limit; omega
def Nu.stepV (n c most : Int) : Int × Int :=
  if c < 48 ∨ 57 < c then (0, 3) else if most / 10 < n ∨ (n = most / 10 ∧ most % 10 < c - 48) then (0, 4) else (10 * n + (c - 48), 0)
theorem ret_step {a b : Int} {t : Int × Int} (h : t = (a, b)) : Ending.returned (.tuple #[.int .i64 a, .int .i64 b]) = .returned (.tuple #[.int .i64 t.1, .int .i64 t.2]) := by rw [h]
def StepR (n c most : Int) (w : World) (e : Ending) (w' : World) : Prop := e = .returned (.tuple #[.int .i64 (Nu.stepV n c most).1, .int .i64 (Nu.stepV n c most).2]) ∧ w = w'

theorem step_any (n c most : Int) (n0 : 0 ≤ n) (n1 : n ≤ most) (m1 : most ≤ 4611686018427387903) (c0 : 0 ≤ c) (c1 : c ≤ 255) (w : World) :
    Calls Try.prog 138 #[.int .i64 n, .int .u8 c, .int .i64 most] w (StepR n c most w) := by
  by_cases h1 : c < 48
  · have X := Lib.hid (show Nu.stepV n c most = (0, 3) by unfold Nu.stepV; rw [if_pos (.inl h1)])
    go_enter Try.func138, Try.ntmps138
    go_wp2
    go_ret2
    exact ⟨ret_step X.out, rfl⟩
  by_cases h2 : 57 < c
  · have X := Lib.hid (show Nu.stepV n c most = (0, 3) by unfold Nu.stepV; rw [if_pos (.inr h2)])
    go_enter Try.func138, Try.ntmps138
    go_wp2
    go_ret2
    exact ⟨ret_step X.out, rfl⟩
  have hs : ¬ (c < 48 ∨ 57 < c) := by omega
  by_cases h3 : most / 10 < n
  · have X := Lib.hid (show Nu.stepV n c most = (0, 4) by unfold Nu.stepV; rw [if_neg hs, if_pos (.inl h3)])
    clear hs
    go_enter Try.func138, Try.ntmps138
    go_wp2
    go_ret2
    exact ⟨ret_step X.out, rfl⟩
  by_cases h4 : n = most / 10
  · by_cases h5 : most % 10 < c - 48
    · have X := Lib.hid (show Nu.stepV n c most = (0, 4) by unfold Nu.stepV; rw [if_neg hs, if_pos (.inr ⟨h4, h5⟩)])
      have k4 : (n == most / 10) = true := by simp [h4]
      clear hs h4
      go_enter Try.func138, Try.ntmps138
      go_wp2
      go_ret2
      exact ⟨ret_step X.out, rfl⟩
    · have X := Lib.hid (show Nu.stepV n c most = (10 * n + (c - 48), 0) by unfold Nu.stepV; rw [if_neg hs, if_neg (by omega)])
      have k4 : (n == most / 10) = true := by simp [h4]
      have k5 : decide (most % 10 < c - 48) = false := by simp; omega
      clear hs h4
      go_enter Try.func138, Try.ntmps138
      go_wp2
      go_ret2
      exact ⟨ret_step X.out, rfl⟩
  · have X := Lib.hid (show Nu.stepV n c most = (10 * n + (c - 48), 0) by unfold Nu.stepV; rw [if_neg hs, if_neg (by omega)])
    have k4 : (n == most / 10) = false := by simp [h4]
    clear hs h4
    go_enter Try.func138, Try.ntmps138
    go_wp2
    go_ret2
    exact ⟨ret_step X.out, rfl⟩

theorem refStep_any (n c most : Int) (n0 : 0 ≤ n) (n1 : n ≤ most) (m1 : most ≤ 4611686018427387903) (c0 : 0 ≤ c) (c1 : c ≤ 255) (w : World) :
    Calls Try.prog 82 #[.int .i64 n, .int .u8 c, .int .i64 most] w (StepR n c most w) := by
  by_cases h1 : c < 48
  · have X := Lib.hid (show Nu.stepV n c most = (0, 3) by unfold Nu.stepV; rw [if_pos (.inl h1)])
    go_enter Try.func82, Try.ntmps82
    go_wp2
    go_ret2
    exact ⟨ret_step X.out, rfl⟩
  by_cases h2 : 57 < c
  · have X := Lib.hid (show Nu.stepV n c most = (0, 3) by unfold Nu.stepV; rw [if_pos (.inr h2)])
    go_enter Try.func82, Try.ntmps82
    go_wp2
    go_ret2
    exact ⟨ret_step X.out, rfl⟩
  have hs : ¬ (c < 48 ∨ 57 < c) := by omega
  by_cases h3 : most / 10 < n
  · have X := Lib.hid (show Nu.stepV n c most = (0, 4) by unfold Nu.stepV; rw [if_neg hs, if_pos (.inl h3)])
    clear hs
    go_enter Try.func82, Try.ntmps82
    go_wp2
    go_ret2
    exact ⟨ret_step X.out, rfl⟩
  by_cases h4 : n = most / 10
  · by_cases h5 : most % 10 < c - 48
    · have X := Lib.hid (show Nu.stepV n c most = (0, 4) by unfold Nu.stepV; rw [if_neg hs, if_pos (.inr ⟨h4, h5⟩)])
      have k4 : (n == most / 10) = true := by simp [h4]
      clear hs h4
      go_enter Try.func82, Try.ntmps82
      go_wp2
      go_ret2
      exact ⟨ret_step X.out, rfl⟩
    · have X := Lib.hid (show Nu.stepV n c most = (n * 10 + (c - 48), 0) by unfold Nu.stepV; rw [if_neg hs, if_neg (by omega), Int.mul_comm])
      have k4 : (n == most / 10) = true := by simp [h4]
      have k5 : decide (most % 10 < c - 48) = false := by simp; omega
      clear hs h4
      go_enter Try.func82, Try.ntmps82
      go_wp2
      go_ret2
      exact ⟨ret_step X.out, rfl⟩
  · have X := Lib.hid (show Nu.stepV n c most = (n * 10 + (c - 48), 0) by unfold Nu.stepV; rw [if_neg hs, if_neg (by omega), Int.mul_comm])
    have k4 : (n == most / 10) = false := by simp [h4]
    clear hs h4
    go_enter Try.func82, Try.ntmps82
    go_wp2
    go_ret2
    exact ⟨ret_step X.out, rfl⟩
end Go.Proofs.Ytflpocnbmpdhiaa

/- The bytes of a text, a step of a number told as two numbers. Condition: numbers fit their kinds. -/
namespace Go.Proofs.Ytflpocnbmpdhiaa
open Go.RowKit
set_option linter.unusedVariables false

/-- the bytes of a text, as numbers -/
def bytesOf (s : ByteArray) : List Int := s.data.toList.map fun c => (c.toNat : Int)
theorem bytesOf_length (s : ByteArray) : (bytesOf s).length = s.size := by simp [bytesOf]
theorem bytesOf_drop (s : ByteArray) (k : Nat) (h : k < s.size) : (bytesOf s).drop k = (s[k].toNat : Int) :: (bytesOf s).drop (k + 1) := by
  rw [List.drop_eq_getElem_cons (by rw [bytesOf_length]; exact h)]
  simp [bytesOf, ByteArray.getElem_eq_getElem_data]
theorem Nu.stepV_le (n c most : Int) (n0 : 0 ≤ n) (n1 : n ≤ most) (h : (Nu.stepV n c most).2 = 0) : 0 ≤ (Nu.stepV n c most).1 ∧ (Nu.stepV n c most).1 ≤ most := by
  unfold Nu.stepV at *
  split at h
  · simp at h
  · split at h
    · simp at h
    · rename_i h1 h2
      rw [if_neg h1, if_neg h2]
      simp only []
      omega
/-- Step, told as a number and whether it is one -/
theorem step_two (n c most : Int) (n0 : 0 ≤ n) (n1 : n ≤ most) (m1 : most ≤ 4611686018427387903) (c0 : 0 ≤ c) (c1 : c ≤ 255) (m e : Int) (h : Nu.stepV n c most = (m, e)) (w : World) :
    Calls Try.prog 138 #[.int .i64 n, .int .u8 c, .int .i64 most] w fun r w' => r = .returned (.tuple #[.int .i64 m, .int .i64 e]) ∧ w = w' := by
  refine (step_any n c most n0 n1 m1 c0 c1 w).mono ?_
  rintro r w' ⟨rfl, rfl⟩
  rw [h]; exact ⟨rfl, rfl⟩

theorem refStep_two (n c most : Int) (n0 : 0 ≤ n) (n1 : n ≤ most) (m1 : most ≤ 4611686018427387903) (c0 : 0 ≤ c) (c1 : c ≤ 255) (m e : Int) (h : Nu.stepV n c most = (m, e)) (w : World) :
    Calls Try.prog 82 #[.int .i64 n, .int .u8 c, .int .i64 most] w fun r w' => r = .returned (.tuple #[.int .i64 m, .int .i64 e]) ∧ w = w' := by
  refine (refStep_any n c most n0 n1 m1 c0 c1 w).mono ?_
  rintro r w' ⟨rfl, rfl⟩
  rw [h]; exact ⟨rfl, rfl⟩
theorem isEmpty_of {s : ByteArray} (h : s.size = 0) : s.toList.isEmpty = true := by
  rw [ByteArray.toList_eq, List.isEmpty_iff]; exact List.eq_nil_of_length_eq_zero (by simpa using h)
theorem not_empty_of {s : ByteArray} (h : s.size ≠ 0) : s.toList.isEmpty = false := by
  rw [ByteArray.toList_eq, List.isEmpty_eq_false_iff]; intro e; exact h (by have := congrArg List.length e; simpa using this)
def Nu.parseF (most : Int) : Int → List Int → Int × Int
  | n, [] => (n, 0)
  | n, c :: cs => if (Nu.stepV n c most).2 = 0 then Nu.parseF most (Nu.stepV n c most).1 cs else (0, (Nu.stepV n c most).2)
def Nu.parseV (l : List Int) (most : Int) : Int × Int := if l = [] then (0, 3) else Nu.parseF most 0 l
end Go.Proofs.Ytflpocnbmpdhiaa

/- Plain facts on words of a header: a reader of a number as a plain function, all numbers of a text, what is left out. No condition. -/
namespace Go.Proofs.Ytflpocnbmpdhiaa
open Go.RowKit
set_option linter.unusedVariables false
namespace Tk
def blank (c : Int) : Bool := decide (c = 32 ∨ (9 ≤ c ∧ c ≤ 13))
def line (c : Int) : Bool := decide (c = 10 ∨ c = 13)
/-- a reader: how far it is (0 ahead, 1 a remark ahead, 2 digits, 3 a remark behind, 4 over, 5 wrong), the number, the error, whether it took a digit -/
structure S where
  k : Nat
  n : Int
  e : Int
  bg : Bool
def new : S := ⟨0, 0, 9, false⟩
def put (m : Int) (s : S) (c : Int) : S :=
  if s.k = 4 ∨ s.k = 5 then s
  else if s.k = 1 then (if line c = true then ⟨0, s.n, s.e, s.bg⟩ else s)
  else if s.k = 3 then (if line c = true then ⟨4, s.n, 0, s.bg⟩ else s)
  else if c = 35 then ⟨s.k + 1, s.n, s.e, s.bg⟩
  else if blank c = true then (if s.k = 0 then s else ⟨4, s.n, 0, s.bg⟩)
  else if (Nu.stepV s.n c m).2 = 0 then ⟨2, (Nu.stepV s.n c m).1, s.e, true⟩
  else ⟨5, 0, (Nu.stepV s.n c m).2, s.bg⟩
def st (s : S) : Int := if s.k = 4 then 1 else if s.k = 5 then 2 else 0
def val (s : S) : Int × Int := if s.e = 0 then (s.n, 0) else (0, s.e)
def Good (m : Int) (s : S) : Prop :=
  s.k ≤ 5 ∧ 0 ≤ s.n ∧ s.n ≤ m ∧ (s.k ≤ 3 → s.e = 9) ∧ (s.k = 4 → s.e = 0) ∧ (s.k = 5 → (s.e = 3 ∨ s.e = 4)) ∧ (s.k ≤ 1 → s.n = 0 ∧ s.bg = false) ∧ (2 ≤ s.k → s.k ≤ 4 → s.bg = true)
theorem stepV_e (n c m : Int) : (Nu.stepV n c m).2 = 0 ∨ (Nu.stepV n c m).2 = 3 ∨ (Nu.stepV n c m).2 = 4 := by
  unfold Nu.stepV; split
  · exact .inr (.inl rfl)
  · split
    · exact .inr (.inr rfl)
    · exact .inl rfl
theorem good_new {m : Int} (h : 0 ≤ m) : Good m new := by unfold Good new; simp; exact h
theorem good_put {m : Int} {s : S} (h : Good m s) (c : Int) : Good m (put m s c) := by
  have H := h
  obtain ⟨h1, h2, h3, h4, h5, h6, h7, h8⟩ := h
  obtain ⟨k, n, e, bg⟩ := s
  simp only at h1 h2 h3 h4 h5 h6 h7 h8
  unfold put; simp only
  split
  · exact H
  rename_i hk
  split
  · rename_i hk1; subst hk1
    split
    · exact ⟨by simp, h2, h3, fun _ => h4 (by omega), fun h => absurd h (by simp), fun h => absurd h (by simp), fun _ => h7 (by omega), fun h => absurd h (by simp)⟩
    · exact H
  split
  · rename_i hk1 hk3; subst hk3
    split
    · exact ⟨by simp, h2, h3, fun h => absurd h (by simp), fun _ => rfl, fun h => absurd h (by simp), fun h => absurd h (by simp), fun _ _ => h8 (by omega) (by omega)⟩
    · exact H
  rename_i hk1 hk3
  split
  · refine ⟨by simp; omega, h2, h3, fun _ => h4 (by omega), fun h => absurd h (by simp; omega), fun h => absurd h (by simp; omega), fun hh => h7 (by simp at hh; omega), fun hh _ => h8 (by simp at hh; omega) (by omega)⟩
  split
  · split
    · exact H
    · exact ⟨by simp, h2, h3, fun h => absurd h (by simp), fun _ => rfl, fun h => absurd h (by simp), fun h => absurd h (by simp), fun _ _ => h8 (by omega) (by omega)⟩
  split
  · rename_i he
    obtain ⟨g1, g2⟩ := Nu.stepV_le n c m h2 h3 he
    exact ⟨by simp, g1, g2, fun _ => h4 (by omega), fun h => absurd h (by simp), fun h => absurd h (by simp), fun h => absurd h (by simp), fun _ _ => rfl⟩
  · rename_i he
    exact ⟨by simp, by simp, by simp; omega, fun h => absurd h (by simp), fun h => absurd h (by simp), fun _ => (stepV_e n c m).resolve_left he, fun h => absurd h (by simp), fun _ h => absurd h (by simp)⟩
/-- all numbers of a text -/
def allF (m : Int) : S → Nat → Int → List Int → List Int → List Int × Int × Int
  | s, i, u, acc, [] => (acc, u, if s.bg = true then 6 else 0)
  | s, i, u, acc, c :: cs =>
    if (put m s c).k = 5 then (acc, u, (put m s c).e)
    else if (put m s c).k = 4 then allF m new (i + 1) ((i : Int) + 1) (acc ++ [(put m s c).n]) cs
    else allF m (put m s c) (i + 1) u acc cs
def allV (l : List Int) (m : Int) : List Int × Int × Int := allF m new 0 0 [] l
/-- how many bytes are left out -/
def skipF : Bool → Nat → List Int → Int
  | _, i, [] => i
  | true, i, c :: cs => skipF (!line c) (i + 1) cs
  | false, i, c :: cs => if c = 35 then skipF true (i + 1) cs else if blank c = true then skipF false (i + 1) cs else i
def skipV (l : List Int) : Int := skipF false 0 l
end Tk
end Go.Proofs.Ytflpocnbmpdhiaa

/- Plain facts on what an image begins with: a reader of a head as a plain function, the head that a text begins with. No condition. -/
namespace Go.Proofs.Ytflpocnbmpdhiaa
open Go.RowKit
set_option linter.unusedVariables false
namespace Hd
/-- brought to where it may be: from 1 to hi -/
def lim (n hi : Int) : Int := if n < 1 then 1 else if hi < n then hi else n
theorem lim_at {n hi : Int} (h : 1 ≤ hi) : 1 ≤ lim n hi ∧ lim n hi ≤ hi := by
  unfold lim; split
  · omega
  · split <;> omega
/-- the greatest numbers -/
structure L where
  m0 : Int
  m1 : Int
  m2 : Int
def L.at (l : L) (i : Nat) : Int := if i = 0 then l.m0 else if i = 1 then l.m1 else l.m2
def L.Ok (l : L) : Prop := (1 ≤ l.m0 ∧ l.m0 ≤ 65536) ∧ (1 ≤ l.m1 ∧ l.m1 ≤ 65536) ∧ (1 ≤ l.m2 ∧ l.m2 ≤ 65536)
theorem L.at_ok {l : L} (h : l.Ok) (i : Nat) : 1 ≤ l.at i ∧ l.at i ≤ 65536 := by
  obtain ⟨h1, h2, h3⟩ := h
  unfold L.at; split
  · exact h1
  · split
    · exact h2
    · exact h3
def limits (w h m : Int) : L := ⟨lim w 4096, lim h 65536, lim m 65535⟩
theorem limits_ok (w h m : Int) : (limits w h m).Ok := by
  have a := lim_at (n := w) (hi := 4096) (by omega)
  have b := lim_at (n := h) (hi := 65536) (by omega)
  have c := lim_at (n := m) (hi := 65535) (by omega)
  exact ⟨⟨a.1, by simp only [limits]; omega⟩, ⟨b.1, b.2⟩, ⟨c.1, by simp only [limits]; omega⟩⟩
/-- a reader: how far it is (0 ahead, 1 behind P, 2 behind the kind, 3 in a number, 4 over, 5 wrong), the kind, how many numbers are over, these, the number's reader, the error -/
structure S where
  p : Nat
  kd : Int
  i : Nat
  v0 : Int
  v1 : Int
  v2 : Int
  t : Tk.S
  e : Int
/-- a head -/
structure H where
  kd : Int
  w : Int
  h : Int
  m : Int
def none : H := ⟨0, 0, 0, 0⟩
def new : S := ⟨0, 0, 0, 0, 0, 1, Tk.new, 0⟩
def bits (kd : Int) : Bool := decide (kd = 1 ∨ kd = 4)
def many (kd : Int) : Nat := if bits kd = true then 2 else 3
def S.wrong (s : S) (e : Int) : S := ⟨5, s.kd, s.i, s.v0, s.v1, s.v2, s.t, e⟩
def S.tok (s : S) (t : Tk.S) : S := ⟨3, s.kd, s.i, s.v0, s.v1, s.v2, t, s.e⟩
/-- a number more -/
def S.num (s : S) (n : Int) : S :=
  ⟨if s.i + 1 = many s.kd then 4 else 3, s.kd, s.i + 1, if s.i = 0 then n else s.v0, if s.i = 1 then n else s.v1, if 2 ≤ s.i then n else s.v2, Tk.new, s.e⟩
/-- what it is when its number's reader is where t says -/
def take (s : S) (t : Tk.S) : S :=
  if t.k = 5 then s.wrong t.e
  else if t.k = 4 then (if t.n = 0 then s.wrong 4 else s.num t.n)
  else s.tok t
def inNum (l : L) (s : S) (c : Int) : S := take s (Tk.put (l.at s.i) s.t c)
def put (l : L) (s : S) (c : Int) : S :=
  if s.p = 0 then (if c = 80 then ⟨1, s.kd, s.i, s.v0, s.v1, s.v2, s.t, s.e⟩ else s.wrong 2)
  else if s.p = 1 then (if 49 ≤ c ∧ c ≤ 54 then ⟨2, c - 48, s.i, s.v0, s.v1, s.v2, s.t, s.e⟩ else s.wrong 2)
  else if s.p = 2 then (if Tk.blank c = true ∨ c = 35 then inNum l s c else s.wrong 3)
  else if s.p = 3 then inNum l s c
  else s
def st (s : S) : Int := if s.p = 4 then 1 else if s.p = 5 then 2 else 0
def hd (s : S) : H := ⟨s.kd, s.v0, s.v1, s.v2⟩
/-- the head, and its error -/
def val (s : S) : H × Int := if s.p = 4 then (hd s, 0) else if s.p = 5 then (none, s.e) else (none, 9)
/-- told the rest of a text, i bytes in: the head, how many bytes it took, the error -/
def parseF (l : L) : S → Nat → List Int → H × Int × Int
  | s, i, [] => if s.p = 4 then (hd s, (i : Int), 0) else if s.p = 5 then (none, (i : Int), s.e) else (none, (i : Int), 6)
  | s, i, c :: cs => if s.p = 4 then (hd s, (i : Int), 0) else if s.p = 5 then (none, (i : Int), s.e) else parseF l (put l s c) (i + 1) cs
def parseV (l : L) (x : List Int) : H × Int × Int := parseF l new 0 x
theorem parse_over {l : L} {s : S} (i : Nat) (x : List Int) (h : s.p = 4) : parseF l s i x = (hd s, (i : Int), 0) := by cases x <;> rw [parseF, if_pos h]
theorem parse_wrong {l : L} {s : S} (i : Nat) (x : List Int) (h : s.p = 5) : parseF l s i x = (none, (i : Int), s.e) := by cases x <;> rw [parseF, if_neg (by omega), if_pos h]
theorem parse_nil {l : L} {s : S} (i : Nat) (h : s.p ≤ 3) : parseF l s i [] = (none, (i : Int), 6) := by rw [parseF, if_neg (by omega), if_neg (by omega)]
theorem parse_cons {l : L} {s : S} (i : Nat) (c : Int) (cs : List Int) (h : s.p ≤ 3) : parseF l s i (c :: cs) = parseF l (put l s c) (i + 1) cs := by rw [parseF, if_neg (by omega), if_neg (by omega)]
/-- what is so of each reader -/
def Good (l : L) (s : S) : Prop :=
  s.p ≤ 5 ∧ (s.p ≤ 3 → Tk.Good (l.at s.i) s.t ∧ s.t.k ≤ 3) ∧ (s.p ≤ 2 → s.i = 0 ∧ s.v0 = 0 ∧ s.v1 = 0 ∧ s.v2 = 1 ∧ s.t = Tk.new) ∧ (s.p ≤ 1 → s.kd = 0) ∧ (2 ≤ s.p → s.p ≤ 4 → 1 ≤ s.kd ∧ s.kd ≤ 6) ∧ (s.p ≤ 3 → s.i < many s.kd) ∧ (s.p = 5 → (s.e = 2 ∨ s.e = 3 ∨ s.e = 4)) ∧ s.i ≤ 3
theorem many_at (kd : Int) : many kd = 2 ∨ many kd = 3 := by unfold many; split <;> simp
theorem good_new {l : L} (h : l.Ok) : Good l new := by
  have := L.at_ok h 0
  refine ⟨by decide, fun _ => ⟨Tk.good_new (by show (0 : Int) ≤ l.at 0; omega), by decide⟩, fun _ => ⟨rfl, rfl, rfl, rfl, rfl⟩, fun _ => rfl, fun h => absurd h (by decide), fun _ => by have := many_at (0 : Int); show 0 < many 0; omega, fun h => absurd h (by decide), by decide⟩
theorem good_wrong {l : L} {s : S} (hi : s.i ≤ 3) {e : Int} (he : e = 2 ∨ e = 3 ∨ e = 4) : Good l (s.wrong e) :=
  ⟨Nat.le_refl 5, fun h => absurd h (by simp [S.wrong]), fun h => absurd h (by simp [S.wrong]), fun h => absurd h (by simp [S.wrong]), fun _ h => absurd h (by simp [S.wrong]), fun h => absurd h (by simp [S.wrong]), fun _ => he, hi⟩
theorem good_take {l : L} (hl : l.Ok) {s : S} (hk : 1 ≤ s.kd ∧ s.kd ≤ 6) (hi : s.i < many s.kd) {t : Tk.S} (ht : Tk.Good (l.at s.i) t) : Good l (take s t) := by
  have hm := many_at s.kd
  unfold take
  split
  · rename_i h5; exact good_wrong (by omega) (.inr (ht.2.2.2.2.2.1 h5))
  split
  · split
    · exact good_wrong (by omega) (.inr (.inr rfl))
    · unfold S.num
      by_cases h : s.i + 1 = many s.kd
      · rw [if_pos h]
        exact ⟨by simp, fun h => absurd h (by simp), fun h => absurd h (by simp), fun h => absurd h (by simp), fun _ _ => hk, fun h => absurd h (by simp), fun h => absurd h (by simp), by simp only []; omega⟩
      · rw [if_neg h]
        have := L.at_ok hl (s.i + 1)
        exact ⟨by simp, fun _ => ⟨Tk.good_new (by simp only []; omega), Nat.zero_le _⟩, fun h => absurd h (by simp), fun h => absurd h (by simp), fun _ _ => hk, fun _ => by simp only []; omega, fun h => absurd h (by simp), by simp only []; omega⟩
  · rename_i h5 h4
    have := ht.1
    exact ⟨by simp [S.tok], fun _ => ⟨ht, by show t.k ≤ 3; omega⟩, fun h => absurd h (by simp [S.tok]), fun h => absurd h (by simp [S.tok]), fun _ _ => hk, fun _ => hi, fun h => absurd h (by simp [S.tok]), by show s.i ≤ 3; omega⟩
theorem good_put {l : L} (hl : l.Ok) {s : S} (h : Good l s) (c : Int) : Good l (put l s c) := by
  obtain ⟨h1, h2, h3, h4, h5, h6, h7, h8⟩ := h
  unfold put
  split
  · rename_i hp
    obtain ⟨a1, a2, a3, a4, a5⟩ := h3 (by omega)
    split
    · exact ⟨by simp, fun _ => h2 (by omega), fun _ => ⟨a1, a2, a3, a4, a5⟩, fun _ => h4 (by omega), fun h => absurd h (by simp), fun _ => h6 (by omega), fun h => absurd h (by simp), h8⟩
    · exact good_wrong h8 (.inl rfl)
  split
  · rename_i hp0 hp
    obtain ⟨a1, a2, a3, a4, a5⟩ := h3 (by omega)
    split
    · rename_i hc
      exact ⟨by simp, fun _ => h2 (by omega), fun _ => ⟨a1, a2, a3, a4, a5⟩, fun h => absurd h (by simp), fun _ _ => by simp only []; omega, fun _ => by have := many_at (c - 48); simp only []; omega, fun h => absurd h (by simp), h8⟩
    · exact good_wrong h8 (.inl rfl)
  split
  · rename_i hp0 hp1 hp
    split
    · exact good_take hl (h5 (by omega) (by omega)) (h6 (by omega)) (Tk.good_put (h2 (by omega)).1 c)
    · exact good_wrong h8 (.inr (.inl rfl))
  split
  · exact good_take hl (h5 (by omega) (by omega)) (h6 (by omega)) (Tk.good_put (h2 (by omega)).1 c)
  · exact ⟨h1, h2, h3, h4, h5, h6, h7, h8⟩
/-- what a text's head comes to, told while a reader is told it -/
theorem parse_ends {l : L} (hl : l.Ok) : ∀ (x : List Int) (s : S) (i : Nat), Good l s → s.p ≤ 3 → (i : Int) ≤ (parseF l s i x).2.1 ∧ ((parseF l s i x).2.2 ≠ 6 → (i : Int) + 1 ≤ (parseF l s i x).2.1) ∧ ((parseF l s i x).2.2 = 0 ∨ (parseF l s i x).2.2 = 2 ∨ (parseF l s i x).2.2 = 3 ∨ (parseF l s i x).2.2 = 4 ∨ (parseF l s i x).2.2 = 6)
  | [], s, i, h, hp => by rw [parse_nil i hp]; simp
  | c :: cs, s, i, h, hp => by
    rw [parse_cons i c cs hp]
    have hg := good_put hl h c
    by_cases h4 : (put l s c).p = 4
    · rw [parse_over _ _ h4]; simp; omega
    by_cases h5 : (put l s c).p = 5
    · rw [parse_wrong _ _ h5]
      have := hg.2.2.2.2.2.2.1 h5
      simp only []; omega
    · have := hg.1
      have h := parse_ends hl cs (put l s c) (i + 1) hg (by omega)
      omega
end Hd
end Go.Proofs.Ytflpocnbmpdhiaa

/- A number's decimals by the document, over any memory. Condition: the number fits its kind. -/
namespace Go.Proofs.Ytflpocnbmpdhiaa
open Go.RowKit
set_option linter.unusedVariables false

theorem strOfNums_append (xs ys : List Int) : strOfNums (xs ++ ys) = strOfNums xs ++ strOfNums ys := by
  apply ByteArray.ext
  simp [strOfNums]
/-- the decimals of a number, from the last one on, and its sign -/
def Nu.backV (n : Int) : List Int := (Nu.dig 10 n.natAbs).map (48 + ·) ++ (if n < 0 then [45] else [])
def Nu.decV (n : Int) : List Int := (Nu.backV n).reverse
theorem Nu.decV_pos {n : Int} (h0 : 0 ≤ n) (h : n < 10) : Nu.decV n = [48 + n] := by
  unfold Nu.decV Nu.backV
  rw [Nu.dig_last (by omega), if_neg (by omega), show (n.natAbs : Int) % 10 = n by omega]; rfl
theorem Nu.decV_neg {n : Int} (h0 : n < 0) (h : -10 < n) : Nu.decV n = [45] ++ [48 + -n] := by
  unfold Nu.decV Nu.backV
  rw [Nu.dig_last (by omega), if_pos h0, show (n.natAbs : Int) % 10 = -n by omega]; rfl
theorem Nu.decV_more {n q r : Int} (h : 10 ≤ n.natAbs) (hq : (q.natAbs : Int) = n.natAbs / 10) (hs : q < 0 ↔ n < 0) (hr : (n.natAbs : Int) % 10 = r) : Nu.decV n = Nu.decV q ++ [48 + r] := by
  unfold Nu.decV Nu.backV
  rw [Nu.dig_more (by omega) (show (10 : Int) ≤ n.natAbs by omega), ← hq, hr]
  by_cases h0 : n < 0
  · rw [if_pos h0, if_pos (hs.2 h0)]; simp
  · rw [if_neg h0, if_neg (fun e => h0 (hs.1 e))]; simp
theorem Nu.conv_one (W : World) (x : Int) : (convert 33 9 (.slice (some ⟨W.heap.size, 0, none⟩) 1 1)).run Try.prog (W.alloc (.cells #[.int .u8 x] 5)) = .ok (.string (strOfNums [x])) (W.alloc (.cells #[.int .u8 x] 5)) :=
  run_convert_bytes_arg (P := Try.prog) _ 33 5 Try.underlying33 Try.underlying5 W.heap.size 0 1 1 [x] rfl (by
    intro i hi
    obtain rfl : i = 0 := by omega
    simp [go_sem]) 9 Try.underlying9
theorem ret_s {a b : ByteArray} (h : a = b) : Ending.returned (.string a) = .returned (.string b) := by rw [h]

theorem Nu.decV_len {n : Int} (hn : Nu.I n) : (Nu.decV n).length ≤ 66 := by
  have := Nu.dig_len64 (b := 10) (n := n.natAbs) (by omega) (by unfold Nu.I at hn; omega)
  unfold Nu.decV Nu.backV
  split <;> simp <;> omega

set_option maxRecDepth 100000 in
set_option maxHeartbeats 2000000 in
theorem refDecimal_go (k : Nat) : ∀ (n : Int), n.natAbs ≤ k → Nu.I n → ∀ w : World,
    Calls Try.prog 20 #[.int .i64 n] w fun e w' => e = .returned (.string (strOfNums (Nu.decV n))) ∧ Below w.heap.size w w' := by
  induction k using Nat.strongRecOn with
  | ind k ih =>
  intro n hk hn w
  have hI := hn
  obtain ⟨n1, n2⟩ := hn
  have hc := fun x => Nu.conv_one w x
  by_cases h0 : n < 0
  · by_cases hb : -10 < n
    · have X := Lib.hid (Nu.decV_neg h0 hb)
      have hm : n.tmod 10 = n := by
        have : (-n).tmod 10 = (-n) % 10 := Int.tmod_eq_emod_of_nonneg (by omega)
        rw [Int.neg_tmod] at this; omega
      have hcx := hc (48 + -n)
      have hL : (⟨#[45]⟩ : ByteArray).size + (strOfNums [48 + -n]).size ≤ 9223372036854775807 := by rw [strOfNums_size]; simp [ByteArray.size]
      clear hc ih
      go_enter Try.func20, Try.ntmps20
      go_wp2
      go_ret
      exact ⟨ret_s (by rw [X.out, strOfNums_append]; rfl), (Below.refl _ _).alloc (Nat.le_refl _) _⟩
    · obtain ⟨r, hr⟩ : ∃ r, (-n) % 10 = r := ⟨_, rfl⟩
      obtain ⟨q, hq⟩ : ∃ q, -((-n) / 10) = q := ⟨_, rfl⟩
      have hm : n.tmod 10 = -r := by
        have : (-n).tmod 10 = (-n) % 10 := Int.tmod_eq_emod_of_nonneg (by omega)
        rw [Int.neg_tmod] at this; omega
      have hd : n.tdiv 10 = q := by
        have : (-n).tdiv 10 = (-n) / 10 := Int.tdiv_eq_ediv_of_nonneg (by omega)
        rw [Int.neg_tdiv] at this; omega
      have X := Lib.hid (Nu.decV_more (n := n) (q := q) (r := r) (by omega) (by omega) (by omega) (by omega))
      have r0 : 0 ≤ r := by omega
      have r1 : r < 10 := by omega
      have q0 : -9223372036854775808 ≤ q := by omega
      have q1 : q < 0 := by omega
      have hL : (strOfNums (Nu.decV q)).size + (strOfNums [48 + r]).size ≤ 9223372036854775807 := by
        have := Nu.decV_len (n := q) (by unfold Nu.I; omega)
        rw [strOfNums_size, strOfNums_size]; simp; omega
      have hcx := hc (48 + r)
      have hrec := Lib.hid (ih q.natAbs (by omega) q (Nat.le_refl _) (by unfold Nu.I; omega))
      have hc48 := hc 48
      clear hc ih hq hr
      by_cases hz : r = 0
      · subst hz
        have hm' : n.tmod 10 = 0 := by omega
        have hL' : (strOfNums (Nu.decV q)).size + (strOfNums [48]).size ≤ 9223372036854775807 := hL
        clear hm hcx hL
        go_enter Try.func20, Try.ntmps20
        go_wp2_with (go_at_call 20; refine (hrec.out _).mono ?_; rintro e w1 ⟨rfl, hb1⟩)
        go_ret
        exact ⟨ret_s (by rw [X.out, strOfNums_append]; rfl), ((Below.refl _ _).alloc (Nat.le_refl _) _).trans (hb1.mono (by simp))⟩
      · have rp : 0 < r := by omega
        clear hz
        go_enter Try.func20, Try.ntmps20
        go_wp2_with (go_at_call 20; refine (hrec.out _).mono ?_; rintro e w1 ⟨rfl, hb1⟩)
        go_ret
        exact ⟨ret_s (by rw [X.out, strOfNums_append]), ((Below.refl _ _).alloc (Nat.le_refl _) _).trans (hb1.mono (by simp))⟩
  · have hm : n.tmod 10 = n % 10 := Int.tmod_eq_emod_of_nonneg (by omega)
    have r0 : 0 ≤ n % 10 := by omega
    have r1 : n % 10 < 10 := by omega
    have p0 : 0 ≤ n := by omega
    by_cases hb : n < 10
    · have X := Lib.hid (show Nu.decV n = [48 + n % 10] by rw [Nu.decV_pos p0 hb, show n % 10 = n by omega])
      have hcx := hc (48 + n % 10)
      clear hc hm
      go_enter Try.func20, Try.ntmps20
      go_wp2
      go_ret
      exact ⟨ret_s (by rw [X.out]), (Below.refl _ _).alloc (Nat.le_refl _) _⟩
    · have X := Lib.hid (Nu.decV_more (n := n) (q := n / 10) (r := n % 10) (by omega) (by omega) (by omega) (by omega))
      have hL : (strOfNums (Nu.decV (n / 10))).size + (strOfNums [48 + n % 10]).size ≤ 9223372036854775807 := by
        have := Nu.decV_len (n := n / 10) (by unfold Nu.I; omega)
        rw [strOfNums_size, strOfNums_size]; simp; omega
      have hcx := hc (48 + n % 10)
      have hrec := Lib.hid (ih (n / 10).natAbs (by omega) (n / 10) (Nat.le_refl _) (by unfold Nu.I; omega))
      clear hc hm ih
      go_enter Try.func20, Try.ntmps20
      go_wp2_with (go_at_call 20; refine (hrec.out _).mono ?_; rintro e w1 ⟨rfl, hb1⟩)
      go_ret
      exact ⟨ret_s (by rw [X.out, strOfNums_append]), ((Below.refl _ _).alloc (Nat.le_refl _) _).trans (hb1.mono (by simp))⟩
theorem refDecimal_any (n : Int) (hn : Nu.I n) (w : World) :
    Calls Try.prog 20 #[.int .i64 n] w fun e w' => e = .returned (.string (strOfNums (Nu.decV n))) ∧ Below w.heap.size w w' :=
  refDecimal_go _ n (Nat.le_refl _) hn w
end Go.Proofs.Ytflpocnbmpdhiaa

/- A number's decimals are read as it was: plain facts. No condition. -/
namespace Go.Proofs.Ytflpocnbmpdhiaa
open Go.RowKit
set_option linter.unusedVariables false

theorem bytesOf_strOfNums {xs : List Int} (h : ∀ x ∈ xs, 0 ≤ x ∧ x ≤ 255) : bytesOf (strOfNums xs) = xs := by
  unfold bytesOf strOfNums
  simp only [List.map_map]
  conv => rhs; rw [← List.map_id xs]
  refine List.map_congr_left fun x hx => ?_
  obtain ⟨h0, h1⟩ := h x hx
  simp; omega
theorem bytesOf_append (a b : ByteArray) : bytesOf (a ++ b) = bytesOf a ++ bytesOf b := by simp [bytesOf]
theorem Nu.parseF_append (most : Int) : ∀ (xs ys : List Int) (n : Int), Nu.parseF most n (xs ++ ys) = if (Nu.parseF most n xs).2 = 0 then Nu.parseF most (Nu.parseF most n xs).1 ys else (0, (Nu.parseF most n xs).2)
  | [], ys, n => by simp [Nu.parseF]
  | c :: cs, ys, n => by
    rw [List.cons_append, Nu.parseF, Nu.parseF]
    by_cases h : (Nu.stepV n c most).2 = 0
    · rw [if_pos h, if_pos h]; exact Nu.parseF_append most cs ys _
    · rw [if_neg h, if_neg h, if_neg h]
theorem Nu.parse_dig (most : Int) (m0 : 0 ≤ most) (k : Int) (h0 : 0 ≤ k) : Nu.parseF most 0 (((Nu.dig 10 k).map (48 + ·)).reverse) = if k ≤ most then (k, 0) else (0, 4) := by
  induction k using Nu.dig.induct (b := 10) with
  | case1 k h ih =>
    have hq := ih (by omega)
    rw [Nu.dig_more h.1 h.2, List.map_cons, List.reverse_cons, Nu.parseF_append, hq]
    by_cases hk : k / 10 ≤ most
    · rw [if_pos hk, if_pos rfl, Nu.parseF]
      have hs : Nu.stepV (k / 10) (48 + k % 10) most = if k ≤ most then (k, 0) else (0, 4) := by
        unfold Nu.stepV
        rw [if_neg (by omega)]
        by_cases hm : k ≤ most
        · rw [if_neg (by omega), if_pos hm]; refine Prod.ext ?_ rfl; simp only []; omega
        · rw [if_pos (by omega), if_neg hm]
      rw [hs]
      by_cases hm : k ≤ most
      · rw [if_pos hm, if_pos rfl]; rfl
      · rw [if_neg hm, if_neg (by simp)]
    · rw [if_neg hk, if_neg (by simp), if_neg (by omega)]
  | case2 k h =>
    rw [Nu.dig_last (by omega)]
    have hk : k % 10 = k := by omega
    rw [hk]
    show Nu.parseF most 0 [48 + k] = _
    rw [Nu.parseF]
    have hs : Nu.stepV 0 (48 + k) most = if k ≤ most then (k, 0) else (0, 4) := by
      unfold Nu.stepV
      rw [if_neg (by omega)]
      by_cases hm : k ≤ most
      · rw [if_neg (by omega), if_pos hm]; refine Prod.ext ?_ rfl; simp only []; omega
      · rw [if_pos (by omega), if_neg hm]
    rw [hs]
    by_cases hm : k ≤ most
    · rw [if_pos hm, if_pos rfl]; rfl
    · rw [if_neg hm, if_neg (by simp)]
theorem Nu.parse_nought (most : Int) (m0 : 0 ≤ most) (l : List Int) : Nu.parseF most 0 (48 :: l) = Nu.parseF most 0 l := by
  have hs : Nu.stepV 0 48 most = (0, 0) := by unfold Nu.stepV; rw [if_neg (by omega), if_neg (by omega)]; rfl
  rw [Nu.parseF, hs, if_pos rfl]
theorem Nu.decV_up {k : Int} (h : 0 ≤ k) : Nu.decV k = ((Nu.dig 10 k).map (48 + ·)).reverse := by
  unfold Nu.decV Nu.backV
  rw [if_neg (by omega), List.append_nil, show (k.natAbs : Int) = k by omega]
theorem Nu.decV_bytes (k : Int) : ∀ x ∈ Nu.decV k, 0 ≤ x ∧ x ≤ 255 := by
  intro x hx
  unfold Nu.decV Nu.backV at hx
  rw [List.mem_reverse, List.mem_append] at hx
  rcases hx with hx | hx
  · obtain ⟨d, hd, rfl⟩ := List.mem_map.1 hx
    have := Nu.dig_lt (b := 10) (by omega) _ d hd
    omega
  · split at hx
    · obtain rfl : x = 45 := by simpa using hx
      omega
    · cases hx
theorem Nu.decV_ne {k : Int} (h : 0 ≤ k) : Nu.decV k ≠ [] := by
  rw [Nu.decV_up h]; simp [Nu.dig_ne]
theorem Nu.parse_dec (k : Int) (h : 0 ≤ k) : Nu.parseV (bytesOf (strOfNums (Nu.decV k))) k = (k, 0) := by
  rw [bytesOf_strOfNums (Nu.decV_bytes k)]
  unfold Nu.parseV
  rw [if_neg (Nu.decV_ne h), Nu.decV_up h, Nu.parse_dig k h k h, if_pos (Int.le_refl _)]
theorem Nu.parse_dec00 (k m : Int) (h : 0 ≤ k) (m0 : 0 ≤ m) : Nu.parseV (bytesOf ((⟨#[48, 48]⟩ : ByteArray) ++ strOfNums (Nu.decV k))) m = if k ≤ m then (k, 0) else (0, 4) := by
  rw [bytesOf_append, bytesOf_strOfNums (Nu.decV_bytes k)]
  show Nu.parseV (48 :: 48 :: Nu.decV k) m = _
  unfold Nu.parseV
  rw [if_neg (by simp), Nu.parse_nought m m0, Nu.parse_nought m m0, Nu.decV_up h, Nu.parse_dig m m0 k h]
end Go.Proofs.Ytflpocnbmpdhiaa

/- What a reader says of a number's decimals, of blanks and of remarks: plain facts. No condition. -/
namespace Go.Proofs.Ytflpocnbmpdhiaa
open Go.RowKit
set_option linter.unusedVariables false
namespace Tk
/-- told the list it goes on, and is then where t says -/
def runs (m : Int) : S → List Int → S → Prop
  | s, [], t => s = t
  | s, c :: cs, t => (put m s c).k ≤ 3 ∧ runs m (put m s c) cs t
theorem runs_app {m : Int} : ∀ (a : List Int) {b : List Int} {s t v : S}, runs m s a t → runs m t b v → runs m s (a ++ b) v
  | [], b, s, t, v, h, k => by have : s = t := h; subst this; exact k
  | c :: cs, b, s, t, v, h, k => ⟨h.1, runs_app cs h.2 k⟩
theorem allF_runs {m : Int} : ∀ (l : List Int) {s t : S}, runs m s l t → ∀ (i : Nat) (u : Int) (acc r : List Int), allF m s i u acc (l ++ r) = allF m t (i + l.length) u acc r
  | [], s, t, h, i, u, acc, r => by have : s = t := h; subst this; rfl
  | c :: cs, s, t, h, i, u, acc, r => by
    have h5 : ¬ (put m s c).k = 5 := by have := h.1; omega
    have h4 : ¬ (put m s c).k = 4 := by have := h.1; omega
    rw [List.cons_append, allF, if_neg h5, if_neg h4, allF_runs cs h.2, List.length_cons, show i + 1 + cs.length = i + (cs.length + 1) by omega]
/-- told digits it took digits, and goes on -/
def digs (m : Int) : S → List Int → S → Prop
  | s, [], t => s = t
  | s, c :: cs, t => (put m s c).k = 2 ∧ digs m (put m s c) cs t
theorem digs_runs {m : Int} : ∀ (l : List Int) {s t : S}, digs m s l t → runs m s l t
  | [], s, t, h => h
  | c :: cs, s, t, h => ⟨by have := h.1; omega, digs_runs cs h.2⟩
theorem step_digit {n c m : Int} (h : (Nu.stepV n c m).2 = 0) : 48 ≤ c ∧ c ≤ 57 := by
  unfold Nu.stepV at h
  split at h
  · simp at h
  · rename_i h1; omega
theorem put_digit {m : Int} {s : S} {c : Int} (hk : s.k = 0 ∨ s.k = 2) (he : s.e = 9) (h : (Nu.stepV s.n c m).2 = 0) : put m s c = ⟨2, (Nu.stepV s.n c m).1, 9, true⟩ := by
  obtain ⟨h1, h2⟩ := step_digit h
  have hb : ¬ blank c = true := by unfold blank; simp; omega
  unfold put
  rw [if_neg (by omega), if_neg (by omega), if_neg (by omega), if_neg (by omega), if_neg hb, if_pos h, he]
theorem digs_parse {m v : Int} : ∀ (l : List Int) (s : S), (s.k = 0 ∨ s.k = 2) → s.e = 9 → (l = [] → s = ⟨2, v, 9, true⟩) → Nu.parseF m s.n l = (v, 0) → digs m s l ⟨2, v, 9, true⟩
  | [], s, hk, he, h0, h => h0 rfl
  | c :: cs, s, hk, he, h0, h => by
    rw [Nu.parseF] at h
    by_cases hs : (Nu.stepV s.n c m).2 = 0
    · rw [if_pos hs] at h
      have hp := put_digit hk he hs
      refine ⟨by rw [hp], ?_⟩
      rw [hp]
      refine digs_parse cs _ (.inr rfl) rfl (fun e => ?_) h
      subst e
      simp only [Nu.parseF] at h
      have := (Prod.mk.inj h).1
      rw [this]
    · rw [if_neg hs] at h
      have h2 := (Prod.mk.inj h).2
      exact absurd h2 hs
theorem digs_dec {m k : Int} (h0 : 0 ≤ k) (h1 : k ≤ m) : digs m new (Nu.decV k) ⟨2, k, 9, true⟩ := by
  refine digs_parse _ _ (.inl rfl) rfl (fun e => absurd e (Nu.decV_ne h0)) ?_
  show Nu.parseF m 0 _ = _
  rw [Nu.decV_up h0, Nu.parse_dig m (by omega) k h0, if_pos h1]
theorem digs_noughts {m k : Int} (h0 : 0 ≤ k) (h1 : k ≤ m) (r : Nat) : digs m new (List.replicate r 48 ++ Nu.decV k) ⟨2, k, 9, true⟩ := by
  refine digs_parse _ _ (.inl rfl) rfl (fun e => absurd (List.append_eq_nil_iff.1 e).2 (Nu.decV_ne h0)) ?_
  show Nu.parseF m 0 _ = _
  induction r with
  | zero => rw [List.replicate_zero, List.nil_append, Nu.decV_up h0, Nu.parse_dig m (by omega) k h0, if_pos h1]
  | succ r ih => rw [List.replicate_succ, List.cons_append, Nu.parse_nought m (by omega)]; exact ih
theorem blank_35 {c : Int} (h : blank c = true) : ¬ c = 35 := by unfold blank at h; simp at h; omega
theorem put_end {m k c : Int} (h : blank c = true) : put m ⟨2, k, 9, true⟩ c = ⟨4, k, 0, true⟩ := by simp [put, blank_35 h, h]
theorem put_ahead {m c : Int} (h : blank c = true) : put m new c = new := by
  have := blank_35 h
  simp [put, new, this, h]
theorem put_remA (m : Int) : put m new 35 = ⟨1, 0, 9, false⟩ := by simp [put, new]
theorem put_remD (m k : Int) : put m ⟨2, k, 9, true⟩ 35 = ⟨3, k, 9, true⟩ := by simp [put]
theorem put_in1 {m c : Int} (h : line c = false) : put m ⟨1, 0, 9, false⟩ c = ⟨1, 0, 9, false⟩ := by simp [put, h]
theorem put_in3 {m k c : Int} (h : line c = false) : put m ⟨3, k, 9, true⟩ c = ⟨3, k, 9, true⟩ := by simp [put, h]
theorem put_out1 {m c : Int} (h : line c = true) : put m ⟨1, 0, 9, false⟩ c = new := by simp [put, h, new]
theorem put_out3 {m k c : Int} (h : line c = true) : put m ⟨3, k, 9, true⟩ c = ⟨4, k, 0, true⟩ := by simp [put, h]
theorem runs_in1 {m : Int} : ∀ (l : List Int), (∀ c ∈ l, line c = false) → runs m ⟨1, 0, 9, false⟩ l ⟨1, 0, 9, false⟩
  | [], _ => rfl
  | c :: cs, h => by
    have e := put_in1 (m := m) (h c (by simp))
    exact ⟨by rw [e]; decide, by rw [e]; exact runs_in1 cs fun d hd => h d (by simp [hd])⟩
theorem runs_in3 {m k : Int} : ∀ (l : List Int), (∀ c ∈ l, line c = false) → runs m ⟨3, k, 9, true⟩ l ⟨3, k, 9, true⟩
  | [], _ => rfl
  | c :: cs, h => by
    have e := put_in3 (m := m) (k := k) (h c (by simp))
    exact ⟨by rw [e]; simp, by rw [e]; exact runs_in3 cs fun d hd => h d (by simp [hd])⟩
/-- a number's decimals and a blank are read as the number -/
theorem all_dec {M k c : Int} (h0 : 0 ≤ k) (h1 : k ≤ M) (hc : blank c = true) (i : Nat) (u : Int) (acc r : List Int) : allF M new i u acc (Nu.decV k ++ [c] ++ r) = allF M new (i + ((Nu.decV k).length + 1)) ((i + ((Nu.decV k).length + 1) : Nat) : Int) (acc ++ [k]) r := by
  rw [List.append_assoc, allF_runs _ (digs_runs _ (digs_dec h0 h1)), List.singleton_append, allF, put_end hc, if_neg (by simp), if_pos rfl]
  rw [show i + (Nu.decV k).length + 1 = i + ((Nu.decV k).length + 1) by omega]
  congr 1
end Tk
end Go.Proofs.Ytflpocnbmpdhiaa

/- A head's bytes, and what a reader says of them: plain facts. No condition. -/
namespace Go.Proofs.Ytflpocnbmpdhiaa
open Go.RowKit
set_option linter.unusedVariables false
namespace Hd
theorem take_more {s : S} {t : Tk.S} (h : t.k ≤ 3) : take s t = s.tok t := by unfold take; rw [if_neg (by omega), if_neg (by omega)]
theorem take_over {s : S} {k : Int} (h : k ≠ 0) {b : Bool} {e : Int} : take s ⟨4, k, e, b⟩ = s.num k := by
  unfold take; rw [if_neg (by simp), if_pos rfl, if_neg h]
theorem take_wrong {s : S} {t : Tk.S} (h : t.k = 5) : take s t = s.wrong t.e := by unfold take; rw [if_pos h]
theorem put_in {l : L} {s : S} {c : Int} (h : s.p = 3) : put l s c = take s (Tk.put (l.at s.i) s.t c) := by
  unfold put; rw [if_neg (by omega), if_neg (by omega), if_neg (by omega), if_pos h]; rfl
theorem tok_tok (s : S) (t u : Tk.S) : (s.tok t).tok u = s.tok u := rfl
theorem tok_self {s : S} (h : s.p = 3) : s.tok s.t = s := by
  obtain ⟨p, kd, i, v0, v1, v2, t, e⟩ := s
  have : p = 3 := h
  subst this; rfl
/-- told what its number's reader goes on with it goes on -/
theorem parse_runs {l : L} : ∀ (x : List Int) (s : S) (i : Nat) (r : List Int) {t : Tk.S}, s.p = 3 → Tk.runs (l.at s.i) s.t x t → parseF l s i (x ++ r) = parseF l (s.tok t) (i + x.length) r
  | [], s, i, r, t, hp, h => by
    have h' : s.t = t := h
    rw [← h', tok_self hp]; rfl
  | c :: cs, s, i, r, t, hp, h => by
    have h1 := h.1
    rw [List.cons_append, parse_cons i c _ (by omega), put_in hp, take_more h1]
    have := parse_runs (l := l) cs (s.tok (Tk.put (l.at s.i) s.t c)) (i + 1) r (t := t) rfl h.2
    rw [this, tok_tok, List.length_cons, show i + 1 + cs.length = i + (cs.length + 1) by omega]
/-- behind the kind a number's reader begins -/
theorem parse_third {l : L} {s : S} (hp : s.p = 2) (i : Nat) {c : Int} (hc : Tk.blank c = true ∨ c = 35) (cs : List Int) : parseF l s i (c :: cs) = parseF l (s.tok s.t) i (c :: cs) := by
  rw [parse_cons i c cs (by omega), parse_cons i c cs (by show (3 : Nat) ≤ 3; omega), put_in (s := s.tok s.t) rfl]
  congr 1
  unfold put
  rw [if_neg (by omega), if_neg (by omega), if_pos hp, if_pos hc]
  unfold inNum take
  rfl
/-- the blank behind a number's digits -/
theorem parse_ends_num {l : L} {s : S} {k : Int} (h : k ≠ 0) (i : Nat) {c : Int} (hc : Tk.blank c = true) (cs : List Int) : parseF l (s.tok ⟨2, k, 9, true⟩) i (c :: cs) = parseF l (s.num k) (i + 1) cs := by
  rw [parse_cons i c cs (by show (3 : Nat) ≤ 3; omega), put_in rfl]
  congr 1
  show take (s.tok _) (Tk.put (l.at s.i) ⟨2, k, 9, true⟩ c) = _
  rw [Tk.put_end hc, take_over h]; rfl
/-- a number and a blank -/
theorem parse_num {l : L} {s : S} (hp : s.p = 3) (ht : s.t = Tk.new) {k : Int} (h0 : 1 ≤ k) (h1 : k ≤ l.at s.i) (i : Nat) {c : Int} (hc : Tk.blank c = true) (r : List Int) :
    parseF l s i (Nu.decV k ++ (c :: r)) = parseF l (s.num k) (i + (Nu.decV k).length + 1) r := by
  rw [parse_runs _ s i _ hp (by rw [ht]; exact Tk.digs_runs _ (Tk.digs_dec (by omega) h1)), parse_ends_num (by omega) _ hc]
/-- a number that is too great -/
theorem parse_great {l : L} {r : List Int} {e : Int} (he : e ≠ 0) : ∀ (x : List Int) (s : S) (i : Nat), (∀ c ∈ x, 48 ≤ c ∧ c ≤ 57) → s.p = 3 → (s.t.k = 0 ∨ s.t.k = 2) → s.t.e = 9 → (Nu.parseF (l.at s.i) s.t.n x).2 = e → (parseF l s i (x ++ r)).2.2 = e
  | [], s, i, hd, hp, hk, h9, h => absurd h.symm he
  | c :: cs, s, i, hd, hp, hk, h9, h => by
    have hcd := hd c (by simp)
    rw [Nu.parseF] at h
    rw [List.cons_append, parse_cons i c _ (by omega), put_in hp]
    by_cases hs : (Nu.stepV s.t.n c (l.at s.i)).2 = 0
    · rw [if_pos hs] at h
      rw [Tk.put_digit hk h9 hs, take_more (by simp)]
      exact parse_great he cs _ _ (fun d hd' => hd d (by simp [hd'])) rfl (.inr rfl) rfl h
    · rw [if_neg hs] at h
      have hb : ¬ Tk.blank c = true := by unfold Tk.blank; simp; omega
      have h5 : Tk.put (l.at s.i) s.t c = ⟨5, 0, (Nu.stepV s.t.n c (l.at s.i)).2, s.t.bg⟩ := by
        unfold Tk.put
        rw [if_neg (by omega), if_neg (by omega), if_neg (by omega), if_neg (by omega), if_neg hb, if_neg hs]
      rw [h5, take_wrong rfl, parse_wrong _ _ rfl]
      exact h
theorem dec_digits {k : Int} (h : 0 ≤ k) : ∀ c ∈ Nu.decV k, 48 ≤ c ∧ c ≤ 57 := by
  intro c hc
  rw [Nu.decV_up h, List.mem_reverse] at hc
  obtain ⟨d, hd, rfl⟩ := List.mem_map.1 hc
  have := Nu.dig_lt (b := 10) (by omega) _ d hd
  omega
theorem parse_dec_great {l : L} {s : S} (hp : s.p = 3) (ht : s.t = Tk.new) {k : Int} (h0 : 0 ≤ k) (h1 : l.at s.i < k) (hl : 0 ≤ l.at s.i) (i : Nat) (r : List Int) : (parseF l s i (Nu.decV k ++ r)).2.2 = 4 := by
  refine parse_great (by decide) _ _ _ (dec_digits h0) hp (by rw [ht]; exact .inl rfl) (by rw [ht]; rfl) ?_
  rw [ht]
  show (Nu.parseF _ 0 _).2 = 4
  rw [Nu.decV_up h0, Nu.parse_dig _ hl k h0, if_neg (by omega)]
/-- what a head may be -/
def May (h : H) : Prop := (1 ≤ h.kd ∧ h.kd ≤ 6) ∧ (1 ≤ h.w ∧ h.w ≤ 4096) ∧ (1 ≤ h.h ∧ h.h ≤ 65536) ∧ (1 ≤ h.m ∧ h.m ≤ 65535) ∧ (bits h.kd = true → h.m = 1)
instance (h : H) : Decidable (May h) := by unfold May; infer_instance
/-- a head's bytes -/
def bytes (h : H) : List Int := [80] ++ Nu.decV h.kd ++ [10] ++ Nu.decV h.w ++ [32] ++ Nu.decV h.h ++ [10] ++ (if bits h.kd = true then [] else Nu.decV h.m ++ [10])
/-- behind P and the kind -/
def s2 (kd : Int) : S := ⟨2, kd, 0, 0, 0, 1, Tk.new, 0⟩
def s3 (kd : Int) : S := ⟨3, kd, 0, 0, 0, 1, Tk.new, 0⟩
theorem parse_kind {l : L} {kd : Int} (h1 : 1 ≤ kd) (h6 : kd ≤ 6) (r : List Int) : parseF l new 0 (80 :: (Nu.decV kd ++ r)) = parseF l (s2 kd) 2 r := by
  rw [Nu.decV_pos (by omega) (by omega), parse_cons _ _ _ (by decide), List.singleton_append]
  have e1 : put l new 80 = ⟨1, 0, 0, 0, 0, 1, Tk.new, 0⟩ := rfl
  rw [e1, parse_cons _ _ _ (by decide)]
  congr 1
  unfold put
  rw [if_neg (by simp), if_pos rfl, if_pos (by omega), show 48 + kd - 48 = kd by omega]
  rfl
theorem num_over {s : S} {k : Int} (h : s.i + 1 = many s.kd) : (s.num k).p = 4 := by unfold S.num; rw [if_pos h]
theorem num_more {s : S} {k : Int} (h : s.i + 1 ≠ many s.kd) : (s.num k).p = 3 := by unfold S.num; rw [if_neg h]
theorem runs_blank {m c : Int} (h : Tk.blank c = true) : Tk.runs m Tk.new [c] Tk.new := by
  refine ⟨by rw [Tk.put_ahead h]; decide, ?_⟩
  rw [Tk.put_ahead h]; rfl
theorem s3_tok (kd : Int) : (s2 kd).tok (s2 kd).t = s3 kd := rfl
theorem many_bits {kd : Int} (h : bits kd = true) : many kd = 2 := by unfold many; rw [if_pos h]
theorem many_more {kd : Int} (h : bits kd ≠ true) : many kd = 3 := by unfold many; rw [if_neg h]
/-- a head's bytes are parsed as it was -/
theorem parse_bytes {l : L} {h : H} (hm : May h) (hw : h.w ≤ l.m0) (hh : h.h ≤ l.m1) (hx : bits h.kd = true ∨ h.m ≤ l.m2) (r : List Int) : parseV l (bytes h ++ r) = (h, ((bytes h).length : Int), 0) := by
  obtain ⟨kd, w, hh', m⟩ := h
  obtain ⟨⟨a1, a2⟩, ⟨b1, b2⟩, ⟨c1, c2⟩, ⟨d1, d2⟩, e1⟩ := hm
  simp only at a1 a2 b1 b2 c1 c2 d1 d2 e1 hw hh hx
  have bl10 : Tk.blank 10 = true := by decide
  have bl32 : Tk.blank 32 = true := by decide
  unfold parseV bytes
  simp only [List.append_assoc, List.cons_append, List.nil_append]
  rw [parse_kind a1 a2, parse_third rfl _ (.inl bl10), s3_tok]
  have r1 := parse_runs (l := l) [10] (s3 kd) 2 (Nu.decV w ++ (32 :: (Nu.decV hh' ++ (10 :: ((if bits kd = true then [] else Nu.decV m ++ [10]) ++ r))))) rfl (runs_blank bl10)
  rw [List.singleton_append] at r1
  rw [r1, show (s3 kd).tok Tk.new = s3 kd from rfl, parse_num (s := s3 kd) rfl rfl b1 hw _ bl32]
  have p1 : ((s3 kd).num w).p = 3 := num_more (by have := many_at kd; show 0 + 1 ≠ many kd; omega)
  have i1 : ((s3 kd).num w).i = 1 := rfl
  rw [parse_num (s := (s3 kd).num w) p1 rfl c1 (by rw [i1]; exact hh) _ bl10]
  by_cases hb : bits kd = true
  · rw [if_pos hb, parse_over _ _ (num_over (by rw [i1]; show 1 + 1 = many kd; rw [many_bits hb]))]
    obtain rfl : m = 1 := e1 hb
    refine Prod.ext rfl (Prod.ext ?_ rfl)
    rw [Nu.decV_pos (n := kd) (by omega) (by omega)]
    simp only [List.length_append, List.length_cons, List.length_nil]
    omega
  · rw [if_neg hb]
    have p2 : (((s3 kd).num w).num hh').p = 3 := num_more (by rw [i1]; show 1 + 1 ≠ many kd; rw [many_more hb]; decide)
    have i2 : (((s3 kd).num w).num hh').i = 2 := rfl
    rw [List.append_assoc, List.singleton_append, parse_num (s := ((s3 kd).num w).num hh') p2 rfl d1 (by rw [i2]; exact hx.resolve_left hb) _ bl10, parse_over _ _ (num_over (by rw [i2]; show 2 + 1 = many kd; rw [many_more hb]))]
    refine Prod.ext rfl (Prod.ext ?_ rfl)
    rw [Nu.decV_pos (n := kd) (by omega) (by omega)]
    simp only [List.length_append, List.length_cons, List.length_nil]
    omega
/-- a head beyond a limit -/
theorem parse_beyond {l : L} (hl : l.Ok) {h : H} (hm : May h) (hw : ¬ (h.w ≤ l.m0 ∧ h.h ≤ l.m1 ∧ (bits h.kd = true ∨ h.m ≤ l.m2))) : (parseV l (bytes h)).2.2 = 4 := by
  obtain ⟨kd, w, hh', m⟩ := h
  obtain ⟨⟨a1, a2⟩, ⟨b1, b2⟩, ⟨c1, c2⟩, ⟨d1, d2⟩, e1⟩ := hm
  obtain ⟨⟨l0, _⟩, ⟨l1, _⟩, ⟨l2, _⟩⟩ := hl
  simp only at a1 a2 b1 b2 c1 c2 d1 d2 e1 hw
  have bl10 : Tk.blank 10 = true := by decide
  have bl32 : Tk.blank 32 = true := by decide
  unfold parseV bytes
  simp only [List.append_assoc, List.cons_append, List.nil_append]
  rw [parse_kind a1 a2, parse_third rfl _ (.inl bl10), s3_tok]
  have r1 := parse_runs (l := l) [10] (s3 kd) 2 (Nu.decV w ++ (32 :: (Nu.decV hh' ++ (10 :: (if bits kd = true then [] else Nu.decV m ++ [10]))))) rfl (runs_blank bl10)
  rw [List.singleton_append] at r1
  rw [r1, show (s3 kd).tok Tk.new = s3 kd from rfl]
  by_cases h0 : w ≤ l.m0
  · rw [parse_num (s := s3 kd) rfl rfl b1 h0 _ bl32]
    have p1 : ((s3 kd).num w).p = 3 := num_more (by have := many_at kd; show 0 + 1 ≠ many kd; omega)
    have i1 : ((s3 kd).num w).i = 1 := rfl
    by_cases h1 : hh' ≤ l.m1
    · rw [parse_num (s := (s3 kd).num w) p1 rfl c1 (by rw [i1]; exact h1) _ bl10]
      have hb : ¬ bits kd = true := fun e => hw ⟨h0, h1, .inl e⟩
      have h2 : l.m2 < m := Int.not_le.1 fun e => hw ⟨h0, h1, .inr e⟩
      rw [if_neg hb]
      have p2 : (((s3 kd).num w).num hh').p = 3 := num_more (by rw [i1]; show 1 + 1 ≠ many kd; rw [many_more hb]; decide)
      have i2 : (((s3 kd).num w).num hh').i = 2 := rfl
      exact parse_dec_great p2 rfl (by omega) (by rw [i2]; exact h2) (by rw [i2]; show 0 ≤ l.m2; omega) _ _
    · exact parse_dec_great p1 rfl (by omega) (by rw [i1]; show l.m1 < hh'; omega) (by rw [i1]; show 0 ≤ l.m1; omega) _ _
  · exact parse_dec_great rfl rfl (by omega) (by show l.m0 < w; omega) (by show 0 ≤ l.m0; omega) _ _
end Hd
end Go.Proofs.Ytflpocnbmpdhiaa

/- A range over a function whose iterator keeps state of its own in cells: what the iterator owes, what the loop's body owes, and the law that joins them. No condition beyond what is named. -/
namespace Go.Proofs.Ytflpocnbmpdhiaa
open Go.RowKit

/-- All that lay outside Z lies as it lay. -/
structure Sep (Z : Nat → Prop) (A B : World) : Prop where
  os : B.os = A.os
  tape : B.tape = A.tape
  output : B.output = A.output
  size : A.heap.size ≤ B.heap.size
  block : ∀ k, k < A.heap.size → ¬ Z k → B.heap[k]? = A.heap[k]?
/-- All that lay in Z lies as it lay. -/
structure Hold (Z : Nat → Prop) (A B : World) : Prop where
  size : A.heap.size ≤ B.heap.size
  block : ∀ k, k < A.heap.size → Z k → B.heap[k]? = A.heap[k]?

theorem Sep.refl (Z : Nat → Prop) (A : World) : Sep Z A A := ⟨rfl, rfl, rfl, Nat.le_refl _, fun _ _ _ => rfl⟩
theorem Sep.trans {Z : Nat → Prop} {A B C : World} (h : Sep Z A B) (k : Sep Z B C) : Sep Z A C :=
  ⟨k.os.trans h.os, k.tape.trans h.tape, k.output.trans h.output, Nat.le_trans h.size k.size, fun i hi hz => (k.block i (Nat.lt_of_lt_of_le hi h.size) hz).trans (h.block i hi hz)⟩
theorem Sep.mono {Z Z' : Nat → Prop} {A B : World} (h : Sep Z A B) (hz : ∀ k, Z k → Z' k) : Sep Z' A B :=
  ⟨h.os, h.tape, h.output, h.size, fun k hk hn => h.block k hk (fun e => hn (hz k e))⟩
theorem Sep.alloc (Z : Nat → Prop) (A : World) (o : Obj) : Sep Z A (A.alloc o) := ⟨rfl, rfl, rfl, by simp, fun k hk _ => Below.heap_alloc _ _ _ hk⟩
theorem Sep.setCell {Z : Nat → Prop} (A : World) {b o : Nat} {p : Option Nat} (hz : Z b) (v : Value) : Sep Z A (A.setCell ⟨b, o, p⟩ v) :=
  ⟨rfl, rfl, rfl, by simp [World.setCell], fun k _ hn => Below.heap_setCell _ _ _ _ (fun e => hn (e ▸ hz))⟩
theorem Sep.putObj {Z : Nat → Prop} (A : World) {b : Nat} (hz : Z b) (o : Obj) : Sep Z A (A.putObj b o) :=
  ⟨rfl, rfl, rfl, by simp, fun k _ hn => World.putObj_heap_other (fun e => hn (e ▸ hz))⟩
theorem Sep.drewN (Z : Nat → Prop) (A : World) (m : Nat) : Sep Z A (A.drewN m) := ⟨rfl, rfl, rfl, Nat.le_refl _, fun _ _ _ => rfl⟩
theorem Sep.drew (Z : Nat → Prop) (A : World) : Sep Z A A.drew := ⟨rfl, rfl, rfl, Nat.le_refl _, fun _ _ _ => rfl⟩
theorem Sep.below {Z : Nat → Prop} {A B : World} {m : Nat} (h : Sep Z A B) (hm : m ≤ A.heap.size) (hz : ∀ k, k < m → ¬ Z k) : Below m A B :=
  ⟨h.os, h.tape, h.output, h.size, fun k hk => h.block k (by omega) (hz k hk)⟩
theorem Sep.cell {Z : Nat → Prop} {A B : World} (h : Sep Z A B) {b o : Nat} {p : Option Nat} {v : Value} (hb : ¬ Z b) (hc : A.cell? ⟨b, o, p⟩ = some v) : B.cell? ⟨b, o, p⟩ = some v :=
  (World.cell?_of_block (w := A) (a := ⟨b, o, p⟩) (h.block b (block_lt_of_cell hc) hb)).trans hc

theorem Sep.frozen {Z : Nat → Prop} {A B : World} (h : Sep Z A B) {b o : Nat} {p : Option Nat} (hb : ¬ Z b) (hl : b < A.heap.size) : B.frozen? ⟨b, o, p⟩ = A.frozen? ⟨b, o, p⟩ :=
  World.frozen?_of_block (w := A) (a := ⟨b, o, p⟩) (h.block b hl hb)

theorem Hold.refl (Z : Nat → Prop) (A : World) : Hold Z A A := ⟨Nat.le_refl _, fun _ _ _ => rfl⟩
theorem Hold.trans {Z : Nat → Prop} {A B C : World} (h : Hold Z A B) (k : Hold Z B C) : Hold Z A C :=
  ⟨Nat.le_trans h.size k.size, fun i hi hz => (k.block i (Nat.lt_of_lt_of_le hi h.size) hz).trans (h.block i hi hz)⟩
theorem Hold.mono {Z Z' : Nat → Prop} {A B : World} (h : Hold Z A B) (hz : ∀ k, Z' k → Z k) : Hold Z' A B := ⟨h.size, fun k hk hn => h.block k hk (hz k hn)⟩
theorem Hold.alloc (Z : Nat → Prop) (A : World) (o : Obj) : Hold Z A (A.alloc o) := ⟨by simp, fun k hk _ => Below.heap_alloc _ _ _ hk⟩
theorem Hold.setCell {Z : Nat → Prop} (A : World) {b o : Nat} {p : Option Nat} (hz : ¬ Z b) (v : Value) : Hold Z A (A.setCell ⟨b, o, p⟩ v) :=
  ⟨by simp [World.setCell], fun k _ hn => Below.heap_setCell _ _ _ _ (fun e => by simp at e; subst e; exact hz hn)⟩
theorem Hold.putObj {Z : Nat → Prop} (A : World) {b : Nat} (hz : ¬ Z b) (o : Obj) : Hold Z A (A.putObj b o) :=
  ⟨by simp, fun k _ hn => World.putObj_heap_other (fun e => hz (e ▸ hn))⟩
theorem Hold.grown {Z : Nat → Prop} {A B : World} {row : Option Nat} (hg : A.grownBy B row) (hr : ∀ k, row = some k → ¬ Z k) : Hold Z A B :=
  ⟨hg.size, fun k hk hz => hg.block k hk (fun e => hr k e.symm hz)⟩
theorem Hold.below {Z : Nat → Prop} {A B : World} {m : Nat} (h : Below m A B) (hz : ∀ k, Z k → k < m) : Hold Z A B := ⟨h.size, fun k _ hn => h.block k (hz k hn)⟩
theorem Hold.drewN (Z : Nat → Prop) (A : World) (m : Nat) : Hold Z A (A.drewN m) := ⟨Nat.le_refl _, fun _ _ _ => rfl⟩
theorem Hold.cell {Z : Nat → Prop} {A B : World} (h : Hold Z A B) {b o : Nat} {p : Option Nat} {v : Value} (hb : Z b) (hc : A.cell? ⟨b, o, p⟩ = some v) : B.cell? ⟨b, o, p⟩ = some v :=
  (World.cell?_of_block (w := A) (a := ⟨b, o, p⟩) (h.block b (block_lt_of_cell hc) hb)).trans hc
theorem Hold.frozen {Z : Nat → Prop} {A B : World} (h : Hold Z A B) {b o : Nat} {p : Option Nat} (hb : Z b) (hl : b < A.heap.size) : B.frozen? ⟨b, o, p⟩ = A.frozen? ⟨b, o, p⟩ :=
  World.frozen?_of_block (w := A) (a := ⟨b, o, p⟩) (h.block b hl hb)

/-- WHAT AN ITERATOR OWES: over the blocks Z, which are its own, it hands out xs, one by one, and turns nothing else. -/
def Gives {α : Type} (F : Fence) (n : Nat) (P : Program) (g : Nat) (lb : Array Value) (encs : α → Array Value) (Z : Nat → Prop) (xs : List α) (W0 : World) : Prop :=
  ∀ (l : Nat) (J Jx : List α → World → Prop) (W : World), Hold Z W0 W →
    (∀ s A B, J s A → Sep Z A B → J s B) → (∀ s A B, Jx s A → Sep Z A B → Jx s B) →
    (∀ pre x rest W1, xs = pre ++ x :: rest → J pre W1 → YieldAt F (n - 1) P l (encs x) W1 fun e W' => Hold Z W1 W' ∧
      ((e = .returned (.bool true) ∧ J (pre ++ [x]) W') ∨ (e = .returned (.bool false) ∧ Jx (pre ++ [x]) W'))) →
    J [] W → CallsIn F n P g (#[.func (.yield l) #[] #[]] ++ lb) W fun e W' => (∃ v, e = .returned v) ∧ (J xs W' ∨ ∃ pre, pre <+: xs ∧ Jx pre W')

/-- The same of an iterator that begins behind the loop's own two blocks: Z may hold all blocks that are made from then on; Zs is what of Z it may turn itself. -/
def GivesN {α : Type} (F : Fence) (n : Nat) (P : Program) (g : Nat) (lb : Array Value) (encs : α → Array Value) (Z Zs : Nat → Prop) (xs : List α) (W0 : World) : Prop :=
  ∀ (l : Nat) (J Jx : List α → World → Prop) (W : World), W0.heap.size + 2 ≤ W.heap.size → Hold Z W0 W →
    (∀ s A B, J s A → Sep Zs A B → J s B) → (∀ s A B, Jx s A → Sep Zs A B → Jx s B) →
    (∀ pre x rest W1, xs = pre ++ x :: rest → J pre W1 → YieldAt F (n - 1) P l (encs x) W1 fun e W' => Hold Z W1 W' ∧
      ((e = .returned (.bool true) ∧ J (pre ++ [x]) W') ∨ (e = .returned (.bool false) ∧ Jx (pre ++ [x]) W'))) →
    J [] W → CallsIn F n P g (#[.func (.yield l) #[] #[]] ++ lb) W fun e W' => (∃ v, e = .returned v) ∧ (J xs W' ∨ ∃ pre, pre <+: xs ∧ Jx pre W')
theorem Gives.n {α : Type} {F : Fence} {n : Nat} {P : Program} {g : Nat} {lb : Array Value} {encs : α → Array Value} {Z : Nat → Prop} {xs : List α} {W0 : World} (h : Gives F n P g lb encs Z xs W0) : GivesN F n P g lb encs Z Z xs W0 :=
  fun l J Jx W _ => h l J Jx W

/-- How a round may be left: nothing of the iterator's and of the loop's own has turned. -/
def roundEnd {α : Type} (Z : Nat → Prop) (I : List α → World → Prop) (Ix : Code → List α → World → Prop) (xs : List α) (W : World) : Exit → Act → World → Prop
  | .normal, _, W' => Hold Z W W' ∧ I xs W'
  | .ret, _, W' => Hold Z W W' ∧ Ix .ret xs W'
  | .exit id, _, W' => Hold Z W W' ∧ Ix (.exit id) xs W'
  | .goto t, _, W' => Hold Z W W' ∧ Ix (.goto t) xs W'
  | .panic _, _, _ => False
  | .outgrown, _, _ => False

variable {F : Fence} {n : Nat} {P : Program}

theorem range_ownN {α : Type} {g : Operand} {ps : Array Tmp} {assign body : Code} {Q : Exit → Act → World → Prop} {a : Act} {w : World}
    (hro : F.round = none) (h1 : 1 ≤ n) {gf : Nat} {lb : Array Value} (hg : a.eval g = .func (.func gf) #[] lb) (hFg : F.fn gf) (eg : ∀ args w, (callFunc gf args).run P w = .ok (.enter gf args) w)
    {encs : α → Array Value} {Z Zs : Nat → Prop} {xs : List α} (hseq : GivesN F (n - 1) P gf lb encs Z Zs xs w) (hsub : ∀ k, Zs k → Z k) (nZD : ¬ Z w.heap.size) (nZL : ¬ Z (w.heap.size + 1)) (hps : ∀ x, (encs x).size = ps.size)
    (I : List α → World → Prop) (Ix : Code → List α → World → Prop)
    (hI : ∀ s A B, I s A → Sep (fun k => Zs k ∨ k = w.heap.size ∨ k = w.heap.size + 1) A B → I s B)
    (hIx : ∀ c s A B, Ix c s A → Sep (fun k => Zs k ∨ k = w.heap.size ∨ k = w.heap.size + 1) A B → Ix c s B)
    (h0 : I [] w) (Ax : α → Act → World → Prop) (hAx : ∀ x a' A B, Ax x a' A → Sep (fun k => Zs k ∨ k = w.heap.size ∨ k = w.heap.size + 1) A B → Ax x a' B)
    (hassign : ∀ (l : Nat) (pre : List α) (x : α) (W : World) (K : Act → World → Prop), I pre W → w.heap.size + 1 < W.heap.size →
      (∀ a' W', Hold (fun k => Z k ∨ k = w.heap.size ∨ k = w.heap.size + 1) W W' → I pre W' → Ax x a' W' → K a' W') →
      assign.wpIn (F.inRound l) (n - 1 - 1) P (Exit.then K (fun _ _ _ => False)) { tmps := (ps.zip (encs x)).foldl (fun t (p, v) => t.setIfInBounds p v) a.tmps, defers := [] } W)
    (hbody : ∀ (l : Nat) (pre : List α) (x : α) (rest : List α) (a' : Act) (W : World), xs = pre ++ x :: rest → w.heap.size + 1 < W.heap.size → I pre W → Ax x a' W →
      body.wpIn (F.inRound l) (n - 1 - 1) P (roundEnd (fun k => Z k ∨ k = w.heap.size ∨ k = w.heap.size + 1) I Ix (pre ++ [x]) W) a' W)
    (hdone : ∀ (W : World), I xs W → W.heap[w.heap.size]? = some (.deferred (some [])) → Q .normal { a with defers := { target := .collected w.heap.size, args := #[] } :: a.defers } W)
    (hstop : ∀ (c : Code) (pre : List α) (W : World), pre <+: xs → Ix c pre W → W.heap[w.heap.size]? = some (.deferred (some [])) → c.wpIn F n P Q { a with defers := { target := .collected w.heap.size, args := #[] } :: a.defers } W) :
    (Code.rangeFunc g ps assign body).wpIn F n P Q a w := by
  refine wpIn_rangeFunc fun fn hfn => ?_
  rw [hro]
  -- the loop's record, in a state and with a jump that waits
  obtain ⟨rec, hrec⟩ : ∃ rec : LoopState → Option Code → Loop, rec = fun s j => { state := s, pending := j, fn, tmps := a.tmps, params := ps, assign, body, defers := w.heap.size } := ⟨_, rfl⟩
  have hrs : ∀ s j, (rec s j).state = s := fun s j => by rw [hrec]
  have hrp : ∀ s j, (rec s j).pending = j := fun s j => by rw [hrec]
  have hf1 : (rec .ready none).params = ps := by rw [hrec]
  have hf2 : (rec .ready none).fn = fn := by rw [hrec]
  have hf3 : (rec .ready none).tmps = a.tmps := by rw [hrec]
  have hf4 : (rec .ready none).assign = assign := by rw [hrec]
  have hf5 : (rec .ready none).body = body := by rw [hrec]
  have hset : ∀ s j s' j', ({ rec s j with state := s', pending := j' } : Loop) = rec s' j' := fun s j s' j' => by rw [hrec]
  have hset1 : ∀ s j s', ({ rec s j with state := s' } : Loop) = rec s' j := fun s j s' => by rw [hrec]
  generalize hW1 : (w.alloc (.deferred (some []))).alloc (.loop (rec .ready none)) = W1
  have sz1 : W1.heap.size = w.heap.size + 2 := by rw [← hW1]; simp
  have hL1 : W1.heap[w.heap.size + 1]? = some (.loop (rec .ready none)) := by
    rw [← hW1]; have := World.alloc_heap_new (w.alloc (.deferred (some []))) (.loop (rec .ready none)); rwa [World.size_alloc] at this
  have hD1 : W1.heap[w.heap.size]? = some (.deferred (some [])) := by
    rw [← hW1, Below.heap_alloc _ _ _ (by simp)]; exact World.alloc_heap_new w _
  have hI1 : I [] W1 := by rw [← hW1]; exact hI _ _ _ (hI _ _ _ h0 (.alloc _ _ _)) (.alloc _ _ _)
  have hH1 : Hold Z w W1 := by rw [← hW1]; exact (Hold.alloc Z w _).trans (.alloc Z _ _)
  refine ⟨w.heap.size + 1, [{ target := .collected w.heap.size, args := #[] }], W1, { target := .fn (.func gf) lb, args := #[.func (.yield (w.heap.size + 1)) #[] #[]] }, W1, gf,
    #[.func (.yield (w.heap.size + 1)) #[] #[]] ++ lb, W1, ?_, ?_, ?_, ?_, fun _ => h1, ?_⟩
  · rw [← hW1, hrec]; exact run_enterLoop_outer _ _ _ _ _
  · simp only [resolve, hg]; simp [go_sem]
  · intro f' hf'; simp [Target.leads] at hf'; subst hf'; exact hFg
  · simp [invoke, go_sem, eg]
  -- the iterator, at the caller's invariant and the loop's two blocks
  have keep : ∀ {o : Obj} {A B : World} {k : Nat}, ¬ Zs k → A.heap[k]? = some o → Sep Zs A B → B.heap[k]? = some o := fun hk ho hs => (hs.block _ (Array.getElem?_eq_some_iff.1 ho).1 hk).trans ho
  have wide : ∀ {A B : World}, Sep Zs A B → Sep (fun k => Zs k ∨ k = w.heap.size ∨ k = w.heap.size + 1) A B := fun h => h.mono fun _ e => .inl e
  have iz : ∀ {A : World} (o : Obj), Sep (fun k => Zs k ∨ k = w.heap.size ∨ k = w.heap.size + 1) A (A.putObj (w.heap.size + 1) o) := fun o => .putObj _ (.inr (.inr rfl)) o
  have hold : ∀ {A B : World}, Hold (fun k => Z k ∨ k = w.heap.size ∨ k = w.heap.size + 1) A B → Hold Z A B := fun h => h.mono fun _ e => .inl e
  refine (hseq (w.heap.size + 1)
    (fun pre W => I pre W ∧ W.heap[w.heap.size + 1]? = some (.loop (rec .ready none)) ∧ W.heap[w.heap.size]? = some (.deferred (some [])))
    (fun pre W => ∃ c, Ix c pre W ∧ W.heap[w.heap.size + 1]? = some (.loop (rec .done (some c))) ∧ W.heap[w.heap.size]? = some (.deferred (some [])))
    W1 (by omega) hH1 (fun s A B h hs => ⟨hI s A B h.1 (wide hs), keep (fun e => nZL (hsub _ e)) h.2.1 hs, keep (fun e => nZD (hsub _ e)) h.2.2 hs⟩)
    (fun s A B ⟨c, h, hl, hd⟩ hs => ⟨c, hIx c s A B h (wide hs), keep (fun e => nZL (hsub _ e)) hl hs, keep (fun e => nZD (hsub _ e)) hd hs⟩) ?_ ⟨hI1, hL1, hD1⟩).mono ?_
  · rintro pre x rest W hx ⟨hi, hl, hd⟩
    have hlt := (Array.getElem?_eq_some_iff.1 hl).1
    have hy := run_yield (P := P) (args := encs x) hl (by rw [hf1]; exact hps x)
    rw [hf1, hf2, hf3, hf4, hf5] at hy
    refine ⟨fn, _, assign, body, hy, roundIn_of_wpIn hfn ?_⟩
    refine hassign _ pre x W _ hi hlt fun a' Wa ha hia hax => ?_
    have hla : Wa.heap[w.heap.size + 1]? = some (.loop (rec .ready none)) := (ha.block _ hlt (.inr (.inr rfl))).trans hl
    have hda : Wa.heap[w.heap.size]? = some (.deferred (some [])) := (ha.block _ (by omega) (.inr (.inl rfl))).trans hd
    have hlta : w.heap.size + 1 < Wa.heap.size := (Array.getElem?_eq_some_iff.1 hla).1
    refine ⟨_, run_beginRound hla (hrs _ _), ?_⟩
    rw [hset1]
    generalize hWb : Wa.putObj (w.heap.size + 1) (.loop (rec .busy none)) = Wb
    have hlb : Wb.heap[w.heap.size + 1]? = some (.loop (rec .busy none)) := by rw [← hWb]; exact World.putObj_heap_same hlta
    have hdb : Wb.heap[w.heap.size]? = some (.deferred (some [])) := by rw [← hWb, World.putObj_heap_other (by omega)]; exact hda
    have hib : I pre Wb := by rw [← hWb]; exact hI _ _ _ hia (iz _)
    have hxb : Ax x a' Wb := by rw [← hWb]; exact hAx _ _ _ _ hax (iz _)
    have hWab : Hold Z W Wb := (hold ha).trans (by rw [← hWb]; exact .putObj _ nZL _)
    have hltb : w.heap.size + 1 < Wb.heap.size := (Array.getElem?_eq_some_iff.1 hlb).1
    refine wpIn_mono (hbody _ pre x rest a' Wb hx hltb hib hxb) ?_
    have fin : ∀ (j : Option Code) (W3 : World), Hold (fun k => Z k ∨ k = w.heap.size ∨ k = w.heap.size + 1) Wb W3 →
        ∃ W4, (Instr.endRound (w.heap.size + 1) j).run P W3 = .ok (.bool j.isNone) W4 ∧ Sep (fun k => Zs k ∨ k = w.heap.size ∨ k = w.heap.size + 1) W3 W4 ∧ Hold Z W W4 ∧
          W4.heap[w.heap.size + 1]? = some (.loop (rec (if j.isNone then .ready else .done) j)) ∧ W4.heap[w.heap.size]? = some (.deferred (some [])) := fun j W3 h3 => by
      have hl3 : W3.heap[w.heap.size + 1]? = some (.loop (rec .busy none)) := (h3.block _ hltb (.inr (.inr rfl))).trans hlb
      have hd3 : W3.heap[w.heap.size]? = some (.deferred (some [])) := (h3.block _ (by omega) (.inr (.inl rfl))).trans hdb
      refine ⟨_, run_endRound j hl3, iz _, hWab.trans ((hold h3).trans (.putObj _ nZL _)), ?_, ?_⟩
      · rw [hset]; exact World.putObj_heap_same (Array.getElem?_eq_some_iff.1 hl3).1
      · rw [World.putObj_heap_other (by omega)]; exact hd3
    rintro e a3 W3 hp
    cases e with
    | normal => obtain ⟨h3, hi3⟩ := hp; obtain ⟨W4, hr, hs, hh, hl4, hd4⟩ := fin none W3 h3; exact ⟨_, W4, hr, hh, .inl ⟨rfl, hI _ _ _ hi3 hs, hl4, hd4⟩⟩
    | ret => obtain ⟨h3, hi3⟩ := hp; obtain ⟨W4, hr, hs, hh, hl4, hd4⟩ := fin (some .ret) W3 h3; exact ⟨_, W4, hr, hh, .inr ⟨rfl, _, hIx _ _ _ _ hi3 hs, hl4, hd4⟩⟩
    | exit id => obtain ⟨h3, hi3⟩ := hp; obtain ⟨W4, hr, hs, hh, hl4, hd4⟩ := fin (some (.exit id)) W3 h3; exact ⟨_, W4, hr, hh, .inr ⟨rfl, _, hIx _ _ _ _ hi3 hs, hl4, hd4⟩⟩
    | goto t => obtain ⟨h3, hi3⟩ := hp; obtain ⟨W4, hr, hs, hh, hl4, hd4⟩ := fin (some (.goto t)) W3 h3; exact ⟨_, W4, hr, hh, .inr ⟨rfl, _, hIx _ _ _ _ hi3 hs, hl4, hd4⟩⟩
    | panic ch => exact hp.elim
    | outgrown => exact hp.elim
  · rintro e W2 ⟨⟨v, rfl⟩, hJ⟩
    rcases hJ with ⟨hi, hl, hd⟩ | ⟨pre, hpre, c, hi, hl, hd⟩
    · exact ⟨none, _, by rw [run_endLoop hl (by rw [hrs]; simp), hrp], hdone _ (hI _ _ _ hi (iz _)) (by rw [World.putObj_heap_other (by omega)]; exact hd)⟩
    · exact ⟨some c, _, by rw [run_endLoop hl (by rw [hrs]; simp), hrp], hstop c pre _ hpre (hIx _ _ _ _ hi (iz _)) (by rw [World.putObj_heap_other (by omega)]; exact hd)⟩

theorem range_own {α : Type} {g : Operand} {ps : Array Tmp} {assign body : Code} {Q : Exit → Act → World → Prop} {a : Act} {w : World}
    (hro : F.round = none) (h1 : 1 ≤ n) {gf : Nat} {lb : Array Value} (hg : a.eval g = .func (.func gf) #[] lb) (hFg : F.fn gf) (eg : ∀ args w, (callFunc gf args).run P w = .ok (.enter gf args) w)
    {encs : α → Array Value} {Z : Nat → Prop} {xs : List α} (hseq : Gives F (n - 1) P gf lb encs Z xs w) (hZ : ∀ k, Z k → k < w.heap.size) (hps : ∀ x, (encs x).size = ps.size)
    (I : List α → World → Prop) (Ix : Code → List α → World → Prop)
    (hI : ∀ s A B, I s A → Sep (fun k => Z k ∨ k = w.heap.size ∨ k = w.heap.size + 1) A B → I s B)
    (hIx : ∀ c s A B, Ix c s A → Sep (fun k => Z k ∨ k = w.heap.size ∨ k = w.heap.size + 1) A B → Ix c s B)
    (h0 : I [] w) (Ax : α → Act → World → Prop) (hAx : ∀ x a' A B, Ax x a' A → Sep (fun k => Z k ∨ k = w.heap.size ∨ k = w.heap.size + 1) A B → Ax x a' B)
    (hassign : ∀ (l : Nat) (pre : List α) (x : α) (W : World) (K : Act → World → Prop), I pre W → w.heap.size + 1 < W.heap.size →
      (∀ a' W', Hold (fun k => Z k ∨ k = w.heap.size ∨ k = w.heap.size + 1) W W' → I pre W' → Ax x a' W' → K a' W') →
      assign.wpIn (F.inRound l) (n - 1 - 1) P (Exit.then K (fun _ _ _ => False)) { tmps := (ps.zip (encs x)).foldl (fun t (p, v) => t.setIfInBounds p v) a.tmps, defers := [] } W)
    (hbody : ∀ (l : Nat) (pre : List α) (x : α) (rest : List α) (a' : Act) (W : World), xs = pre ++ x :: rest → w.heap.size + 1 < W.heap.size → I pre W → Ax x a' W →
      body.wpIn (F.inRound l) (n - 1 - 1) P (roundEnd (fun k => Z k ∨ k = w.heap.size ∨ k = w.heap.size + 1) I Ix (pre ++ [x]) W) a' W)
    (hdone : ∀ (W : World), I xs W → W.heap[w.heap.size]? = some (.deferred (some [])) → Q .normal { a with defers := { target := .collected w.heap.size, args := #[] } :: a.defers } W)
    (hstop : ∀ (c : Code) (pre : List α) (W : World), pre <+: xs → Ix c pre W → W.heap[w.heap.size]? = some (.deferred (some [])) → c.wpIn F n P Q { a with defers := { target := .collected w.heap.size, args := #[] } :: a.defers } W) :
    (Code.rangeFunc g ps assign body).wpIn F n P Q a w :=
  range_ownN hro h1 hg hFg eg hseq.n (fun _ e => e) (fun e => by have := hZ _ e; omega) (fun e => by have := hZ _ e; omega) hps I Ix hI hIx h0 Ax hAx hassign hbody hdone hstop

/-- The same where a round's variable lies in a slot: what the assignment leaves is named ahead of the world. -/
theorem range_own1N {α : Type} {g : Operand} {ps : Array Tmp} {assign body : Code} {Q : Exit → Act → World → Prop} {a : Act} {w : World}
    (hro : F.round = none) (h1 : 1 ≤ n) {gf : Nat} {lb : Array Value} (hg : a.eval g = .func (.func gf) #[] lb) (hFg : F.fn gf) (eg : ∀ args w, (callFunc gf args).run P w = .ok (.enter gf args) w)
    {encs : α → Array Value} {Z Zs : Nat → Prop} {xs : List α} (hseq : GivesN F (n - 1) P gf lb encs Z Zs xs w) (hsub : ∀ k, Zs k → Z k) (nZD : ¬ Z w.heap.size) (nZL : ¬ Z (w.heap.size + 1)) (hps : ∀ x, (encs x).size = ps.size)
    (I : List α → World → Prop) (Ix : Code → List α → World → Prop)
    (hI : ∀ s A B, I s A → Sep (fun k => Zs k ∨ k = w.heap.size ∨ k = w.heap.size + 1) A B → I s B)
    (hIx : ∀ c s A B, Ix c s A → Sep (fun k => Zs k ∨ k = w.heap.size ∨ k = w.heap.size + 1) A B → Ix c s B)
    (h0 : I [] w) (a₁ : α → Act)
    (hassign : ∀ (l : Nat) (x : α) (W : World) (K : Act → World → Prop), K (a₁ x) W →
      assign.wpIn (F.inRound l) (n - 1 - 1) P (Exit.then K (fun _ _ _ => False)) { tmps := (ps.zip (encs x)).foldl (fun t (p, v) => t.setIfInBounds p v) a.tmps, defers := [] } W)
    (hbody : ∀ (l : Nat) (pre : List α) (x : α) (rest : List α) (W : World), xs = pre ++ x :: rest → w.heap.size + 1 < W.heap.size → I pre W →
      body.wpIn (F.inRound l) (n - 1 - 1) P (roundEnd (fun k => Z k ∨ k = w.heap.size ∨ k = w.heap.size + 1) I Ix (pre ++ [x]) W) (a₁ x) W)
    (hdone : ∀ (W : World), I xs W → W.heap[w.heap.size]? = some (.deferred (some [])) → Q .normal { a with defers := { target := .collected w.heap.size, args := #[] } :: a.defers } W)
    (hstop : ∀ (c : Code) (pre : List α) (W : World), pre <+: xs → Ix c pre W → W.heap[w.heap.size]? = some (.deferred (some [])) → c.wpIn F n P Q { a with defers := { target := .collected w.heap.size, args := #[] } :: a.defers } W) :
    (Code.rangeFunc g ps assign body).wpIn F n P Q a w :=
  range_ownN hro h1 hg hFg eg hseq hsub nZD nZL hps I Ix hI hIx h0 (fun x a' _ => a' = a₁ x) (fun _ _ _ _ h _ => h)
    (fun l pre x W K hi _ hK => hassign l x W K (hK _ _ (.refl _ _) hi rfl)) (fun l pre x rest a' W hx hlt hi ha => by subst ha; exact hbody l pre x rest W hx hlt hi) hdone hstop

/-- The same in a plain walk. -/
theorem range_wpN {α : Type} {g : Operand} {ps : Array Tmp} {assign body : Code} {Q : Exit → Act → World → Prop} {a : Act} {w : World}
    {gf : Nat} {lb : Array Value} (hg : a.eval g = .func (.func gf) #[] lb) (eg : ∀ args w, (callFunc gf args).run P w = .ok (.enter gf args) w)
    {encs : α → Array Value} {Z Zs : Nat → Prop} {xs : List α} (hseq : GivesN Fence.wide 2 P gf lb encs Z Zs xs w) (hsub : ∀ k, Zs k → Z k) (nZD : ¬ Z w.heap.size) (nZL : ¬ Z (w.heap.size + 1)) (hps : ∀ x, (encs x).size = ps.size)
    (I : List α → World → Prop) (Ix : Code → List α → World → Prop)
    (hI : ∀ s A B, I s A → Sep (fun k => Zs k ∨ k = w.heap.size ∨ k = w.heap.size + 1) A B → I s B)
    (hIx : ∀ c s A B, Ix c s A → Sep (fun k => Zs k ∨ k = w.heap.size ∨ k = w.heap.size + 1) A B → Ix c s B)
    (h0 : I [] w) (a₁ : α → Act)
    (hassign : ∀ (l : Nat) (x : α) (W : World) (K : Act → World → Prop), K (a₁ x) W →
      assign.wpIn (Fence.wide.inRound l) 1 P (Exit.then K (fun _ _ _ => False)) { tmps := (ps.zip (encs x)).foldl (fun t (p, v) => t.setIfInBounds p v) a.tmps, defers := [] } W)
    (hbody : ∀ (l : Nat) (pre : List α) (x : α) (rest : List α) (W : World), xs = pre ++ x :: rest → w.heap.size + 1 < W.heap.size → I pre W →
      body.wpIn (Fence.wide.inRound l) 1 P (roundEnd (fun k => Z k ∨ k = w.heap.size ∨ k = w.heap.size + 1) I Ix (pre ++ [x]) W) (a₁ x) W)
    (hdone : ∀ (W : World), I xs W → W.heap[w.heap.size]? = some (.deferred (some [])) → Q .normal { a with defers := { target := .collected w.heap.size, args := #[] } :: a.defers } W)
    (hstop : ∀ (c : Code) (pre : List α) (W : World), pre <+: xs → Ix c pre W → W.heap[w.heap.size]? = some (.deferred (some [])) → c.wp P Q { a with defers := { target := .collected w.heap.size, args := #[] } :: a.defers } W) :
    (Code.rangeFunc g ps assign body).wp P Q a w :=
  (wpIn_wide (n := 3)).1 (range_own1N rfl (by omega) hg trivial eg hseq hsub nZD nZL hps I Ix hI hIx h0 a₁ hassign hbody hdone (fun c pre W h1 h2 h3 => wpIn_wide.2 (hstop c pre W h1 h2 h3)))

/-- The same where a round's variable lies in a slot: what the assignment leaves is named ahead of the world. -/
theorem range_own1 {α : Type} {g : Operand} {ps : Array Tmp} {assign body : Code} {Q : Exit → Act → World → Prop} {a : Act} {w : World}
    (hro : F.round = none) (h1 : 1 ≤ n) {gf : Nat} {lb : Array Value} (hg : a.eval g = .func (.func gf) #[] lb) (hFg : F.fn gf) (eg : ∀ args w, (callFunc gf args).run P w = .ok (.enter gf args) w)
    {encs : α → Array Value} {Z : Nat → Prop} {xs : List α} (hseq : Gives F (n - 1) P gf lb encs Z xs w) (hZ : ∀ k, Z k → k < w.heap.size) (hps : ∀ x, (encs x).size = ps.size)
    (I : List α → World → Prop) (Ix : Code → List α → World → Prop)
    (hI : ∀ s A B, I s A → Sep (fun k => Z k ∨ k = w.heap.size ∨ k = w.heap.size + 1) A B → I s B)
    (hIx : ∀ c s A B, Ix c s A → Sep (fun k => Z k ∨ k = w.heap.size ∨ k = w.heap.size + 1) A B → Ix c s B)
    (h0 : I [] w) (a₁ : α → Act)
    (hassign : ∀ (l : Nat) (x : α) (W : World) (K : Act → World → Prop), K (a₁ x) W →
      assign.wpIn (F.inRound l) (n - 1 - 1) P (Exit.then K (fun _ _ _ => False)) { tmps := (ps.zip (encs x)).foldl (fun t (p, v) => t.setIfInBounds p v) a.tmps, defers := [] } W)
    (hbody : ∀ (l : Nat) (pre : List α) (x : α) (rest : List α) (W : World), xs = pre ++ x :: rest → w.heap.size + 1 < W.heap.size → I pre W →
      body.wpIn (F.inRound l) (n - 1 - 1) P (roundEnd (fun k => Z k ∨ k = w.heap.size ∨ k = w.heap.size + 1) I Ix (pre ++ [x]) W) (a₁ x) W)
    (hdone : ∀ (W : World), I xs W → W.heap[w.heap.size]? = some (.deferred (some [])) → Q .normal { a with defers := { target := .collected w.heap.size, args := #[] } :: a.defers } W)
    (hstop : ∀ (c : Code) (pre : List α) (W : World), pre <+: xs → Ix c pre W → W.heap[w.heap.size]? = some (.deferred (some [])) → c.wpIn F n P Q { a with defers := { target := .collected w.heap.size, args := #[] } :: a.defers } W) :
    (Code.rangeFunc g ps assign body).wpIn F n P Q a w :=
  range_own hro h1 hg hFg eg hseq hZ hps I Ix hI hIx h0 (fun x a' _ => a' = a₁ x) (fun _ _ _ _ h _ => h)
    (fun l pre x W K hi _ hK => hassign l x W K (hK _ _ (.refl _ _) hi rfl)) (fun l pre x rest a' W hx hlt hi ha => by subst ha; exact hbody l pre x rest W hx hlt hi) hdone hstop

/-- The same in a plain walk. -/
theorem range_wp {α : Type} {g : Operand} {ps : Array Tmp} {assign body : Code} {Q : Exit → Act → World → Prop} {a : Act} {w : World}
    {gf : Nat} {lb : Array Value} (hg : a.eval g = .func (.func gf) #[] lb) (eg : ∀ args w, (callFunc gf args).run P w = .ok (.enter gf args) w)
    {encs : α → Array Value} {Z : Nat → Prop} {xs : List α} (hseq : Gives Fence.wide 2 P gf lb encs Z xs w) (hZ : ∀ k, Z k → k < w.heap.size) (hps : ∀ x, (encs x).size = ps.size)
    (I : List α → World → Prop) (Ix : Code → List α → World → Prop)
    (hI : ∀ s A B, I s A → Sep (fun k => Z k ∨ k = w.heap.size ∨ k = w.heap.size + 1) A B → I s B)
    (hIx : ∀ c s A B, Ix c s A → Sep (fun k => Z k ∨ k = w.heap.size ∨ k = w.heap.size + 1) A B → Ix c s B)
    (h0 : I [] w) (a₁ : α → Act)
    (hassign : ∀ (l : Nat) (x : α) (W : World) (K : Act → World → Prop), K (a₁ x) W →
      assign.wpIn (Fence.wide.inRound l) 1 P (Exit.then K (fun _ _ _ => False)) { tmps := (ps.zip (encs x)).foldl (fun t (p, v) => t.setIfInBounds p v) a.tmps, defers := [] } W)
    (hbody : ∀ (l : Nat) (pre : List α) (x : α) (rest : List α) (W : World), xs = pre ++ x :: rest → w.heap.size + 1 < W.heap.size → I pre W →
      body.wpIn (Fence.wide.inRound l) 1 P (roundEnd (fun k => Z k ∨ k = w.heap.size ∨ k = w.heap.size + 1) I Ix (pre ++ [x]) W) (a₁ x) W)
    (hdone : ∀ (W : World), I xs W → W.heap[w.heap.size]? = some (.deferred (some [])) → Q .normal { a with defers := { target := .collected w.heap.size, args := #[] } :: a.defers } W)
    (hstop : ∀ (c : Code) (pre : List α) (W : World), pre <+: xs → Ix c pre W → W.heap[w.heap.size]? = some (.deferred (some [])) → c.wp P Q { a with defers := { target := .collected w.heap.size, args := #[] } :: a.defers } W) :
    (Code.rangeFunc g ps assign body).wp P Q a w :=
  (wpIn_wide (n := 3)).1 (range_own1 rfl (by omega) hg trivial eg hseq hZ hps I Ix hI hIx h0 a₁ hassign hbody hdone (fun c pre W h1 h2 h3 => wpIn_wide.2 (hstop c pre W h1 h2 h3)))

/-- A function that holds a range over a function, from its body's plain walk. -/
theorem calls_of_marks {f : FuncId} {fn : Func} {c : Code} {args : Array Value} {w : World} {R : Ending → World → Prop} (hf : P.funcs[f]? = some fn) (hb : fn.body = some c)
    (h : c.wp P (bodyPostM Fence.wide 3 P fn R) { tmps := args ++ Array.replicate (fn.ntmps - args.size) undef, defers := [] } w) : Calls P f args w R :=
  (callsIn_wide (n := 3)).1 (callsIn_of_wp_marks hf hb trivial (wpIn_wide.2 h) rfl)

/-- At the function's return: the block for the rounds' deferred calls is shut. -/
theorem ret_mark {fn : Func} {tmps : Array Value} {R : Ending → World → Prop} {D : Nat} {w : World} {v : Value} (hK : w.heap[D]? = some (.deferred (some [])))
    (hres : (results fn tmps).run P (w.putObj D (.deferred none)) = .ok v (w.putObj D (.deferred none))) (hR : R (.returned v) (w.putObj D (.deferred none))) :
    bodyPostM F n P fn R .ret { tmps := tmps, defers := [{ target := .collected D, args := #[] }] } w :=
  ⟨by simp, .inl ⟨D, _, rfl, run_takeDeferred hK, _, hres, hR⟩⟩
theorem Below.putObj {m : Nat} {a w : World} {D : Nat} (h : Below m a w) (hD : m ≤ D) (o : Obj) : Below m a (w.putObj D o) :=
  h.trans ⟨rfl, rfl, rfl, by simp, fun k hk => World.putObj_heap_other (by omega)⟩
end Go.Proofs.Ytflpocnbmpdhiaa

/- A variable's cell that holds a slice of the call's own, through a loop's rounds; and what is known of a slice of integers of any kind. No condition. -/
namespace Go.Proofs.Ytflpocnbmpdhiaa
open Go.RowKit Go.Shelf

theorem boxed_sep {Z : Nat → Prop} {A B : World} {b : Nat} {t : TypeId} {v : Value} (h : Boxed A b t v) (hs : Sep Z A B) (hz : ¬ Z b) : Boxed B b t v := (hs.block b h.lt hz).trans h
theorem ownsRow_sep {Z : Nat → Prop} {A B : World} {base : Nat} {e : TypeId} {size : Nat} {v : Value} {n : Nat} {xs : List Value} (h : A.ownsRow base e size v n xs) (hs : Sep Z A B) (hz : ∀ k, base ≤ k → ¬ Z k) : B.ownsRow base e size v n xs := by
  obtain ⟨h1, h2⟩ := h
  refine ⟨h1, ?_⟩
  rcases h2 with h2 | ⟨g, cap, cur, rfl, hb, hg, r⟩
  · exact .inl h2
  · exact .inr ⟨g, cap, cur, rfl, hb, (hs.block g (Array.getElem?_eq_some_iff.1 hg).1 (hz g hb)).trans hg, r⟩
theorem ownsRow_base {A : World} {base base' : Nat} {e : TypeId} {size : Nat} {v : Value} {n : Nat} {xs : List Value} (h : A.ownsRow base e size v n xs) (hb : base' ≤ base) : A.ownsRow base' e size v n xs := by
  obtain ⟨h1, h2⟩ := h
  refine ⟨h1, ?_⟩
  rcases h2 with h2 | ⟨g, cap, cur, rfl, hg, r⟩
  · exact .inl h2
  · exact .inr ⟨g, cap, cur, rfl, Nat.le_trans hb hg, r⟩
/-- 'x = append(x, ..)', x in a cell of its own: all that a round owes behind it. -/
theorem pushed {W w1 : World} {base B : Nat} {t e : TypeId} {size : Nat} {v v' : Value} {k m : Nat} {xs ys : List Value} {tmp : Obj}
    (hv : Boxed W B t v) (hte : t ≠ e) (hrow : W.ownsRow base e size v k xs) (hown' : w1.ownsRow base e size v' m ys) (hgrow : (W.alloc tmp).grownBy w1 v.ownBlock) :
    Boxed w1 B t v ∧ Boxed (w1.setCell ⟨B, 0, none⟩ v') B t v' ∧ (w1.setCell ⟨B, 0, none⟩ v').ownsRow base e size v' m ys ∧
    (∀ Z : Nat → Prop, ¬ Z B → (∀ k, base ≤ k → ¬ Z k) → Hold Z W (w1.setCell ⟨B, 0, none⟩ v')) ∧
    (∀ m, m ≤ B → m ≤ base → m ≤ W.heap.size → Below m W (w1.setCell ⟨B, 0, none⟩ v')) := by
  have hb : ∀ j, v.ownBlock = some j → base ≤ j := fun j ej => (hrow.lt j ej).1
  have hv1 : Boxed w1 B t v := (hv.alloc tmp).kept hgrow (hv.not_row hte hrow)
  refine ⟨hv1, hv1.set v', hown'.kept (grownBy_setCell' w1 B v') (.inr (hv1.not_row hte hown').symm), fun Z hz hzb => ?_, fun m h1 h2 h3 => ?_⟩
  · exact ((Hold.alloc Z W tmp).trans (.grown hgrow fun j ej => hzb j (hb j ej))).trans (.setCell _ hz _)
  · exact (((Below.refl m W).alloc h3 tmp).grown hgrow (by simp; omega) fun j ej => Nat.le_trans h2 (hb j ej)).setCell (p := ⟨B, 0, none⟩) h1 v'

/-- WHAT IS KNOWN OF A SLICE OF INTEGERS OF KIND q: its length, and what its cells hold. -/
def SlK (q : IntKind) (w : World) (a : Option Addr) (len : Nat) (zs : List Int) : Prop :=
  zs.length = len ∧ (len = 0 ∨ ∃ blk off, a = some ⟨blk, off, none⟩ ∧ ∀ i, i < len → w.cell? ⟨blk, off + i, none⟩ = some (.int q (zs.getD i 0)))
theorem SlK.below {q : IntKind} {w w' : World} {a : Option Addr} {n : Nat} {zs : List Int} (h : SlK q w a n zs) (hb : Below w.heap.size w w') : SlK q w' a n zs := by
  obtain ⟨h1, h2⟩ := h
  refine ⟨h1, ?_⟩
  rcases h2 with h2 | ⟨blk, off, ha, hc⟩
  · exact .inl h2
  · exact .inr ⟨blk, off, ha, fun i hi => cell_later hb (hc i hi)⟩
/-- Integers in memory of the call's own. -/
def OwnK (q : IntKind) (base : Nat) (w : World) (ad : Option Addr) (zs : List Int) : Prop :=
  zs = [] ∨ ∃ g, ad = some ⟨g, 0, none⟩ ∧ base ≤ g ∧ g < w.heap.size ∧ (∀ i, i < zs.length → w.cell? ⟨g, i, none⟩ = some (.int q (zs.getD i 0))) ∧ (∀ i, w.frozen? ⟨g, i, none⟩ = false)
theorem OwnK.sl {q : IntKind} {base : Nat} {w : World} {ad : Option Addr} {zs : List Int} (h : OwnK q base w ad zs) : SlK q w ad zs.length zs := by
  refine ⟨rfl, ?_⟩
  rcases h with rfl | ⟨g, h1, _, _, h2, _⟩
  · exact .inl rfl
  · exact .inr ⟨g, 0, h1, fun i hi => by simpa using h2 i hi⟩
theorem OwnK.mono {q : IntKind} {base base' : Nat} {w : World} {ad : Option Addr} {zs : List Int} (h : OwnK q base w ad zs) (hb : base' ≤ base) : OwnK q base' w ad zs := by
  rcases h with h | ⟨g, h1, h2, h3⟩
  · exact .inl h
  · exact .inr ⟨g, h1, Nat.le_trans hb h2, h3⟩
theorem OwnK.later {q : IntKind} {base : Nat} {w w' : World} {ad : Option Addr} {zs : List Int} (h : OwnK q base w ad zs) (hb : Below w.heap.size w w') : OwnK q base w' ad zs := by
  rcases h with rfl | ⟨g, h1, h2, h3, h4, h5⟩
  · exact .inl rfl
  · exact .inr ⟨g, h1, h2, by have := hb.size; omega, fun i hi => cell_later hb (h4 i hi), fun i => by rw [hb.frozen (p := ⟨g, i, none⟩) h3]; exact h5 i⟩
theorem ownK_row {q : IntKind} {base : Nat} {w : World} {e : TypeId} {v : Value} {n : Nat} {zs : List Int} (hn : zs.length = n) (h : w.ownsRow base e 1 v n (zs.map (Value.int q))) :
    ∃ ad cap, v = .slice ad n cap ∧ OwnK q base w ad zs ∧ n ≤ cap := by
  have H := h
  obtain ⟨h1, h2⟩ := h
  rcases h2 with ⟨rfl, rfl⟩ | ⟨g, cap, cur, rfl, hb, hg, hle, hm, hsz, htk⟩
  · exact ⟨none, 0, rfl, .inl (by cases zs with | nil => rfl | cons => simp at hn), Nat.le_refl _⟩
  · refine ⟨_, cap, rfl, .inr ⟨g, rfl, hb, (H.lt g rfl).2, fun i hi => ?_, fun i => H.frozenAt i⟩, hle⟩
    rw [H.cellAt i (by omega), List.getElem?_map, List.getElem?_eq_getElem hi, List.getD_eq_getElem?_getD, List.getElem?_eq_getElem hi]; rfl
theorem ownsRow_cap {w : World} {base : Nat} {e : TypeId} {size : Nat} {g n cap : Nat} {xs : List Value} (h : w.ownsRow base e size (.slice (some ⟨g, 0, none⟩) n cap) n xs) : n ≤ cap := by
  rcases h.2 with ⟨e, _⟩ | ⟨_, _, _, e, _, _, hle, _⟩
  · cases e
  · cases e; exact hle
theorem ownK_lit {q : IntKind} (w : World) (cs : Array Value) (t : TypeId) (zs : List Int) (h : cs.toList = zs.map (Value.int q)) : OwnK q w.heap.size (w.alloc (.cells cs t)) (some ⟨w.heap.size, 0, none⟩) zs := by
  refine .inr ⟨w.heap.size, rfl, Nat.le_refl _, by simp, fun i hi => ?_, fun i => by simp [go_sem]⟩
  rw [World.cell?_alloc_at _ _ _ _ rfl]
  have : cs[i]? = cs.toList[i]? := by simp
  rw [this, h, List.getElem?_map, List.getElem?_eq_getElem hi, List.getD_eq_getElem?_getD, List.getElem?_eq_getElem hi]; rfl
end Go.Proofs.Ytflpocnbmpdhiaa

/- What a law's walk is told of integers and of slices of integers that came in, and what follows of it. No condition. -/
namespace Go.Proofs.Ytflpocnbmpdhiaa
open Go.RowKit
set_option linter.unusedVariables false

theorem wfI {n : Int} (h : (Lit.int .i64 n).wf = true) : -9223372036854775808 ≤ n ∧ n ≤ 9223372036854775807 := by
  simp [Lit.wf, IntKind.min, IntKind.max, IntKind.bits, IntKind.signed] at h; omega
theorem wfB {n : Int} (h : (Lit.int .u8 n).wf = true) : 0 ≤ n ∧ n ≤ 255 := by
  simp [Lit.wf, IntKind.min, IntKind.max, IntKind.bits, IntKind.signed] at h; omega
theorem bel_step {w a b : World} (h : Below w.heap.size w a) (k : Below a.heap.size a b) : Below w.heap.size w b := h.trans (k.mono h.size)
/-- It is nil; or it leads to a row of 'cap' cells, the numbers 'zs' (the first 'len' are its elements), each fitting its kind. -/
def IsRow (k : IntKind) (w : World) (a : Option Addr) (len cap : Nat) (zs : List Int) : Prop :=
  (a = none ∧ len = 0 ∧ cap = 0 ∧ zs = []) ∨
  ∃ x, a = some x ∧ len ≤ cap ∧ cap ≤ maxLen ∧ zs.length = cap ∧ (∀ i, i < zs.length → w.cell? (x.add i) = some (.int k (zs.getD i 0))) ∧ ∀ n ∈ zs, (Lit.int k n).wf = true
theorem isrow_len {k : IntKind} {w : World} {a : Option Addr} {len cap : Nat} {zs : List Int} (h : IsRow k w a len cap zs) : len ≤ 9223372036854775807 ∧ len ≤ zs.length ∧ len ≤ cap ∧ cap ≤ 9223372036854775807 := by
  rcases h with ⟨_, rfl, rfl, rfl⟩ | ⟨x, _, h1, h2, h3, _⟩
  · simp
  · unfold maxLen at h2; omega
theorem addrK_add (b off j : Nat) : (⟨b, off, none⟩ : Addr).add j = ⟨b, off + j, none⟩ := by cases j <;> simp [Addr.add]
/-- the first n elements, as a slice -/
theorem isrow_takeK {k : IntKind} {w : World} {a : Option Addr} {len cap : Nat} {zs : List Int} (h : IsRow k w a len cap zs) (n : Nat) (hn : n ≤ len) : SlK k w a n (zs.take n) := by
  have hl := isrow_len h
  refine ⟨by rw [List.length_take]; omega, ?_⟩
  rcases h with ⟨_, rfl, _, _⟩ | ⟨⟨b, o, sp⟩, rfl, h1, h2, h3, h4, _⟩
  · exact .inl (by omega)
  · by_cases h0 : n = 0
    · exact .inl h0
    · have hc := h4 0 (by omega)
      have hsp : sp = none := by simpa [Addr.add] using World.cell?_spot hc
      subst hsp
      refine .inr ⟨b, o, rfl, fun i hi => ?_⟩
      rw [← addrK_add, h4 i (by omega)]
      simp [List.getD_eq_getElem?_getD, List.getElem?_take_of_lt hi]
theorem isrow_wfK {k : IntKind} {w : World} {a : Option Addr} {len cap : Nat} {zs : List Int} (h : IsRow k w a len cap zs) : ∀ n ∈ zs, (Lit.int k n).wf = true := by
  rcases h with ⟨_, _, _, rfl⟩ | ⟨x, _, _, _, _, _, h5⟩
  · intro n hn; cases hn
  · exact h5
end Go.Proofs.Ytflpocnbmpdhiaa

/- A head in four cells of a block of the call's own, over any memory. No condition. -/
namespace Go.Proofs.Ytflpocnbmpdhiaa
open Go.RowKit
set_option linter.unusedVariables false

/-- a head, as a value -/
def agH (h : Hd.H) : Value := .agg #[.int .i64 h.kd, .int .i64 h.w, .int .i64 h.h, .int .i64 h.m]
/-- four cells in a block of the call's own -/
def Hb (w : World) (b : Nat) (t : TypeId) (h : Hd.H) : Prop := w.heap[b]? = some (.cells #[.int .i64 h.kd, .int .i64 h.w, .int .i64 h.h, .int .i64 h.m] t (0, 0))
section
variable {w w' : World} {b : Nat} {t : TypeId} {h : Hd.H}
theorem Hb.lt (hh : Hb w b t h) : b < w.heap.size := (Array.getElem?_eq_some_iff.1 hh).1
theorem Hb.later (hh : Hb w b t h) (hb : Below w.heap.size w w') : Hb w' b t h := (hb.block b hh.lt).trans hh
theorem Hb.sep {Z : Nat → Prop} (hh : Hb w b t h) (hs : Sep Z w w') (hz : ¬ Z b) : Hb w' b t h := (hs.block b hh.lt hz).trans hh
theorem Hb.kept {row : Option Nat} (hh : Hb w b t h) (hg : w.grownBy w' row) (hne : some b ≠ row) : Hb w' b t h := (hg.block b hh.lt hne).trans hh
theorem Hb.cells (hh : Hb w b t h) : w.cell? ⟨b, 0, none⟩ = some (.int .i64 h.kd) ∧ w.cell? ⟨b, 1, none⟩ = some (.int .i64 h.w) ∧ w.cell? ⟨b, 2, none⟩ = some (.int .i64 h.h) ∧ w.cell? ⟨b, 3, none⟩ = some (.int .i64 h.m) := by
  have h' : w.heap[b]? = _ := hh
  refine ⟨?_, ?_, ?_, ?_⟩ <;> simp [World.cell?, h']
theorem Hb.fr (hh : Hb w b t h) : w.frozen? ⟨b, 0, none⟩ = false ∧ w.frozen? ⟨b, 1, none⟩ = false ∧ w.frozen? ⟨b, 2, none⟩ = false ∧ w.frozen? ⟨b, 3, none⟩ = false := by
  have h' : w.heap[b]? = _ := hh
  refine ⟨?_, ?_, ?_, ?_⟩ <;> simp [World.frozen?, h']
theorem Hb.new (w : World) (t : TypeId) (h : Hd.H) : Hb (w.alloc (.cells #[.int .i64 h.kd, .int .i64 h.w, .int .i64 h.h, .int .i64 h.m] t)) w.heap.size t h := World.alloc_heap_new w _
theorem Hb.alloc (hh : Hb w b t h) (o : Obj) : Hb (w.alloc o) b t h := hh.kept (World.grownBy_alloc w o none) (by simp)
theorem Hb.drew (hh : Hb w b t h) : Hb w.drew b t h := hh
theorem Hb.put (hh : Hb w b t h) (k : Hd.H) : Hb ((((w.setCell ⟨b, 0, none⟩ (.int .i64 k.kd)).setCell ⟨b, 1, none⟩ (.int .i64 k.w)).setCell ⟨b, 2, none⟩ (.int .i64 k.h)).setCell ⟨b, 3, none⟩ (.int .i64 k.m)) b t k := by
  have h' : w.heap[b]? = _ := hh
  have h1 := Go.heap_setCell_same w b 0 _ _ (.int .i64 k.kd) h'
  have h2 := Go.heap_setCell_same _ b 1 _ _ (.int .i64 k.w) h1
  have h3 := Go.heap_setCell_same _ b 2 _ _ (.int .i64 k.h) h2
  have h4 := Go.heap_setCell_same _ b 3 _ _ (.int .i64 k.m) h3
  simpa [Hb] using h4
end
theorem load_hd {w : World} {b : Nat} {t : TypeId} {h : Hd.H} (hh : Hb w b t h) : (loadVar 36 ⟨b, 0, none⟩).run Try.prog w = .ok (agH h) w := by
  obtain ⟨h0, h1, h2, h3⟩ := hh.cells
  simp [go_sem, h0, h1, h2, h3, agH]
theorem load_rh {w : World} {b : Nat} {t : TypeId} {h : Hd.H} (hh : Hb w b t h) : (loadVar 25 ⟨b, 0, none⟩).run Try.prog w = .ok (agH h) w := by
  obtain ⟨h0, h1, h2, h3⟩ := hh.cells
  simp [go_sem, h0, h1, h2, h3, agH]
theorem Hj.ret3 {P : Program} {fn : Func} {p u v : Tmp} {ty : TypeId} (h : fn.results = #[.cell p ty, .tmp u, .tmp v]) (tmps : Array Value) (w : World) (b : Nat) (val : Value) (hp : tmps.getD p undef = .pointer (some ⟨b, 0, none⟩)) (hl : (loadVar ty ⟨b, 0, none⟩).run P w = .ok val w) :
    (results fn tmps).run P w = .ok (.tuple #[val, tmps.getD u undef, tmps.getD v undef]) w := by
  have hp' : tmps[p]?.getD undef = .pointer (some ⟨b, 0, none⟩) := by simpa using hp
  simp only [results, h]
  simp [hp', asAddr, hl, Result.andThen]
theorem Hj.ret1 {P : Program} {fn : Func} {p : Tmp} {ty : TypeId} (h : fn.results = #[.cell p ty]) (tmps : Array Value) (w : World) (b : Nat) (val : Value) (hp : tmps.getD p undef = .pointer (some ⟨b, 0, none⟩)) (hl : (loadVar ty ⟨b, 0, none⟩).run P w = .ok val w) :
    (results fn tmps).run P w = .ok val w := by
  have hp' : tmps[p]?.getD undef = .pointer (some ⟨b, 0, none⟩) := by simpa using hp
  simp only [results, h]
  simp [hp', asAddr, hl]
end Go.Proofs.Ytflpocnbmpdhiaa

/- Heads that may be, made of any; the greatest limits; the format of a head's pixels and how many bytes its raster has, over any memory. Condition: numbers fit their kinds. -/
namespace Go.Proofs.Ytflpocnbmpdhiaa
open Go.RowKit
set_option linter.unusedVariables false
namespace Hj
def gdk (k : Int) : Int := 1 + Ar.around k 6
def good (h : Hd.H) : Hd.H := ⟨gdk h.kd, 1 + Ar.around h.w 4096, 1 + Ar.around h.h 4096, if Hd.bits (gdk h.kd) = true then 1 else 1 + Ar.around h.m 65535⟩
theorem may_good (h : Hd.H) : Hd.May (good h) := by
  have a := Ar.around_lt h.kd 6 (by omega)
  have b := Ar.around_lt h.w 4096 (by omega)
  have c := Ar.around_lt h.h 4096 (by omega)
  have d := Ar.around_lt h.m 65535 (by omega)
  unfold Hd.May good gdk
  simp only []
  refine ⟨by omega, by omega, by omega, ?_, fun h => by rw [if_pos h]⟩
  split <;> omega
theorem good_h (h : Hd.H) : (good h).h ≤ 4096 := by
  have c := Ar.around_lt h.h 4096 (by omega)
  unfold good; simp only []; omega
/-- a head whose numbers fit their kinds -/
def Fit (h : Hd.H) : Prop := Nu.I h.kd ∧ Nu.I h.w ∧ Nu.I h.h ∧ Nu.I h.m
/-- how many samples a pixel has -/
def chan (h : Hd.H) : Int := if h.kd = 3 ∨ h.kd = 6 then 3 else 1
def size (h : Hd.H) : Int := if h.kd < 4 then 0 else if h.kd = 4 then h.h * ((h.w + 7) / 8) else h.w * h.h * chan h * (if 255 < h.m then 2 else 1)
end Hj
theorem grown_setCell (W : World) (b o : Nat) (v : Value) : W.grownBy (W.setCell ⟨b, o, none⟩ v) (some b) :=
  ⟨rfl, rfl, rfl, by simp, fun k hk hn => Below.heap_setCell W _ v k (by intro e; exact hn (by rw [e]))⟩
set_option maxHeartbeats 1000000 in
theorem hall_any (w : World) : Calls Try.prog 16 #[] w fun e w' => e = .returned (.agg #[.int .i64 4096, .int .i64 65536, .int .i64 65535]) ∧ Below w.heap.size w w' := by
  go_enter Try.func16, Try.ntmps16
  go_wp2
  go_returns
  exact ⟨rfl, by go_grown⟩
set_option maxHeartbeats 1000000 in
theorem bits_any (k : Int) (w : World) :
    Calls Try.prog 46 #[.int .i64 k] w fun e w' => e = .returned (.bool (Hd.bits k)) ∧ w = w' := by
  have rb : ∀ {a b : Bool}, a = b → Ending.returned (.bool a) = .returned (.bool b) := fun h => by rw [h]
  by_cases h1 : k = 1
  · subst h1
    have X := Lib.hid (show Hd.bits 1 = true by decide)
    go_enter Try.func46, Try.ntmps46
    go_wp2
    go_ret
    exact ⟨rb X.out.symm, rfl⟩
  by_cases h4 : k = 4
  · subst h4
    have X := Lib.hid (show Hd.bits 4 = true by decide)
    go_enter Try.func46, Try.ntmps46
    go_wp2
    go_ret
    exact ⟨rb X.out.symm, rfl⟩
  · have X := Lib.hid (show Hd.bits k = false by unfold Hd.bits; exact decide_eq_false (by omega))
    have k1 : (k == 1) = false := by simpa using h1
    have k4 : (k == 4) = false := by simpa using h4
    go_enter Try.func46, Try.ntmps46
    go_wp2
    go_ret
    exact ⟨rb X.out.symm, rfl⟩
set_option maxHeartbeats 2000000 in
theorem hgood_any (h : Hd.H) (hf : Hj.Fit h) (w : World) :
    Calls Try.prog 13 #[agH h, .int .i64 4096] w fun e w' => e = .returned (agH (Hj.good h)) ∧ Below w.heap.size w w' := by
  obtain ⟨kd, ww, hh, m⟩ := h
  obtain ⟨i0, i1, i2, i3⟩ := hf
  simp only at i0 i1 i2 i3
  have HA : Hid (∀ W, Calls Try.prog 15 #[.int .i64 kd, .int .i64 6] W fun e w' => e = .returned (.int .i64 (Ar.around kd 6)) ∧ W = w') := fun W => aroundOf kd 6 i0.1 i0.2 (by omega) (by omega) W
  have HB : Hid (∀ W, Calls Try.prog 15 #[.int .i64 ww, .int .i64 4096] W fun e w' => e = .returned (.int .i64 (Ar.around ww 4096)) ∧ W = w') := fun W => aroundOf ww 4096 i1.1 i1.2 (by omega) (by omega) W
  have HC : Hid (∀ W, Calls Try.prog 15 #[.int .i64 hh, .int .i64 4096] W fun e w' => e = .returned (.int .i64 (Ar.around hh 4096)) ∧ W = w') := fun W => aroundOf hh 4096 i2.1 i2.2 (by omega) (by omega) W
  have HD : Hid (∀ W, Calls Try.prog 15 #[.int .i64 m, .int .i64 65535] W fun e w' => e = .returned (.int .i64 (Ar.around m 65535)) ∧ W = w') := fun W => aroundOf m 65535 i3.1 i3.2 (by omega) (by omega) W
  have b0 := Ar.around_lt kd 6 (by omega)
  have b1 := Ar.around_lt ww 4096 (by omega)
  have b2 := Ar.around_lt hh 4096 (by omega)
  have b3 := Ar.around_lt m 65535 (by omega)
  have X : Hid (Hj.good ⟨kd, ww, hh, m⟩ = ⟨1 + Ar.around kd 6, 1 + Ar.around ww 4096, 1 + Ar.around hh 4096, if Hd.bits (1 + Ar.around kd 6) = true then 1 else 1 + Ar.around m 65535⟩) := rfl
  unfold agH
  rw [X.out]
  clear X
  generalize Ar.around kd 6 = x0 at *
  generalize Ar.around ww 4096 = x1 at *
  generalize Ar.around hh 4096 = x2 at *
  generalize Ar.around m 65535 = x3 at *
  obtain ⟨y0, hy0⟩ : ∃ y, 1 + x0 = y := ⟨_, rfl⟩
  obtain ⟨y1, hy1⟩ : ∃ y, 1 + x1 = y := ⟨_, rfl⟩
  obtain ⟨y2, hy2⟩ : ∃ y, 1 + x2 = y := ⟨_, rfl⟩
  obtain ⟨y3, hy3⟩ : ∃ y, 1 + x3 = y := ⟨_, rfl⟩
  have e0 : wrap64 (1 + x0) = y0 := by rw [IntWalk.wrap64_in] <;> omega
  have e1 : wrap64 (1 + x1) = y1 := by rw [IntWalk.wrap64_in] <;> omega
  have e2 : wrap64 (1 + x2) = y2 := by rw [IntWalk.wrap64_in] <;> omega
  have e3 : wrap64 (1 + x3) = y3 := by rw [IntWalk.wrap64_in] <;> omega
  have f0 : IntKind.i64.wrap (1 + x0) = y0 := by rw [IntWalk.i64_in] <;> omega
  have f1 : IntKind.i64.wrap (1 + x1) = y1 := by rw [IntWalk.i64_in] <;> omega
  have f2 : IntKind.i64.wrap (1 + x2) = y2 := by rw [IntWalk.i64_in] <;> omega
  rw [hy0, hy1, hy2, hy3]
  have HBT := Lib.hid (bits_any y0)
  clear b0 b1 b2 b3 hy0 hy1 hy2 hy3 i0 i1 i2 i3
  obtain ⟨g, hg⟩ : ∃ g, Hd.bits y0 = g := ⟨_, rfl⟩
  rw [hg] at HBT ⊢
  go_enter Try.func13, Try.ntmps13
  go_wp2_with fail
  obtain ⟨W, hW⟩ : ∃ W, (w.alloc (Obj.cells #[Value.int IntKind.i64 kd, Value.int IntKind.i64 ww, Value.int IntKind.i64 hh, Value.int IntKind.i64 m] 25)).alloc (Obj.cells #[Value.int IntKind.i64 0, Value.int IntKind.i64 0, Value.int IntKind.i64 0, Value.int IntKind.i64 0] 25) = W := ⟨_, rfl⟩
  have hA := Hb.alloc (Hb.new w 25 ⟨kd, ww, hh, m⟩) (Obj.cells #[Value.int IntKind.i64 0, Value.int IntKind.i64 0, Value.int IntKind.i64 0, Value.int IntKind.i64 0] 25)
  have hZ := Hb.new (w.alloc (Obj.cells #[Value.int IntKind.i64 kd, Value.int IntKind.i64 ww, Value.int IntKind.i64 hh, Value.int IntKind.i64 m] 25)) 25 Hd.none
  have hBW : Below w.heap.size w W := by rw [← hW]; exact ((Below.refl _ w).alloc (Nat.le_refl _) _).alloc (by simp) _
  have hAW : Hb W w.heap.size 25 ⟨kd, ww, hh, m⟩ := by rw [← hW]; exact hA
  have hZW : Hb W (w.heap.size + 1) 25 Hd.none := by rw [← hW, ← World.size_alloc w]; exact hZ
  obtain ⟨n0, n1, n2, n3⟩ := hAW.cells
  have HZ := Lib.hid hZW
  have HA3 := Lib.hid hAW
  have HB0 := Lib.hid hBW
  have hBr : Below W.heap.size W W := .refl _ _
  try simp only [World.size_alloc]
  rw [hW]
  clear hW hA hZ hBW hAW hZW
  go_cut [5] (fun s5 wx => ∃ p, s5 = .pointer (some ⟨p, 0, none⟩) ∧ Hb wx p 25 ⟨y0, y1, y2, 1⟩ ∧ W.heap.size ≤ p ∧ Below W.heap.size W wx)
  case first =>
    go_region_held3 (fun w' => w'.cell? ⟨w.heap.size, 0, none⟩ = some (.int .i64 kd) ∧ w'.cell? ⟨w.heap.size, 1, none⟩ = some (.int .i64 ww) ∧ w'.cell? ⟨w.heap.size, 2, none⟩ = some (.int .i64 hh))
      (first | exact ⟨n0, n1, n2⟩ | exact ⟨cell_later (hBr.alloc (Nat.le_refl _) _) n0, cell_later (hBr.alloc (Nat.le_refl _) _) n1, cell_later (hBr.alloc (Nat.le_refl _) _) n2⟩ | exact ⟨cell_later (hBr.drew.alloc (Nat.le_refl _) _) n0, cell_later (hBr.drew.alloc (Nat.le_refl _) _) n1, cell_later (hBr.drew.alloc (Nat.le_refl _) _) n2⟩)
      (first
        | (go_at_call 15; with_reducible refine (HA.out _).mono ?_; rintro e w9 ⟨rfl, rfl⟩)
        | (go_at_call 15; with_reducible refine (HB.out _).mono ?_; rintro e w9 ⟨rfl, rfl⟩)
        | (go_at_call 15; with_reducible refine (HC.out _).mono ?_; rintro e w9 ⟨rfl, rfl⟩))
    all_goals
      go_wp2_with fail
      go_meet
      case rel => exact ⟨_, rfl, Hb.new _ _ ⟨y0, y1, y2, 1⟩, Nat.le_refl _, (show Below W.heap.size W W.drew from hBr.drew).alloc (Nat.le_refl _) _⟩
  case rest =>
    obtain ⟨p, rfl, hP, hp, hBx⟩ := hcut
    have HP := Lib.hid hP
    have hZ2 := HZ.out.later hBx
    have hA2 := HA3.out.later hBx
    have HZ2 := Lib.hid hZ2
    have hne : w.heap.size + 1 ≠ p := by have := HZ.out.lt; omega
    have hbw := HB0.out.trans (hBx.mono HB0.out.size)
    obtain ⟨a0, a1, a2, a3⟩ := hP.cells
    obtain ⟨c0, c1, c2, c3⟩ := hP.fr
    obtain ⟨z0, z1, z2, z3⟩ := hZ2.cells
    obtain ⟨u0, u1, u2, u3⟩ := hZ2.fr
    obtain ⟨q0, q1, q2, q3⟩ := hA2.cells
    have hpw : w.heap.size ≤ p := Nat.le_trans HB0.out.size hp
    clear hP hZ2 hA2 n0 n1 n2 n3 hBx hBr
    cases g with
    | true =>
      go_wp2_with (go_at_call 46; refine (HBT.out _).mono ?_; rintro e w9 ⟨rfl, rfl⟩)
      refine bodyPost_ret (Hj.ret1 Try.results13 _ _ _ _ rfl (load_rh (HZ2.out.put ⟨y0, y1, y2, 1⟩))) rfl ?_
      exact ⟨rfl, (((hbw.setCell (Nat.le_succ _) _).setCell (Nat.le_succ _) _).setCell (Nat.le_succ _) _).setCell (Nat.le_succ _) _⟩
    | false =>
      go_wp2_with (first
        | (go_at_call 46; refine (HBT.out _).mono ?_; rintro e w9 ⟨rfl, rfl⟩)
        | (go_at_call 15; with_reducible refine (HD.out _).mono ?_; rintro e w9 ⟨rfl, rfl⟩))
      refine bodyPost_ret (Hj.ret1 Try.results13 _ _ _ _ rfl (load_rh ((HZ2.out.kept (grown_setCell _ _ _ _) (by intro e; injection e with e; exact hne e)).put ⟨y0, y1, y2, y3⟩))) rfl ?_
      exact ⟨rfl, ((((hbw.setCell hpw _).setCell (Nat.le_succ _) _).setCell (Nat.le_succ _) _).setCell (Nat.le_succ _) _).setCell (Nat.le_succ _) _⟩
end Go.Proofs.Ytflpocnbmpdhiaa

/- The format of a head's pixels, whether its raster is raw, how many bytes that has: of head and of the document, over any memory. Condition: the head may be. -/
namespace Go.Proofs.Ytflpocnbmpdhiaa
open Go.RowKit
set_option linter.unusedVariables false

theorem Hj.chan_at (h : Hd.H) : Hj.chan h = 1 ∨ Hj.chan h = 3 := by unfold Hj.chan; split <;> simp
theorem Hj.kinds {k : Int} (h1 : 1 ≤ k) (h6 : k ≤ 6) : k = 1 ∨ k = 2 ∨ k = 3 ∨ k = 4 ∨ k = 5 ∨ k = 6 := by omega
/-- a format, as a value -/
def Hj.fm (h : Hd.H) : Value := .agg #[.int .i64 (Hj.chan h), .int .i64 h.m]
set_option maxHeartbeats 1000000 in
theorem hformat_any (h : Hd.H) (hm : Hd.May h) (w : World) :
    Calls Try.prog 66 #[agH h] w fun e w' => e = .returned (Hj.fm h) ∧ Below w.heap.size w w' := by
  obtain ⟨kd, ww, hh, m⟩ := h
  obtain ⟨⟨a1, a2⟩, _⟩ := hm
  unfold agH Hj.fm
  rcases Hj.kinds a1 a2 with h | h | h | h | h | h
  all_goals
    simp only at h
    subst h
    clear a1 a2
    go_enter Try.func66, Try.ntmps66
    go_wp2
    go_returns
    exact ⟨rfl, by go_grown⟩
set_option maxHeartbeats 1000000 in
theorem refFormat_any (h : Hd.H) (hm : Hd.May h) (w : World) :
    Calls Try.prog 63 #[agH h] w fun e w' => e = .returned (Hj.fm h) ∧ Below w.heap.size w w' := by
  obtain ⟨kd, ww, hh, m⟩ := h
  obtain ⟨⟨a1, a2⟩, _⟩ := hm
  unfold agH Hj.fm
  rcases Hj.kinds a1 a2 with h | h | h | h | h | h
  all_goals
    simp only at h
    subst h
    clear a1 a2
    go_enter Try.func63, Try.ntmps63
    go_wp2
    go_returns
    exact ⟨rfl, by go_grown⟩
set_option maxHeartbeats 1000000 in
theorem hraw_any (h : Hd.H) (hm : Hd.May h) (w : World) :
    Calls Try.prog 81 #[agH h] w fun e w' => e = .returned (.bool (decide (3 < h.kd))) ∧ Below w.heap.size w w' := by
  obtain ⟨kd, ww, hh, m⟩ := h
  obtain ⟨⟨a1, a2⟩, _⟩ := hm
  unfold agH
  rcases Hj.kinds a1 a2 with h | h | h | h | h | h
  all_goals
    simp only at h
    subst h
    clear a1 a2
    go_enter Try.func81, Try.ntmps81
    go_wp2
    go_ret
    exact ⟨rfl, by go_grown⟩
end Go.Proofs.Ytflpocnbmpdhiaa

/- How many bytes the raster of a head has, by head and by the document, over any memory. Condition: the head may be. -/
namespace Go.Proofs.Ytflpocnbmpdhiaa
open Go.RowKit
set_option linter.unusedVariables false

theorem Hj.bound3 {a b c : Int} (a0 : 1 ≤ a) (a1 : a ≤ 4096) (b0 : 1 ≤ b) (b1 : b ≤ 65536) (c0 : 1 ≤ c) (c1 : c ≤ 3) : 0 ≤ a * b ∧ a * b ≤ 268435456 ∧ 0 ≤ a * b * c ∧ a * b * c ≤ 805306368 := by
  have h1 : 0 ≤ a * b := Int.mul_nonneg (by omega) (by omega)
  have h2 : a * b ≤ 4096 * 65536 := Int.mul_le_mul a1 b1 (by omega) (by omega)
  have h3 : 0 ≤ a * b * c := Int.mul_nonneg h1 (by omega)
  have h4 : a * b * c ≤ (4096 * 65536) * 3 := Int.mul_le_mul h2 c1 (by omega) (by omega)
  omega
theorem field0_run (c m : Int) (W : World) : (Instr.field 108 (.agg #[.int .i64 c, .int .i64 m]) 0).run Try.prog W = .ok (.int .i64 c) W := by kernel_rfl
theorem Hj.size_small {h : Hd.H} (hk : h.kd < 4) : Hj.size h = 0 := by unfold Hj.size; rw [if_pos hk]
theorem Hj.size_4 {h : Hd.H} (hk : h.kd = 4) : Hj.size h = h.h * ((h.w + 7) / 8) := by unfold Hj.size; rw [if_neg (by omega), if_pos hk]
theorem Hj.size_5 {h : Hd.H} (hk : 4 < h.kd) : Hj.size h = h.w * h.h * Hj.chan h * (if 255 < h.m then 2 else 1) := by unfold Hj.size; rw [if_neg (by omega), if_neg (by omega)]
set_option maxRecDepth 100000 in
set_option maxHeartbeats 2000000 in
theorem hsize_any (h : Hd.H) (hm : Hd.May h) (w : World) :
    Calls Try.prog 47 #[agH h] w fun e w' => e = .returned (.int .i64 (Hj.size h)) ∧ Below w.heap.size w w' := by
  have HF := Lib.hid (hformat_any h hm)
  have HR := Lib.hid (hraw_any h hm)
  obtain ⟨kd, ww, hh, m⟩ := h
  obtain ⟨⟨a1, a2⟩, ⟨b1, b2⟩, ⟨c1, c2⟩, ⟨d1, d2⟩, _⟩ := hm
  simp only at a1 a2 b1 b2 c1 c2 d1 d2
  unfold agH at HF HR ⊢
  by_cases k3 : kd < 4
  · have X := Lib.hid (Hj.size_small (h := ⟨kd, ww, hh, m⟩) k3)
    simp only [decide_eq_false (show ¬ 3 < kd by omega)] at HR
    clear HF
    go_enter Try.func47, Try.ntmps47
    go_wp2_with (go_at_call 81; refine (HR.out _).mono ?_; rintro e w9 ⟨rfl, hb9⟩)
    go_ret
    exact ⟨Ar.ret_i X.out.symm, ((Below.refl _ w).alloc (Nat.le_refl _) _).trans (hb9.mono (by simp))⟩
  simp only [decide_eq_true (show 3 < kd by omega)] at HR
  by_cases k4 : kd = 4
  · have X := Lib.hid (Hj.size_4 (h := ⟨kd, ww, hh, m⟩) k4)
    subst k4
    simp only at X
    obtain ⟨q, hq⟩ : ∃ q, (ww + 7) / 8 = q := ⟨_, rfl⟩
    have q0 : 0 ≤ q := by omega
    have q1 : q ≤ 512 := by omega
    have p0 : 0 ≤ hh * q := Int.mul_nonneg (by omega) q0
    have p1 : hh * q ≤ 65536 * 512 := Int.mul_le_mul c2 q1 q0 (by omega)
    have e1 : wrap64 (ww + 7) = ww + 7 := by rw [IntWalk.wrap64_in] <;> omega
    have f1 : IntKind.i64.wrap (ww + 7) = ww + 7 := by rw [IntWalk.i64_in] <;> omega
    have e3 : (ww + 7).tdiv 8 = q := by rw [Int.tdiv_eq_ediv_of_nonneg (by omega)]; exact hq
    rw [hq] at X
    obtain ⟨r, hr⟩ : ∃ r, hh * q = r := ⟨_, rfl⟩
    rw [hr] at p0 p1 X
    have e2 : wrap64 (hh * q) = r := by rw [hr, IntWalk.wrap64_in] <;> omega
    have f2 : IntKind.i64.wrap (hh * q) = r := by rw [hr, IntWalk.i64_in] <;> omega
    have e4 : wrap64 q = q := by rw [IntWalk.wrap64_in] <;> omega
    clear HF hr p0 p1 hq
    go_enter Try.func47, Try.ntmps47
    go_wp2_with fail
    refine (HR.out _).mono ?_
    rintro e w9 ⟨rfl, hb9⟩
    obtain ⟨n0, n1, n2, n3⟩ := ((Hb.new w 36 ⟨4, ww, hh, m⟩).later hb9).cells
    go_wp2
    go_ret
    exact ⟨Ar.ret_i X.out.symm, ((Below.refl _ w).alloc (Nat.le_refl _) _).trans (hb9.mono (by simp))⟩
  · have X := Lib.hid (Hj.size_5 (h := ⟨kd, ww, hh, m⟩) (show 4 < kd by omega))
    simp only at X
    unfold Hj.fm at HF
    obtain ⟨c, hc⟩ : ∃ c, Hj.chan ⟨kd, ww, hh, m⟩ = c := ⟨_, rfl⟩
    have hcc := Hj.chan_at ⟨kd, ww, hh, m⟩
    rw [hc] at HF X hcc
    obtain ⟨t0, t1, t2, t3⟩ := Hj.bound3 (c := c) b1 b2 c1 c2 (by omega) (by omega)
    obtain ⟨r, hr⟩ : ∃ r, ww * hh = r := ⟨_, rfl⟩
    rw [hr] at t0 t1 t2 t3 X
    obtain ⟨s, hs⟩ : ∃ s, r * c = s := ⟨_, rfl⟩
    rw [hs] at t2 t3 X
    have f1 : IntKind.i64.wrap (ww * hh) = r := by rw [hr, IntWalk.i64_in] <;> omega
    have f2 : IntKind.i64.wrap (r * c) = s := by rw [hs, IntWalk.i64_in] <;> omega
    have g1 : wrap64 (ww * hh) = r := by rw [hr, IntWalk.wrap64_in] <;> omega
    have g2 : wrap64 (r * c) = s := by rw [hs, IntWalk.wrap64_in] <;> omega
    have g3 : wrap64 (s * 2) = s * 2 := by rw [IntWalk.wrap64_in] <;> omega
    have k4b : (kd == 4) = false := by simpa using k4
    have hfd := field0_run c m
    have hBt : Below w.heap.size w w := .refl _ _
    clear hc hcc hr hs t0 t1 k3 a1 a2 b1 b2 c1 c2 k4
    go_enter Try.func47, Try.ntmps47
    go_wp2_with fail
    refine (HR.out _).mono ?_
    rintro e w9 ⟨rfl, hb9⟩
    obtain ⟨n0, n1, n2, n3⟩ := ((Hb.new w 36 ⟨kd, ww, hh, m⟩).later hb9).cells
    have HBz := Lib.hid (((hBt).alloc (Nat.le_refl _) (.cells #[.int .i64 kd, .int .i64 ww, .int .i64 hh, .int .i64 m] 36)).trans (hb9.mono (by simp)))
    have hBr : Below w9.heap.size w9 w9 := .refl _ _
    clear hb9 hBt
    go_wp2_with fail
    go_cut [3] (fun s3 wx => s3 = .int .i64 s ∧ Below w9.heap.size w9 wx)
    case first =>
      go_region_held3 (fun w' => w'.cell? ⟨w.heap.size, 0, none⟩ = some (.int .i64 kd) ∧ w'.cell? ⟨w.heap.size, 1, none⟩ = some (.int .i64 ww) ∧ w'.cell? ⟨w.heap.size, 2, none⟩ = some (.int .i64 hh) ∧ w'.cell? ⟨w.heap.size, 3, none⟩ = some (.int .i64 m))
        (first | exact ⟨n0, n1, n2, n3⟩ | exact ⟨cell_later hBr n0, cell_later hBr n1, cell_later hBr n2, cell_later hBr n3⟩)
        (first | (go_at_call 66; refine (HF.out _).mono ?_; rintro e w8 ⟨rfl, hb8⟩; replace hBr := bel_step (w := w9) (by first | exact hBr | exact hBr.drew) hb8))
      all_goals
        go_wp2_with fail
        go_meet
        case rel => exact ⟨rfl, hBr⟩
    case rest =>
      obtain ⟨rfl, hBx⟩ := hcut
      have m3 := cell_later hBx n3
      have HBy := Lib.hid (HBz.out.trans (hBx.mono HBz.out.size))
      clear n0 n1 n2 n3 hBr hBx
      by_cases hm2 : 255 < m
      · have X2 : Hid (Hj.size ⟨kd, ww, hh, m⟩ = s * 2) := by show _ = _; rw [X.out, if_pos hm2]
        go_wp2
        go_ret
        exact ⟨Ar.ret_i X2.out.symm, HBy.out⟩
      · have X2 : Hid (Hj.size ⟨kd, ww, hh, m⟩ = s) := by show _ = _; rw [X.out, if_neg hm2, Int.mul_one]
        go_wp2
        go_ret
        exact ⟨Ar.ret_i X2.out.symm, HBy.out⟩
set_option maxHeartbeats 2000000 in
theorem refSize_any (h : Hd.H) (hm : Hd.May h) (w : World) :
    Calls Try.prog 41 #[agH h] w fun e w' => e = .returned (.int .i64 (Hj.size h)) ∧ Below w.heap.size w w' := by
  obtain ⟨kd, ww, hh, m⟩ := h
  obtain ⟨⟨a1, a2⟩, ⟨b1, b2⟩, ⟨c1, c2⟩, ⟨d1, d2⟩, _⟩ := hm
  simp only at a1 a2 b1 b2 c1 c2 d1 d2
  unfold agH
  by_cases k3 : kd < 4
  · have X := Lib.hid (Hj.size_small (h := ⟨kd, ww, hh, m⟩) k3)
    go_enter Try.func41, Try.ntmps41
    go_wp2
    go_ret
    exact ⟨Ar.ret_i X.out.symm, by go_grown⟩
  by_cases k4 : kd = 4
  · have X := Lib.hid (Hj.size_4 (h := ⟨kd, ww, hh, m⟩) k4)
    subst k4
    simp only at X
    obtain ⟨q, hq⟩ : ∃ q, ww / 8 = q := ⟨_, rfl⟩
    have q0 : 0 ≤ q := by omega
    have q1 : q ≤ 512 := by omega
    have e3 : ww.tdiv 8 = q := by rw [Int.tdiv_eq_ediv_of_nonneg (by omega)]; exact hq
    have e5 : ww.tmod 8 = ww % 8 := Int.tmod_eq_emod_of_nonneg (by omega)
    have e4 : wrap64 q = q := by rw [IntWalk.wrap64_in] <;> omega
    by_cases hr : 0 < ww % 8
    · have hq2 : (ww + 7) / 8 = q + 1 := by omega
      rw [hq2, Int.mul_comm] at X
      have p0 : 0 ≤ (q + 1) * hh := Int.mul_nonneg (by omega) (by omega)
      have p1 : (q + 1) * hh ≤ 513 * 65536 := Int.mul_le_mul (by omega) c2 (by omega) (by omega)
      have e6 : wrap64 (q + 1) = q + 1 := by rw [IntWalk.wrap64_in] <;> omega
      have e7 : wrap64 ((q + 1) * hh) = (q + 1) * hh := by rw [IntWalk.wrap64_in] <;> omega
      clear p0 p1 hq hq2 q0 q1 b1 b2 c1 c2 k3
      go_enter Try.func41, Try.ntmps41
      go_wp2
      go_ret
      exact ⟨Ar.ret_i X.out.symm, by go_grown⟩
    · have hq2 : (ww + 7) / 8 = q := by omega
      rw [hq2, Int.mul_comm] at X
      have p0 : 0 ≤ q * hh := Int.mul_nonneg (by omega) (by omega)
      have p1 : q * hh ≤ 512 * 65536 := Int.mul_le_mul (by omega) c2 (by omega) (by omega)
      have e7 : wrap64 (q * hh) = q * hh := by rw [IntWalk.wrap64_in] <;> omega
      clear p0 p1 hq hq2 q0 q1 b1 b2 c1 c2 k3
      go_enter Try.func41, Try.ntmps41
      go_wp2
      go_ret
      exact ⟨Ar.ret_i X.out.symm, by go_grown⟩
  · have X := Lib.hid (Hj.size_5 (h := ⟨kd, ww, hh, m⟩) (show 4 < kd by omega))
    simp only at X
    obtain ⟨r, hr⟩ : ∃ r, ww * hh = r := ⟨_, rfl⟩
    obtain ⟨t0, t1, _, _⟩ := Hj.bound3 (c := 1) b1 b2 c1 c2 (by omega) (by omega)
    rw [hr] at t0 t1 X
    have HRW := Lib.hid hr
    have g1 : wrap64 (ww * hh) = r := by rw [hr, IntWalk.wrap64_in] <;> omega
    have k4b : (kd == 4) = false := by simpa using k4
    by_cases k5 : kd = 5
    · subst k5
      rw [show Hj.chan ⟨5, ww, hh, m⟩ = 1 from rfl, Int.mul_one] at X
      have g3 : wrap64 (2 * r) = 2 * r := by rw [IntWalk.wrap64_in] <;> omega
      by_cases hm2 : 255 < m
      · have X2 : Hid (Hj.size ⟨5, ww, hh, m⟩ = 2 * r) := by show _ = _; rw [X.out, if_pos hm2, Int.mul_comm]
        clear hr b1 b2 c1 c2 k3 a1 a2
        go_enter Try.func41, Try.ntmps41
        go_wp2
        go_ret
        exact ⟨Ar.ret_i (by first | exact X2.out.symm | (rw [HRW.out]; exact X2.out.symm)), by go_grown⟩
      · have X2 : Hid (Hj.size ⟨5, ww, hh, m⟩ = r) := by show _ = _; rw [X.out, if_neg hm2, Int.mul_one]
        clear hr b1 b2 c1 c2 k3 a1 a2
        go_enter Try.func41, Try.ntmps41
        go_wp2
        go_ret
        exact ⟨Ar.ret_i (by first | exact X2.out.symm | (rw [HRW.out]; exact X2.out.symm)), by go_grown⟩
    · obtain rfl : kd = 6 := by omega
      rw [show Hj.chan ⟨6, ww, hh, m⟩ = 3 from rfl] at X
      have g4 : wrap64 (3 * r) = 3 * r := by rw [IntWalk.wrap64_in] <;> omega
      have g3 : wrap64 (2 * (3 * r)) = 2 * (3 * r) := by rw [IntWalk.wrap64_in] <;> omega
      by_cases hm2 : 255 < m
      · have X2 : Hid (Hj.size ⟨6, ww, hh, m⟩ = 2 * (3 * r)) := by show _ = _; rw [X.out, if_pos hm2, Int.mul_comm, Int.mul_comm r]
        clear hr b1 b2 c1 c2 k3 a1 a2
        go_enter Try.func41, Try.ntmps41
        go_wp2
        go_ret
        exact ⟨Ar.ret_i (by first | exact X2.out.symm | (rw [HRW.out]; exact X2.out.symm)), by go_grown⟩
      · have X2 : Hid (Hj.size ⟨6, ww, hh, m⟩ = 3 * r) := by show _ = _; rw [X.out, if_neg hm2, Int.mul_one, Int.mul_comm]
        clear hr b1 b2 c1 c2 k3 a1 a2
        go_enter Try.func41, Try.ntmps41
        go_wp2
        go_ret
        exact ⟨Ar.ret_i (by first | exact X2.out.symm | (rw [HRW.out]; exact X2.out.symm)), by go_grown⟩
end Go.Proofs.Ytflpocnbmpdhiaa

/- Plain facts on pixels as numbers: which numbers are pixels, which samples they have, and what is made of them. No condition. -/
namespace Go.Proofs.Ytflpocnbmpdhiaa
open Go.RowKit
namespace Pq
namespace Px

def hiP (p : Int) : Int := p / 281474976710656
def loP (p : Int) : Int := p % 281474976710656
/-- a pixel's samples -/
def smp (p : Int) : List Int :=
  if hiP p = 3 then [loP p / 4294967296, loP p / 65536 % 65536, loP p % 65536]
  else if hiP p = 1 ∧ loP p < 65536 then [loP p] else []
def Is3 (p a b c : Int) : Prop := p = 844424930131968 + a * 4294967296 + b * 65536 + c ∧ 0 ≤ a ∧ a ≤ 65535 ∧ 0 ≤ b ∧ b ≤ 65535 ∧ 0 ≤ c ∧ c ≤ 65535
def Is1 (p a : Int) : Prop := p = 281474976710656 + a ∧ 0 ≤ a ∧ a ≤ 65535
def Is0 (p : Int) : Prop := ¬ hiP p = 3 ∧ ¬ (hiP p = 1 ∧ loP p < 65536)
/-- a number fits a pixel's kind -/
def U (p : Int) : Prop := 0 ≤ p ∧ p ≤ 18446744073709551615
def I (n : Int) : Prop := -9223372036854775808 ≤ n ∧ n ≤ 9223372036854775807

theorem tri {p : Int} (h : U p) : (∃ a b c, Is3 p a b c) ∨ (∃ a, Is1 p a) ∨ Is0 p := by
  obtain ⟨h0, h1⟩ := h
  by_cases h3 : hiP p = 3
  · refine .inl ⟨loP p / 4294967296, loP p / 65536 % 65536, loP p % 65536, ?_⟩
    unfold hiP at h3; unfold Is3 loP; omega
  · by_cases h2 : hiP p = 1 ∧ loP p < 65536
    · refine .inr (.inl ⟨loP p, ?_⟩)
      unfold hiP loP at h2; unfold Is1 loP; omega
    · exact .inr (.inr ⟨h3, h2⟩)
theorem smp3 {p a b c : Int} (h : Is3 p a b c) : smp p = [a, b, c] := by
  obtain ⟨h0, h⟩ := h
  have e : hiP p = 3 := by unfold hiP; omega
  have e1 : loP p / 4294967296 = a := by unfold loP; omega
  have e2 : loP p / 65536 % 65536 = b := by unfold loP; omega
  have e3 : loP p % 65536 = c := by unfold loP; omega
  unfold smp; rw [if_pos e, e1, e2, e3]
theorem smp1 {p a : Int} (h : Is1 p a) : smp p = [a] := by
  obtain ⟨h0, h⟩ := h
  have e : ¬ hiP p = 3 := by unfold hiP; omega
  have e1 : loP p = a := by unfold loP; omega
  have e2 : hiP p = 1 ∧ loP p < 65536 := by unfold hiP loP; omega
  unfold smp; rw [if_neg e, if_pos e2, e1]
theorem smp0 {p : Int} (h : Is0 p) : smp p = [] := by
  unfold smp; rw [if_neg h.1, if_neg h.2]

theorem and16 (x : Int) (h0 : 0 ≤ x) (h1 : x ≤ 18446744073709551615) : bits .and .u64 x 65535 = x % 65536 := by
  rw [u64_and x 65535 h0 (by omega) (by omega) (by omega)]
  have e : (65535 : Int).toNat = 2 ^ 16 - 1 := by decide
  rw [e, Nat.and_two_pow_sub_one_eq_mod]
  omega
theorem or16 (x s : Int) (h0 : 0 ≤ x) (h1 : x < 281474976710656) (h2 : 0 ≤ s) (h3 : s < 65536) : bits .or .u64 (x * 65536) s = x * 65536 + s := by
  rw [u64_or (x * 65536) s (by omega) (by omega) h2 (by omega)]
  obtain ⟨X, rfl⟩ := Int.eq_ofNat_of_zero_le h0
  obtain ⟨S, rfl⟩ := Int.eq_ofNat_of_zero_le h2
  have e1 : ((X : Int) * 65536).toNat = 2 ^ 16 * X := by omega
  rw [e1, Int.toNat_natCast, ← Nat.two_pow_add_eq_or_of_lt (by omega : S < 2 ^ 16)]
  omega
theorem or48 (n s : Int) (h0 : 0 ≤ n) (h1 : n < 65536) (h2 : 0 ≤ s) (h3 : s < 281474976710656) : bits .or .u64 (n * 281474976710656) s = n * 281474976710656 + s := by
  rw [u64_or (n * 281474976710656) s (by omega) (by omega) h2 (by omega)]
  obtain ⟨X, rfl⟩ := Int.eq_ofNat_of_zero_le h0
  obtain ⟨S, rfl⟩ := Int.eq_ofNat_of_zero_le h2
  have e1 : ((X : Int) * 281474976710656).toNat = 2 ^ 48 * X := by omega
  rw [e1, Int.toNat_natCast, ← Nat.two_pow_add_eq_or_of_lt (by omega : S < 2 ^ 48)]
  omega
theorem or0 (s : Int) (h2 : 0 ≤ s) (h3 : s < 65536) : bits .or .u64 0 s = s := by
  have := or16 0 s (by omega) (by omega) h2 h3; simpa using this

theorem u64w (n : Int) (h0 : 0 ≤ n) (h1 : n ≤ 18446744073709551615) : IntKind.u64.wrap n = n := IntWalk.u64_in n ⟨h0, h1⟩
theorem join3v (a b c : Int) (ha0 : 0 ≤ a) (ha1 : a ≤ 65535) (hb0 : 0 ≤ b) (hb1 : b ≤ 65535) (hc0 : 0 ≤ c) (hc1 : c ≤ 65535) :
    bits .or .u64 844424930131968 (bits .or .u64 (IntKind.u64.wrap (bits .or .u64 (IntKind.u64.wrap (bits .or .u64 0 a * 65536)) b * 65536)) c) = 844424930131968 + a * 4294967296 + b * 65536 + c := by
  have e1 := or0 a ha0 (by omega)
  have e2 := u64w (a * 65536) (by omega) (by omega)
  have e3 := or16 a b ha0 (by omega) hb0 (by omega)
  have e4 := u64w ((a * 65536 + b) * 65536) (by omega) (by omega)
  have e5 := or16 (a * 65536 + b) c (by omega) (by omega) hc0 (by omega)
  have e6 := or48 3 ((a * 65536 + b) * 65536 + c) (by omega) (by omega) (by omega) (by omega)
  have e7 : (3 : Int) * 281474976710656 = 844424930131968 := rfl
  rw [e1, e2, e3, e4, e5, ← e7, e6]; omega
theorem join1v (a : Int) (ha0 : 0 ≤ a) (ha1 : a ≤ 65535) : bits .or .u64 281474976710656 (bits .or .u64 0 a) = 281474976710656 + a := by
  have e1 := or0 a ha0 (by omega)
  have e6 := or48 1 a (by omega) (by omega) (by omega) (by omega)
  have e7 : (1 : Int) * 281474976710656 = 281474976710656 := rfl
  rw [e1, ← e7, e6]

/-- what the document makes of samples -/
def okS (s : Int) : Bool := decide (0 ≤ s) && decide (s ≤ 65535)
def packV : List Int → Int × Int
  | [a] => if okS a then (281474976710656 + a, 0) else (0, 4)
  | [a, b, c] => if okS a && okS b && okS c then (844424930131968 + a * 4294967296 + b * 65536 + c, 0) else (0, 4)
  | _ => (0, 1)
theorem packV3_bad {x y z : Int} (h : x < 0 ∨ 65535 < x ∨ y < 0 ∨ 65535 < y ∨ z < 0 ∨ 65535 < z) : packV [x, y, z] = (0, 4) := by
  show (if (okS x && okS y && okS z) = true then _ else _) = _
  rw [if_neg]; simp [okS]; omega
theorem packV3 {x y z : Int} (hx0 : 0 ≤ x) (hx1 : x ≤ 65535) (hy0 : 0 ≤ y) (hy1 : y ≤ 65535) (hz0 : 0 ≤ z) (hz1 : z ≤ 65535) : packV [x, y, z] = (844424930131968 + x * 4294967296 + y * 65536 + z, 0) := by
  simp [packV, okS, hx0, hx1, hy0, hy1, hz0, hz1]
theorem packV3_badS {x y z : Int} (h : okS x = false ∨ okS y = false ∨ okS z = false) : packV [x, y, z] = (0, 4) := by
  show (if (okS x && okS y && okS z) = true then _ else _) = _
  rw [if_neg]; rcases h with h | h | h <;> simp [h]
theorem packV1_badS {x : Int} (h : okS x = false) : packV [x] = (0, 4) := by
  show (if okS x = true then _ else _) = _
  rw [if_neg]; simp [h]
theorem okS_of {x : Int} (h : okS x = true) : 0 ≤ x ∧ x ≤ 65535 := by simpa [okS] using h
theorem packV1_bad {x : Int} (h : x < 0 ∨ 65535 < x) : packV [x] = (0, 4) := by
  show (if okS x = true then _ else _) = _
  rw [if_neg]; simp [okS]; omega
theorem packV1 {x : Int} (hx0 : 0 ≤ x) (hx1 : x ≤ 65535) : packV [x] = (281474976710656 + x, 0) := by
  simp [packV, okS, hx0, hx1]
theorem packV_len {zs : List Int} (h1 : ¬ zs.length = 1) (h3 : ¬ zs.length = 3) : packV zs = (0, 1) := by
  match zs with
  | [] => rfl
  | [_] => simp at h1
  | [_, _] => rfl
  | [_, _, _] => simp at h3
  | _ :: _ :: _ :: _ :: _ => rfl
def mayV (p : Int) : Bool := !(smp p).isEmpty
def formatV (c m : Int) : Bool := (c == 1 || c == 3) && (decide (1 ≤ m) && decide (m ≤ 65535))
def fitsV (p c m : Int) : Bool := formatV c m && ((smp p).length == c.toNat && (smp p).all fun s => decide (s ≤ m))
def grayV (p : Int) : Int × Int := match smp p with
  | [_] => (p, 0)
  | [a, b, c] => (281474976710656 + (299 * a + 587 * b + 114 * c + 500) / 1000, 0)
  | _ => (0, 1)
def turnedV (p c m : Int) : Int × Int := if fitsV p c m then packV ((smp p).map fun s => m - s) else (0, 1)
def okM (m : Int) : Bool := decide (1 ≤ m) && decide (m ≤ 65535)
def scaledV (p a b : Int) : Int × Int :=
  if okM a && okM b && (!(smp p).isEmpty && (smp p).all fun s => decide (s ≤ a)) then packV ((smp p).map fun s => (s * b + a / 2) / a) else (0, 1)
def aroundV (n most : Int) : Int := (if n < 0 then -(n + 1) else n) % most
def formC (c : Int) : Int := if c % 2 = 0 then 1 else 3
def formM (m : Int) : Int := 1 + aroundV m 65535
def goodL (zs : List Int) (m : Int) : Nat → List Int
  | 0 => []
  | k + 1 => (match zs with | [] => 0 | z :: _ => aroundV z (m + 1)) :: goodL zs.tail m k
def goodV (zs : List Int) (c m : Int) : Int := (packV (goodL zs m c.toNat)).1

theorem fitsV3 {p a b d : Int} (h : Is3 p a b d) (m : Int) : fitsV p 3 m = (formatV 3 m && decide (max (max a b) d ≤ m)) := by
  unfold fitsV; rw [smp3 h]
  by_cases h1 : a ≤ m <;> by_cases h2 : b ≤ m <;> by_cases h3 : d ≤ m <;> simp [h1, h2, h3] <;> omega
theorem fitsV1 {p a : Int} (h : Is1 p a) (m : Int) : fitsV p 1 m = (formatV 1 m && decide (a ≤ m)) := by
  unfold fitsV; rw [smp1 h]
  by_cases h1 : a ≤ m <;> simp [h1]
theorem fitsV_bad {p c m : Int} (h : formatV c m = false) : fitsV p c m = false := by unfold fitsV; rw [h]; rfl
theorem formatC {c m : Int} (h : formatV c m = true) : c = 1 ∨ c = 3 := by
  simp [formatV] at h; exact h.1
theorem formatM {c m : Int} (h : formatV c m = true) : 1 ≤ m ∧ m ≤ 65535 := by
  simp [formatV] at h; exact h.2
theorem fitsV_len {p c m : Int} (h : ((smp p).length : Int) ≠ c) : fitsV p c m = false := by
  cases hf : formatV c m
  · exact fitsV_bad hf
  · unfold fitsV
    have := formatC hf
    rw [show ((smp p).length == c.toNat) = false by rw [beq_eq_false_iff_ne]; omega]; simp
theorem around_lt (n most : Int) (h : 0 < most) : 0 ≤ aroundV n most ∧ aroundV n most < most := by
  unfold aroundV; exact ⟨Int.emod_nonneg _ (by omega), Int.emod_lt_of_pos _ h⟩
end Px
end Pq
end Go.Proofs.Ytflpocnbmpdhiaa

/- Rows of bits, as lists of numbers: bytes told as bits, bits told as bytes, what runs. Plain facts; no memory. No condition. -/
namespace Go.Proofs.Ytflpocnbmpdhiaa
set_option linter.unusedVariables false
namespace Bt
/-- how many bytes a row has -/
def bytesV (w : Int) : Int := if w < 1 ∨ 4096 < w then 0 else (w + 7) / 8
/-- a byte's bits, the highest first -/
def eight (c : Int) : List Int := [c / 128 % 2, c / 64 % 2, c / 32 % 2, c / 16 % 2, c / 8 % 2, c / 4 % 2, c / 2 % 2, c % 2]
theorem eight_len (c : Int) : (eight c).length = 8 := rfl
theorem eight_01 (c : Int) : ∀ x ∈ eight c, x = 0 ∨ x = 1 := by
  intro x hx; simp only [eight, List.mem_cons, List.not_mem_nil, or_false] at hx; omega
def bitsOf : List Int → List Int
  | [] => []
  | c :: l => eight c ++ bitsOf l
theorem bitsOf_len : ∀ l : List Int, (bitsOf l).length = 8 * l.length
  | [] => rfl
  | c :: l => by simp [bitsOf, bitsOf_len l, eight_len]; omega
theorem bitsOf_01 : ∀ (l : List Int), ∀ x ∈ bitsOf l, x = 0 ∨ x = 1
  | [], x, hx => by simp [bitsOf] at hx
  | c :: l, x, hx => by
    rcases List.mem_append.1 hx with h | h
    · exact eight_01 c x h
    · exact bitsOf_01 l x h
theorem bitsOf_append : ∀ a b : List Int, bitsOf (a ++ b) = bitsOf a ++ bitsOf b
  | [], b => rfl
  | c :: a, b => by simp [bitsOf, bitsOf_append a b]
/-- the number of bits, the highest first -/
def num : List Int → Int → Int
  | [], n => n
  | x :: l, n => num l (n * 2 + x)
theorem num_append : ∀ (a b : List Int) (n : Int), num (a ++ b) n = num b (num a n)
  | [], b, n => rfl
  | x :: a, b, n => by simp [num, num_append a b]
/-- a part of at most eight, with noughts behind it -/
def pad (l : List Int) : List Int := l ++ List.replicate (8 - l.length) 0
theorem pad_len (l : List Int) (h : l.length ≤ 8) : (pad l).length = 8 := by simp [pad]; omega
def packB (l : List Int) : List Int :=
  if h : l = [] then [] else num (pad (l.take 8)) 0 :: packB (l.drop 8)
termination_by l.length
decreasing_by have : l.length ≠ 0 := fun e => h (List.eq_nil_of_length_eq_zero e); simp; omega
theorem packB_nil : packB [] = [] := by rw [packB]; simp
theorem packB_more {l : List Int} (h : l ≠ []) : packB l = num (pad (l.take 8)) 0 :: packB (l.drop 8) := by rw [packB, dif_neg h]
def Ones (l : List Int) : Prop := ∀ x ∈ l, x = 0 ∨ x = 1
instance (l : List Int) : Decidable (Ones l) := by unfold Ones; exact inferInstance
def packOk (l : List Int) : Bool := decide (1 ≤ l.length) && decide (l.length ≤ 4096) && decide (Ones l)
def packV (l : List Int) : List Int := if packOk l then packB l else []
def packE (l : List Int) : Int := if packOk l then 0 else 1
/-- the error of a row that is unpacked -/
def rowE (n : Nat) (w : Int) : Int := if bytesV w = 0 then 1 else if (n : Int) < bytesV w then 6 else 0
def unpackV (zs : List Int) (w : Int) : List Int := if rowE zs.length w = 0 then (bitsOf zs).take w.toNat else []
end Bt
end Go.Proofs.Ytflpocnbmpdhiaa

/- Plain facts on rasters of bytes: a reader as a plain function that is told bytes one by one. No condition. -/
namespace Go.Proofs.Ytflpocnbmpdhiaa
open Go.RowKit
set_option linter.unusedVariables false
namespace Rw
/-- parts of length k, one behind the other, and what waits of the next -/
def feed (k : Nat) (t : List (List Int) × List Int) (x : Int) : List (List Int) × List Int :=
  if t.2.length + 1 = k then (t.1 ++ [t.2 ++ [x]], []) else (t.1, t.2 ++ [x])
def parts (k : Nat) (l : List Int) : List (List Int) × List Int := l.foldl (feed k) ([], [])
theorem parts_nil (k : Nat) : parts k [] = ([], []) := rfl
theorem parts_snoc (k : Nat) (l : List Int) (x : Int) : parts k (l ++ [x]) = feed k (parts k l) x := by simp [parts, List.foldl_append]
theorem parts_full {k : Nat} {l : List Int} {x : Int} (h : (parts k l).2.length + 1 = k) : parts k (l ++ [x]) = ((parts k l).1 ++ [(parts k l).2 ++ [x]], []) := by rw [parts_snoc, feed, if_pos h]
theorem parts_wait {k : Nat} {l : List Int} {x : Int} (h : ¬ (parts k l).2.length + 1 = k) : parts k (l ++ [x]) = ((parts k l).1, (parts k l).2 ++ [x]) := by rw [parts_snoc, feed, if_neg h]
theorem snoc_ind {P : List Int → Prop} (h0 : P []) (h1 : ∀ l x, P l → P (l ++ [x])) : ∀ l, P l := by
  intro l
  have : ∀ n, ∀ l : List Int, l.length = n → P l := by
    intro n
    induction n with
    | zero => intro l hl; rw [List.eq_nil_of_length_eq_zero hl]; exact h0
    | succ n ih =>
      intro l hl
      have hne : l ≠ [] := by intro e; subst e; cases hl
      rw [← List.dropLast_concat_getLast hne]
      exact h1 _ _ (ih _ (by rw [List.length_dropLast]; omega))
  exact this _ l rfl
theorem parts_at {k : Nat} (hk : 1 ≤ k) : ∀ l : List Int, (parts k l).2.length < k ∧ (parts k l).1.length * k + (parts k l).2.length = l.length ∧ (∀ p ∈ (parts k l).1, p.length = k) := by
  refine snoc_ind ⟨by simp [parts_nil]; omega, by simp [parts_nil], by simp [parts_nil]⟩ fun l x ⟨h1, h2, h3⟩ => ?_
  by_cases h : (parts k l).2.length + 1 = k
  · rw [parts_full h]
    refine ⟨by simp; omega, ?_, ?_⟩
    · simp only [List.length_append, List.length_singleton, List.length_nil, Nat.add_mul, Nat.one_mul]; omega
    · intro p hp
      rcases List.mem_append.1 hp with hp | hp
      · exact h3 p hp
      · rw [List.mem_singleton.1 hp, List.length_append, List.length_singleton]; exact h
  · rw [parts_wait h]
    exact ⟨by simp only [List.length_append, List.length_singleton]; omega, by simp only [List.length_append, List.length_singleton]; omega, h3⟩
theorem parts_one (l : List Int) : parts 1 l = (l.map (fun x => [x]), []) := by
  refine snoc_ind (P := fun l => parts 1 l = (l.map (fun x => [x]), [])) rfl (fun l x h => ?_) l
  rw [parts_full (by rw [h]; rfl), h]; simp
theorem parts_join {k : Nat} : ∀ l : List Int, (parts k l).1.flatten ++ (parts k l).2 = l := by
  refine snoc_ind rfl fun l x h => ?_
  by_cases h1 : (parts k l).2.length + 1 = k
  · rw [parts_full h1]; simp only [List.flatten_append, List.flatten_cons, List.flatten_nil, List.append_nil]; rw [← List.append_assoc, h]
  · rw [parts_wait h1]; simp only []; rw [← List.append_assoc, h]
/-- a number of its bytes, the highest first -/
def val (l : List Int) : Int := l.foldl (fun a x => a * 256 + x) 0
theorem val_one (x : Int) : val [x] = x := by simp [val]
theorem val_two (x y : Int) : val [x, y] = x * 256 + y := by simp [val]
def wide (h : Hd.H) : Nat := if 255 < h.m then 2 else 1
def chan (h : Hd.H) : Nat := if h.kd = 6 then 3 else 1
theorem wide_at (h : Hd.H) : (255 < h.m ∧ wide h = 2) ∨ (h.m ≤ 255 ∧ wide h = 1) := by unfold wide; split <;> omega
theorem chan_at (h : Hd.H) : (h.kd = 6 ∧ chan h = 3) ∨ (h.kd ≠ 6 ∧ chan h = 1) := by unfold chan; split <;> simp_all
/-- a raster's head -/
def May (h : Hd.H) : Prop := Hd.May h ∧ 4 ≤ h.kd
theorem May.m {h : Hd.H} (H : May h) : 1 ≤ h.m ∧ h.m ≤ 65535 ∧ 1 ≤ h.w ∧ h.w ≤ 4096 ∧ 1 ≤ h.h ∧ h.h ≤ 65536 ∧ 4 ≤ h.kd ∧ h.kd ≤ 6 := by
  obtain ⟨h1, h2⟩ := H
  unfold Hd.May at h1
  omega
theorem May.one {h : Hd.H} (H : May h) (h4 : h.kd = 4) : h.m = 1 ∧ wide h = 1 ∧ chan h = 1 := by
  obtain ⟨h1, h2⟩ := H
  have h3 : h.m = 1 := by
    unfold Hd.May at h1
    have hb : Hd.bits h.kd = true := by unfold Hd.bits; rw [h4]; decide
    obtain ⟨_, _, _, _, h5⟩ := h1
    first
      | exact h5 hb
      | (rcases h5 with h5 | h5
         · exact h5
         · exact absurd hb h5)
  refine ⟨h3, ?_, ?_⟩
  · unfold wide; rw [if_neg (by omega)]
  · unfold chan; rw [if_neg (by omega)]
theorem chan_eq {h : Hd.H} (H : May h) : Hj.chan h = (chan h : Int) := by
  have := H.2
  unfold Hj.chan chan
  by_cases h6 : h.kd = 6
  · rw [if_pos (.inr h6), if_pos h6]; rfl
  · rw [if_neg (by omega), if_neg h6]; rfl
/-- how many bytes a row has -/
def stride (h : Hd.H) : Nat := if h.kd = 4 then ((h.w + 7) / 8).toNat else h.w.toNat * (chan h * wide h)
/-- samples of bytes; pixels of samples; a row's pixels, as many as are whole -/
def smp (h : Hd.H) (r : List Int) : List Int := (parts (wide h) r).1.map val
def pk (p : List Int) : Int := (Pq.Px.packV p).1
def pxs (h : Hd.H) (l : List Int) : List Int := (parts (chan h) l).1.map pk
def rowV (h : Hd.H) (r : List Int) : List Int := if h.kd = 4 then ((Bt.bitsOf r).take h.w.toNat).map (fun x => pk [x]) else pxs h (smp h r)
def oneV (h : Hd.H) (r : List Int) : List Int := if h.kd = 4 then [] else (parts (chan h) (smp h r)).2
def bad (h : Hd.H) (r : List Int) (c : Int) : Prop := h.kd ≠ 4 ∧ (parts (wide h) r).2.length + 1 = wide h ∧ h.m < val ((parts (wide h) r).2 ++ [c])
instance (h : Hd.H) (r : List Int) (c : Int) : Decidable (bad h r c) := by unfold bad; infer_instance
theorem wide_pos (h : Hd.H) : 1 ≤ wide h := by have := wide_at h; omega
theorem chan_pos (h : Hd.H) : 1 ≤ chan h := by have := chan_at h; omega
theorem stride_at {h : Hd.H} (H : May h) : 1 ≤ stride h ∧ stride h ≤ 24576 ∧ (h.kd = 4 → ((stride h : Nat) : Int) = (h.w + 7) / 8) ∧ (h.kd ≠ 4 → ((stride h : Nat) : Int) = h.w * ((chan h : Int) * (wide h : Int))) := by
  have hm := H.m
  unfold stride
  by_cases h4 : h.kd = 4
  · rw [if_pos h4]; exact ⟨by omega, by omega, fun _ => by omega, fun h => absurd h4 h⟩
  · rw [if_neg h4]
    have hc := chan_at h
    have hw := wide_at h
    have e : ((h.w.toNat : Nat) : Int) = h.w := by omega
    refine ⟨?_, ?_, fun h => absurd h h4, fun _ => ?_⟩
    · rcases hc with ⟨_, hc⟩ | ⟨_, hc⟩ <;> rcases hw with ⟨_, hw⟩ | ⟨_, hw⟩ <;> rw [hc, hw] <;> omega
    · rcases hc with ⟨_, hc⟩ | ⟨_, hc⟩ <;> rcases hw with ⟨_, hw⟩ | ⟨_, hw⟩ <;> rw [hc, hw] <;> omega
    · rw [Int.natCast_mul, Int.natCast_mul, e]
theorem smp_len (h : Hd.H) (r : List Int) : (smp h r).length * wide h + (parts (wide h) r).2.length = r.length := by
  have := (parts_at (wide_pos h) r).2.1
  unfold smp; rw [List.length_map]; exact this
theorem pxs_len (h : Hd.H) (l : List Int) : (pxs h l).length * chan h + (parts (chan h) l).2.length = l.length := by
  have := (parts_at (chan_pos h) l).2.1
  unfold pxs; rw [List.length_map]; exact this
/-- how many pixels are whole -/
theorem row_len {h : Hd.H} (H : May h) (r : List Int) : (r.length < stride h → ((rowV h r).length : Int) < h.w) ∧ (r.length = stride h → ((rowV h r).length : Int) = h.w) ∧ (r.length ≤ stride h → ((rowV h r).length : Int) ≤ h.w) := by
  have hm := H.m
  have hs := stride_at H
  by_cases h4 : h.kd = 4
  · have h5 := hs.2.2.1 h4
    have e : (rowV h r).length = min h.w.toNat (8 * r.length) := by unfold rowV; rw [if_pos h4, List.length_map, List.length_take, Bt.bitsOf_len]
    rw [e]
    omega
  · have h5 := hs.2.2.2 h4
    have e : (rowV h r).length = (pxs h (smp h r)).length := by unfold rowV; rw [if_neg h4]
    rw [e]
    have a1 := smp_len h r
    have a2 := (parts_at (wide_pos h) r).1
    have a3 := pxs_len h (smp h r)
    have a4 := (parts_at (chan_pos h) (smp h r)).1
    rcases chan_at h with ⟨_, hc⟩ | ⟨_, hc⟩ <;> rcases wide_at h with ⟨_, hw⟩ | ⟨_, hw⟩ <;> simp only [hc, hw] at a1 a2 a3 a4 h5 <;> omega
theorem one_len {h : Hd.H} (r : List Int) : (oneV h r).length < chan h := by
  unfold oneV
  split
  · exact chan_pos h
  · exact (parts_at (chan_pos h) _).1
/-- a reader: its head, the bytes of its row, how many rows were told, how many bytes are left, why it is wrong -/
structure S where
  h : Hd.H
  cur : List Int
  rows : Int
  left : Int
  e : Int
def new (h : Hd.H) : S := ⟨h, [], 0, Hj.size h, 0⟩
def put (s : S) (c : Int) : S × List Int :=
  if s.left = 0 then (s, [])
  else if bad s.h s.cur c then (⟨s.h, s.cur, s.rows, 0, 5⟩, [])
  else if s.cur.length + 1 = stride s.h then (⟨s.h, [], s.rows + 1, s.left - 1, 0⟩, rowV s.h (s.cur ++ [c]))
  else (⟨s.h, s.cur ++ [c], s.rows, s.left - 1, 0⟩, [])
/-- what it is then: 0, 1 (over), 2 (wrong) -/
def last (s : S) : Int := if s.e ≠ 0 then 2 else if s.left = 0 then 1 else 0
theorem size_eq {h : Hd.H} (H : May h) : Hj.size h = h.h * (stride h : Int) := by
  have hs := stride_at H
  have hm := H.m
  by_cases h4 : h.kd = 4
  · rw [Hj.size_4 h4, hs.2.2.1 h4]
  · rw [Hj.size_5 (by omega), hs.2.2.2 h4, chan_eq H]
    have e : ((wide h : Nat) : Int) = if 255 < h.m then 2 else 1 := by unfold wide; split <;> rfl
    rw [← e]
    rw [Int.mul_comm h.w h.h, Int.mul_assoc, Int.mul_assoc]
/-- what is so of each reader -/
structure Good (s : S) : Prop where
  may : May s.h
  cur : s.cur.length < stride s.h
  byte : ∀ x ∈ s.cur, 0 ≤ x ∧ x ≤ 255
  rows0 : 0 ≤ s.rows
  rows1 : s.rows ≤ s.h.h
  e : s.e = 0 ∨ s.e = 5
  left0 : 0 ≤ s.left
  left1 : s.e = 0 → s.left + s.rows * (stride s.h : Int) + (s.cur.length : Int) = s.h.h * (stride s.h : Int)
  left5 : s.e = 5 → s.left = 0
  smp : s.h.kd ≠ 4 → ∀ x ∈ smp s.h s.cur, 0 ≤ x ∧ x ≤ s.h.m
theorem good_new {h : Hd.H} (H : May h) : Good (new h) := by
  have hm := H.m
  have hs := stride_at H
  have h0 : 0 ≤ h.h * (stride h : Int) := Int.mul_nonneg (by omega) (by omega)
  exact ⟨H, hs.1, (fun x hx => by cases hx), Int.le_refl _, by show (0 : Int) ≤ h.h; omega, .inl rfl, by show 0 ≤ Hj.size h; rw [size_eq H]; exact h0, (fun _ => by show Hj.size h + 0 * (stride h : Int) + ((0 : Nat) : Int) = h.h * (stride h : Int); rw [size_eq H]; omega), (fun h => by cases h), (fun _ x hx => by cases hx)⟩
theorem smp_more {h : Hd.H} {r : List Int} {c : Int} (H : (parts (wide h) r).2.length + 1 = wide h) : smp h (r ++ [c]) = smp h r ++ [val ((parts (wide h) r).2 ++ [c])] := by unfold smp; rw [parts_full H]; simp
theorem smp_wait {h : Hd.H} {r : List Int} {c : Int} (H : ¬ (parts (wide h) r).2.length + 1 = wide h) : smp h (r ++ [c]) = smp h r := by unfold smp; rw [parts_wait H]
theorem wait_in {h : Hd.H} {r : List Int} (hr : ∀ x ∈ r, 0 ≤ x ∧ x ≤ 255) : (parts (wide h) r).2 = [] ∨ ∃ x, (parts (wide h) r).2 = [x] ∧ 0 ≤ x ∧ x ≤ 255 ∧ wide h = 2 := by
  have h1 := (parts_at (wide_pos h) r).1
  have h2 := parts_join (k := wide h) r
  obtain ⟨l, hl⟩ : ∃ l, (parts (wide h) r).2 = l := ⟨_, rfl⟩
  rw [hl] at h1 h2 ⊢
  have hw := wide_at h
  match l, h1, h2 with
  | [], _, _ => exact .inl rfl
  | [x], h1, h2 =>
    have hx := hr x (by rw [← h2]; simp)
    exact .inr ⟨x, rfl, hx.1, hx.2, by simp at h1; omega⟩
  | x :: y :: l, h1, _ => simp at h1; omega
theorem good_put {s : S} (G : Good s) (c : Int) (c0 : 0 ≤ c) (c1 : c ≤ 255) : Good (put s c).1 := by
  have hm := G.may.m
  have hs := stride_at G.may
  have hb : ∀ x ∈ s.cur ++ [c], 0 ≤ x ∧ x ≤ 255 := fun x hx => by
    rcases List.mem_append.1 hx with hx | hx
    · exact G.byte x hx
    · rw [List.mem_singleton.1 hx]; exact ⟨c0, c1⟩
  unfold put
  split
  · exact G
  rename_i h0
  have e0 : s.e = 0 := by
    rcases G.e with h | h
    · exact h
    · exact absurd (G.left5 h) h0
  have hl := G.left1 e0
  have hl0 := G.left0
  split
  · exact ⟨G.may, G.cur, G.byte, G.rows0, G.rows1, .inr rfl, Int.le_refl _, (fun h => by cases h), fun _ => rfl, G.smp⟩
  rename_i h1
  split
  · rename_i h2
    refine ⟨G.may, hs.1, (fun x hx => by cases hx), by show 0 ≤ s.rows + 1; have := G.rows0; omega, ?_, .inl rfl, by show 0 ≤ s.left - 1; omega, fun _ => ?_, (fun h => by cases h), (fun _ x hx => by cases hx)⟩
    · show s.rows + 1 ≤ s.h.h
      have hp : (1 : Int) ≤ (stride s.h : Int) := by omega
      apply Int.not_lt.1
      intro hn
      have h3 : s.h.h ≤ s.rows := by omega
      have h4 : s.h.h * (stride s.h : Int) ≤ s.rows * (stride s.h : Int) := Int.mul_le_mul_of_nonneg_right h3 (by omega)
      omega
    · show s.left - 1 + (s.rows + 1) * (stride s.h : Int) + ((0 : Nat) : Int) = s.h.h * (stride s.h : Int)
      rw [Int.add_mul, Int.one_mul]; omega
  · rename_i h2
    refine ⟨G.may, by show (s.cur ++ [c]).length < stride s.h; rw [List.length_append, List.length_singleton]; have := G.cur; omega, hb, G.rows0, G.rows1, .inl rfl, by show 0 ≤ s.left - 1; omega, fun _ => ?_, (fun h => by cases h), fun h4 x hx => ?_⟩
    · show s.left - 1 + s.rows * (stride s.h : Int) + (((s.cur ++ [c]).length : Nat) : Int) = s.h.h * (stride s.h : Int)
      rw [List.length_append, List.length_singleton]; omega
    · replace hx : x ∈ smp s.h (s.cur ++ [c]) := hx
      by_cases hf : (parts (wide s.h) s.cur).2.length + 1 = wide s.h
      · rw [smp_more hf] at hx
        rcases List.mem_append.1 hx with hx | hx
        · exact G.smp h4 x hx
        · rw [List.mem_singleton.1 hx]
          refine ⟨?_, Int.not_lt.1 fun hn => h1 ⟨h4, hf, hn⟩⟩
          rcases wait_in (h := s.h) G.byte with e | ⟨y, e, y0, y1, _⟩
          · rw [e]; simp [val_one]; exact c0
          · rw [e]; show 0 ≤ val [y, c]; rw [val_two]; omega
      · rw [smp_wait hf] at hx; exact G.smp h4 x hx
end Rw
end Go.Proofs.Ytflpocnbmpdhiaa

/- Plain facts on rasters of digits: a reader as a plain function that is told bytes one by one. No condition. -/
namespace Go.Proofs.Ytflpocnbmpdhiaa
open Go.RowKit
set_option linter.unusedVariables false
namespace Pl
/-- a reader: its head, the number that is told, whether digits are, samples of a pixel, pixels of a row, how many rows were told, whether it is over or wrong (1, 2), why -/
structure S where
  h : Hd.H
  n : Int
  d : Bool
  one : List Int
  row : List Int
  rows : Int
  last : Int
  e : Int
def new (h : Hd.H) : S := ⟨h, 0, false, [], [], 0, 0, 0⟩
def wrong (s : S) (e : Int) : S := ⟨s.h, s.n, s.d, s.one, s.row, s.rows, 2, e⟩
def pix (s : S) (n : Int) : Int := (Pq.Px.packV (s.one ++ [n])).1
/-- a sample that ends no pixel; one that ends no row; one that ends a row -/
def more (s : S) (n : Int) : S := ⟨s.h, 0, false, s.one ++ [n], s.row, s.rows, 0, 0⟩
def pixel (s : S) (n : Int) : S := ⟨s.h, 0, false, [], s.row ++ [pix s n], s.rows, 0, 0⟩
def line (s : S) (n : Int) : S := ⟨s.h, 0, false, [], [], s.rows + 1, if s.rows + 1 = s.h.h then 1 else 0, 0⟩
def sample (s : S) (n : Int) : S × List Int :=
  if (s.one.length : Int) + 1 < Hj.chan s.h then (more s n, [])
  else if (s.row.length : Int) + 1 < s.h.w then (pixel s n, [])
  else (line s n, s.row ++ [pix s n])
def digit (s : S) (n : Int) : S := ⟨s.h, n, true, s.one, s.row, s.rows, 0, 0⟩
def put (s : S) (c : Int) : S × List Int :=
  if s.last ≠ 0 then (s, [])
  else if Tk.blank c = true then (if s.d = true then sample s s.n else (s, []))
  else if s.h.kd = 1 then (if c = 48 ∨ c = 49 then sample s (c - 48) else (wrong s 3, []))
  else if (Nu.stepV s.n c s.h.m).2 = 0 then (digit s (Nu.stepV s.n c s.h.m).1, [])
  else (wrong s (if (Nu.stepV s.n c s.h.m).2 = 4 then 5 else (Nu.stepV s.n c s.h.m).2), [])
def fin (s : S) : S × List Int :=
  if (put s 32).1.last = 0 then (wrong (put s 32).1 6, (put s 32).2) else put s 32
/-- which heads are a plain raster's -/
def May (h : Hd.H) : Prop := Hd.May h ∧ h.kd ≤ 3
/-- what is so of each reader -/
structure Good (s : S) : Prop where
  may : May s.h
  n0 : 0 ≤ s.n
  n1 : s.n ≤ s.h.m
  nd : s.d = false → s.n = 0
  kd : s.h.kd = 1 → s.d = false
  one : (s.one.length : Int) < Hj.chan s.h
  oneIn : ∀ x ∈ s.one, 0 ≤ x ∧ x ≤ s.h.m
  row : (s.row.length : Int) < s.h.w
  rows0 : 0 ≤ s.rows
  rows1 : s.last = 0 → s.rows < s.h.h
  rows2 : s.rows ≤ s.h.h
  last : s.last = 0 ∨ s.last = 1 ∨ s.last = 2
  e0 : s.last ≠ 2 → s.e = 0
  e2 : s.last = 2 → s.e = 3 ∨ s.e = 5 ∨ s.e = 6
theorem May.m {h : Hd.H} (H : May h) : 1 ≤ h.m ∧ h.m ≤ 65535 ∧ 1 ≤ h.w ∧ h.w ≤ 4096 ∧ 1 ≤ h.h ∧ h.h ≤ 65536 ∧ 1 ≤ h.kd ∧ h.kd ≤ 3 := by
  obtain ⟨h1, h2⟩ := H
  unfold Hd.May at h1
  omega
theorem good_new {h : Hd.H} (H : May h) : Good (new h) := by
  have := H.m
  have hc := Hj.chan_at h
  exact ⟨H, Int.le_refl _, by show (0 : Int) ≤ h.m; omega, fun _ => rfl, fun _ => rfl, by show ((0 : Nat) : Int) < Hj.chan h; omega, (fun x hx => by cases hx), by show ((0 : Nat) : Int) < h.w; omega, Int.le_refl _, fun _ => by show (0 : Int) < h.h; omega, by show (0 : Int) ≤ h.h; omega, .inl rfl, fun _ => rfl, (fun h => absurd h (show ¬ (0 : Int) = 2 by decide))⟩
theorem good_wrong {s : S} (H : Good s) {e : Int} (he : e = 3 ∨ e = 5 ∨ e = 6) : Good (wrong s e) :=
  ⟨H.may, H.n0, H.n1, H.nd, H.kd, H.one, H.oneIn, H.row, H.rows0, (fun h => absurd h (show ¬ (2 : Int) = 0 by decide)), H.rows2, .inr (.inr rfl), fun h => absurd rfl h, fun _ => he⟩
theorem good_sample {s : S} (H : Good s) (h0 : s.last = 0) (n : Int) (n0 : 0 ≤ n) (n1 : n ≤ s.h.m) : Good (sample s n).1 := by
  have hm := H.may.m
  have hc := Hj.chan_at s.h
  have hr := H.rows1 h0
  have hr0 := H.rows0
  have ho := H.one
  have hw := H.row
  unfold sample
  split
  · rename_i h1
    exact ⟨H.may, Int.le_refl _, by show (0 : Int) ≤ s.h.m; omega, fun _ => rfl, fun _ => rfl, by show (((s.one ++ [n]).length : Nat) : Int) < Hj.chan s.h; rw [List.length_append, List.length_singleton]; omega, (fun x hx => by
      rcases List.mem_append.1 hx with hx | hx
      · exact H.oneIn x hx
      · rw [List.mem_singleton.1 hx]; exact ⟨n0, n1⟩), H.row, H.rows0, fun _ => hr, H.rows2, .inl rfl, fun _ => rfl, (fun h => absurd h (show ¬ (0 : Int) = 2 by decide))⟩
  split
  · rename_i h1 h2
    exact ⟨H.may, Int.le_refl _, by show (0 : Int) ≤ s.h.m; omega, fun _ => rfl, fun _ => rfl, by show ((0 : Nat) : Int) < Hj.chan s.h; omega, (fun x hx => by cases hx), by show (((s.row ++ [pix s n]).length : Nat) : Int) < s.h.w; rw [List.length_append, List.length_singleton]; omega, H.rows0, fun _ => hr, H.rows2, .inl rfl, fun _ => rfl, (fun h => absurd h (show ¬ (0 : Int) = 2 by decide))⟩
  · refine ⟨H.may, Int.le_refl _, by show (0 : Int) ≤ s.h.m; omega, fun _ => rfl, fun _ => rfl, by show ((0 : Nat) : Int) < Hj.chan s.h; omega, (fun x hx => by cases hx), by show ((0 : Nat) : Int) < s.h.w; omega, by show 0 ≤ s.rows + 1; omega, ?_, by show s.rows + 1 ≤ s.h.h; omega, ?_, fun _ => rfl, ?_⟩
    · intro h
      have h : (if s.rows + 1 = s.h.h then (1 : Int) else 0) = 0 := h
      show s.rows + 1 < s.h.h
      split at h
      · cases h
      · omega
    · show (if s.rows + 1 = s.h.h then (1 : Int) else 0) = 0 ∨ (if s.rows + 1 = s.h.h then (1 : Int) else 0) = 1 ∨ _
      split
      · exact .inr (.inl rfl)
      · exact .inl rfl
    · intro h
      have h : (if s.rows + 1 = s.h.h then (1 : Int) else 0) = 2 := h
      split at h <;> cases h
theorem good_put {s : S} (H : Good s) (c : Int) : Good (put s c).1 := by
  have hm := H.may.m
  unfold put
  split
  · exact H
  rename_i h0
  have h0 : s.last = 0 := by omega
  split
  · split
    · exact good_sample H h0 s.n H.n0 H.n1
    · exact H
  split
  · split
    · exact good_sample H h0 (c - 48) (by omega) (by omega)
    · exact good_wrong H (.inl rfl)
  rename_i hk
  split
  · rename_i he
    obtain ⟨g1, g2⟩ := Nu.stepV_le s.n c s.h.m H.n0 H.n1 he
    exact ⟨H.may, g1, g2, (fun h => absurd h (show ¬ true = false by decide)), (fun h => absurd h hk), H.one, H.oneIn, H.row, H.rows0, (fun _ => H.rows1 h0), H.rows2, .inl rfl, fun _ => rfl, (fun h => absurd h (show ¬ (0 : Int) = 2 by decide))⟩
  · rename_i he
    refine good_wrong H ?_
    have := Tk.stepV_e s.n c s.h.m
    split <;> omega
theorem good_fin {s : S} (H : Good s) : Good (fin s).1 := by
  unfold fin
  split
  · exact good_wrong (good_put H 32) (.inr (.inr rfl))
  · exact good_put H 32
end Pl
end Go.Proofs.Ytflpocnbmpdhiaa

/- A reader of a number in a block of its own, over any memory: what it is made of, and what its parts do. Condition: its greatest number fits. -/
namespace Go.Proofs.Ytflpocnbmpdhiaa
open Go.RowKit
set_option linter.unusedVariables false

/-- the six cells of a reader -/
def RdC (w : World) (b : Nat) (m v : Int) (g : Bool) (t f : Int) (x : Value) : Prop :=
  w.heap[b]? = some (.cells #[.int .i64 m, .int .i64 v, .bool g, .int .i64 t, .int .i64 f, x] 183 (0, 0))
section
variable {w w' : World} {b : Nat} {m v : Int} {g : Bool} {t f : Int} {x : Value}
theorem RdC.lt (h : RdC w b m v g t f x) : b < w.heap.size := (Array.getElem?_eq_some_iff.1 h).1
theorem RdC.later (h : RdC w b m v g t f x) (hb : Below w.heap.size w w') : RdC w' b m v g t f x := (hb.block b h.lt).trans h
theorem RdC.kept {row : Option Nat} (h : RdC w b m v g t f x) (hg : w.grownBy w' row) (hne : some b ≠ row) : RdC w' b m v g t f x := (hg.block b h.lt hne).trans h
theorem RdC.c0 (h : RdC w b m v g t f x) : w.cell? ⟨b, 0, none⟩ = some (.int .i64 m) := by have h' : w.heap[b]? = _ := h; simp [World.cell?, h']
theorem RdC.c1 (h : RdC w b m v g t f x) : w.cell? ⟨b, 1, none⟩ = some (.int .i64 v) := by have h' : w.heap[b]? = _ := h; simp [World.cell?, h']
theorem RdC.c2 (h : RdC w b m v g t f x) : w.cell? ⟨b, 2, none⟩ = some (.bool g) := by have h' : w.heap[b]? = _ := h; simp [World.cell?, h']
theorem RdC.c3 (h : RdC w b m v g t f x) : w.cell? ⟨b, 3, none⟩ = some (.int .i64 t) := by have h' : w.heap[b]? = _ := h; simp [World.cell?, h']
theorem RdC.c4 (h : RdC w b m v g t f x) : w.cell? ⟨b, 4, none⟩ = some (.int .i64 f) := by have h' : w.heap[b]? = _ := h; simp [World.cell?, h']
theorem RdC.c5 (h : RdC w b m v g t f x) : w.cell? ⟨b, 5, none⟩ = some x := by have h' : w.heap[b]? = _ := h; simp [World.cell?, h']
theorem RdC.fr (h : RdC w b m v g t f x) (o : Nat) : w.frozen? ⟨b, o, none⟩ = false := by have h' : w.heap[b]? = _ := h; simp [World.frozen?, h']
theorem RdC.drewN (h : RdC w b m v g t f x) (n : Nat) : RdC (w.drewN n) b m v g t f x := h
theorem RdC.put1 (h : RdC w b m v g t f x) (y : Int) : RdC (w.setCell ⟨b, 1, none⟩ (.int .i64 y)) b m y g t f x := by
  have h' : w.heap[b]? = _ := h
  simpa [RdC] using Go.heap_setCell_same w b 1 _ _ (.int .i64 y) h'
theorem RdC.put2 (h : RdC w b m v g t f x) (y : Bool) : RdC (w.setCell ⟨b, 2, none⟩ (.bool y)) b m v y t f x := by
  have h' : w.heap[b]? = _ := h
  simpa [RdC] using Go.heap_setCell_same w b 2 _ _ (.bool y) h'
theorem RdC.put3 (h : RdC w b m v g t f x) (y : Int) : RdC (w.setCell ⟨b, 3, none⟩ (.int .i64 y)) b m v g y f x := by
  have h' : w.heap[b]? = _ := h
  simpa [RdC] using Go.heap_setCell_same w b 3 _ _ (.int .i64 y) h'
theorem RdC.put4 (h : RdC w b m v g t f x) (y : Int) : RdC (w.setCell ⟨b, 4, none⟩ (.int .i64 y)) b m v g t y x := by
  have h' : w.heap[b]? = _ := h
  simpa [RdC] using Go.heap_setCell_same w b 4 _ _ (.int .i64 y) h'
theorem RdC.put5 (h : RdC w b m v g t f x) (y : Value) : RdC (w.setCell ⟨b, 5, none⟩ y) b m v g t f y := by
  have h' : w.heap[b]? = _ := h
  simpa [RdC] using Go.heap_setCell_same w b 5 _ _ y h'
end
theorem grown_set (W : World) (b o : Nat) (v : Value) : W.grownBy (W.setCell ⟨b, o, none⟩ v) (some b) :=
  ⟨rfl, rfl, rfl, by simp, fun k hk hn => Below.heap_setCell W _ v k (by intro e; exact hn (by rw [e]))⟩
theorem grown_drew (W : World) (n : Nat) (row : Option Nat) : W.grownBy (W.drewN n) row := ⟨rfl, rfl, rfl, Nat.le_refl _, fun _ _ _ => rfl⟩
def nxA (b : Nat) : Value := .func (.func 144) #[.pointer (some ⟨b, 0, none⟩)] #[]
def nxR (b : Nat) : Value := .func (.func 145) #[.pointer (some ⟨b, 0, none⟩)] #[]
def nxD (b : Nat) : Value := .func (.func 146) #[.pointer (some ⟨b, 0, none⟩)] #[]
def nxB (b : Nat) : Value := .func (.func 149) #[.pointer (some ⟨b, 0, none⟩)] #[]

set_option maxHeartbeats 1000000 in
theorem tokNew_any (m : Int) (w : World) :
    Calls Try.prog 139 #[.int .i64 m] w fun e w' => e = .returned (.pointer (some ⟨w.heap.size, 0, none⟩)) ∧ RdC w' w.heap.size m 0 false 0 0 (nxA w.heap.size) ∧ Below w.heap.size w w' := by
  go_enter Try.func139, Try.ntmps139
  go_wp2
  go_ret
  exact ⟨rfl, World.alloc_heap_new w _, by go_grown⟩

theorem Tk.blank_yes {c : Int} (h : c = 32 ∨ (9 ≤ c ∧ c ≤ 13)) : Tk.blank c = true := by unfold Tk.blank; exact decide_eq_true h
theorem Tk.blank_no {c : Int} (h : ¬ (c = 32 ∨ (9 ≤ c ∧ c ≤ 13))) : Tk.blank c = false := by unfold Tk.blank; exact decide_eq_false h
theorem ret_b {a b : Bool} (h : a = b) : Ending.returned (.bool a) = .returned (.bool b) := by rw [h]
set_option maxHeartbeats 1000000 in
theorem blank_any (c : Int) (c0 : 0 ≤ c) (c1 : c ≤ 255) (w : World) :
    Calls Try.prog 124 #[.int .u8 c] w fun e w' => e = .returned (.bool (Tk.blank c)) ∧ w = w' := by
  by_cases h1 : c < 9
  · have X := Lib.hid (Tk.blank_no (c := c) (by omega))
    have h2 : (c == 32) = false := by simp; omega
    have h3 : decide (9 ≤ c) = false := decide_eq_false (by omega)
    clear c0 c1
    go_enter Try.func124, Try.ntmps124
    go_wp2
    go_ret
    exact ⟨ret_b X.out.symm, rfl⟩
  by_cases h2 : c ≤ 13
  · have X := Lib.hid (Tk.blank_yes (c := c) (by omega))
    have h3 : decide (9 ≤ c) = true := decide_eq_true (by omega)
    have h4 : decide (c ≤ 13) = true := decide_eq_true (by omega)
    have h5 : 9 ≤ c := by omega
    clear h1
    go_enter Try.func124, Try.ntmps124
    go_wp2
    go_ret
    exact ⟨ret_b X.out.symm, rfl⟩
  have h3 : decide (9 ≤ c) = true := decide_eq_true (by omega)
  have h4 : decide (c ≤ 13) = false := decide_eq_false (by omega)
  have h6 : 9 ≤ c := by omega
  by_cases h5 : c = 32
  · subst h5
    have X := Lib.hid (Tk.blank_yes (c := 32) (by omega))
    go_enter Try.func124, Try.ntmps124
    go_wp2
    go_ret
    exact ⟨ret_b X.out.symm, rfl⟩
  · have X := Lib.hid (Tk.blank_no (c := c) (by omega))
    have h7 : (c == 32) = false := by simp; omega
    go_enter Try.func124, Try.ntmps124
    go_wp2
    go_ret
    exact ⟨ret_b X.out.symm, rfl⟩
set_option maxHeartbeats 1000000 in
theorem refBlank_any (c : Int) (c0 : 0 ≤ c) (c1 : c ≤ 255) (w : World) :
    Calls Try.prog 48 #[.int .u8 c] w fun e w' => e = .returned (.bool (Tk.blank c)) ∧ w = w' := by
  by_cases h5 : c = 32
  · subst h5
    have X := Lib.hid (Tk.blank_yes (c := 32) (by omega))
    go_enter Try.func48, Try.ntmps48
    go_wp2
    go_ret
    exact ⟨ret_b X.out.symm, rfl⟩
  have h7 : (c == 32) = false := by simp; omega
  by_cases h1 : c < 9
  · have X := Lib.hid (Tk.blank_no (c := c) (by omega))
    have h3 : decide (9 ≤ c) = false := decide_eq_false (by omega)
    clear c0 c1
    go_enter Try.func48, Try.ntmps48
    go_wp2
    go_ret
    exact ⟨ret_b X.out.symm, rfl⟩
  have h3 : decide (9 ≤ c) = true := decide_eq_true (by omega)
  have h6 : 9 ≤ c := by omega
  by_cases h2 : c ≤ 13
  · have X := Lib.hid (Tk.blank_yes (c := c) (by omega))
    have h4 : decide (c ≤ 13) = true := decide_eq_true (by omega)
    go_enter Try.func48, Try.ntmps48
    go_wp2
    go_ret
    exact ⟨ret_b X.out.symm, rfl⟩
  · have X := Lib.hid (Tk.blank_no (c := c) (by omega))
    have h4 : decide (c ≤ 13) = false := decide_eq_false (by omega)
    go_enter Try.func48, Try.ntmps48
    go_wp2
    go_ret
    exact ⟨ret_b X.out.symm, rfl⟩
set_option maxHeartbeats 1000000 in
theorem ends_any (c : Int) (c0 : 0 ≤ c) (c1 : c ≤ 255) (w : World) :
    Calls Try.prog 148 #[.int .u8 c] w fun e w' => e = .returned (.bool (Tk.line c)) ∧ w = w' := by
  by_cases h5 : c = 10
  · subst h5
    go_enter Try.func148, Try.ntmps148
    go_wp2
    go_ret
    exact ⟨rfl, rfl⟩
  have h7 : (c == 10) = false := by simp; omega
  by_cases h6 : c = 13
  · subst h6
    go_enter Try.func148, Try.ntmps148
    go_wp2
    go_ret
    exact ⟨rfl, rfl⟩
  · have h8 : (c == 13) = false := by simp; omega
    have X : Hid (Tk.line c = false) := by show _ = _; unfold Tk.line; exact decide_eq_false (by omega)
    go_enter Try.func148, Try.ntmps148
    go_wp2
    go_ret
    exact ⟨ret_b X.out.symm, rfl⟩
set_option maxHeartbeats 1000000 in
/-- a digit is taken -/
theorem take_yes (w : World) (b : Nat) (m v : Int) (g : Bool) (t f : Int) (x : Value) (h : RdC w b m v g t f x) (v0 : 0 ≤ v) (v1 : v ≤ m) (m1 : m ≤ 4611686018427387903) (c : Int) (c0 : 0 ≤ c) (c1 : c ≤ 255) (n : Int) (hs : Nu.stepV v c m = (n, 0)) :
    Calls Try.prog 147 #[.pointer (some ⟨b, 0, none⟩), .int .u8 c] w fun e w' => e = .returned (.int .i64 0) ∧ RdC w' b m n true t f x ∧ w.grownBy w' (some b) := by
  have hc0 := h.c0
  have hc1 := h.c1
  have hc2 := h.c2
  have HS : Hid (∀ W, Calls Try.prog 138 #[.int .i64 v, .int .u8 c, .int .i64 m] W fun r w' => r = .returned (.tuple #[.int .i64 n, .int .i64 0]) ∧ W = w') := fun W => step_two v c m v0 v1 m1 c0 c1 n 0 hs W
  have f1 := h.fr 1
  have f2 := h.fr 2
  clear hs
  go_enter Try.func147, Try.ntmps147
  go_wp2_with (go_quiet ((go_at_call 138; exact Calls.quiet_of_same ((HS.out _).mono fun e w' hh => ⟨hh.1, hh.2.symm⟩))))
  go_ret
  exact ⟨rfl, ((h.drewN _).put1 _).put2 _, ((grown_drew _ _ _).trans (grown_set _ _ _ _)).trans (grown_set _ _ _ _)⟩
set_option maxHeartbeats 1000000 in
/-- a byte is refused -/
theorem take_no (w : World) (b : Nat) (m v : Int) (g : Bool) (t f : Int) (x : Value) (h : RdC w b m v g t f x) (v0 : 0 ≤ v) (v1 : v ≤ m) (m1 : m ≤ 4611686018427387903) (c : Int) (c0 : 0 ≤ c) (c1 : c ≤ 255) (n e : Int) (hs : Nu.stepV v c m = (n, e)) (he : e ≠ 0) :
    Calls Try.prog 147 #[.pointer (some ⟨b, 0, none⟩), .int .u8 c] w fun r w' => r = .returned (.int .i64 2) ∧ RdC w' b m v g t e x ∧ w.grownBy w' (some b) := by
  have hc0 := h.c0
  have hc1 := h.c1
  have HS : Hid (∀ W, Calls Try.prog 138 #[.int .i64 v, .int .u8 c, .int .i64 m] W fun r w' => r = .returned (.tuple #[.int .i64 n, .int .i64 e]) ∧ W = w') := fun W => step_two v c m v0 v1 m1 c0 c1 n e hs W
  have f4 := h.fr 4
  have hc4 := h.c4
  have ke : (e != 0) = true := by simpa using he
  clear hs he
  go_enter Try.func147, Try.ntmps147
  go_wp2_with (go_quiet ((go_at_call 138; exact Calls.quiet_of_same ((HS.out _).mono fun e w' hh => ⟨hh.1, hh.2.symm⟩))))
  go_ret
  exact ⟨rfl, (h.drewN _).put4 _, (grown_drew _ _ _).trans (grown_set _ _ _ _)⟩
end Go.Proofs.Ytflpocnbmpdhiaa

/- A reader of a number is told a byte, over any memory. Condition: its greatest number fits. -/
namespace Go.Proofs.Ytflpocnbmpdhiaa
open Go.RowKit
set_option linter.unusedVariables false

/-- what a part of a reader hands back, and what its block holds then -/
def PtR (w : World) (b : Nat) (m v : Int) (g : Bool) (f : Int) (x : Value) (t : Int) (e : Ending) (w' : World) : Prop :=
  e = .returned (.int .i64 t) ∧ RdC w' b m v g 0 f x ∧ w.grownBy w' (some b)
set_option maxHeartbeats 1000000 in
theorem ahead_blank (w : World) (b : Nat) (m v : Int) (g : Bool) (f : Int) (c : Int) (c0 : 0 ≤ c) (c1 : c ≤ 255) (hb : Tk.blank c = true) (h : RdC w b m v g 0 f (nxA b)) :
    Calls Try.prog 144 #[.pointer (some ⟨b, 0, none⟩), .int .u8 c] w (PtR w b m v g f (nxA b) 0) := by
  have HB : Hid (∀ W, Calls Try.prog 124 #[.int .u8 c] W fun e w' => e = .returned (.bool true) ∧ W = w') := fun W => by have := blank_any c c0 c1 W; rw [hb] at this; exact this
  clear hb
  go_enter Try.func144, Try.ntmps144
  go_wp2_with (go_at_call 124; refine (HB.out _).mono ?_; rintro e w1 ⟨rfl, rfl⟩)
  go_ret
  exact ⟨rfl, h, .refl _ _⟩
set_option maxHeartbeats 1000000 in
theorem ahead_rem (w : World) (b : Nat) (m v : Int) (g : Bool) (f : Int) (c : Int) (c0 : 0 ≤ c) (c1 : c ≤ 255) (hc : c = 35) (h : RdC w b m v g 0 f (nxA b)) :
    Calls Try.prog 144 #[.pointer (some ⟨b, 0, none⟩), .int .u8 c] w (PtR w b m v g f (nxR b) 0) := by
  subst hc
  have hb : Tk.blank 35 = false := by decide
  have HB : Hid (∀ W, Calls Try.prog 124 #[.int .u8 35] W fun e w' => e = .returned (.bool false) ∧ W = w') := fun W => by have := blank_any 35 c0 c1 W; rw [hb] at this; exact this
  have hc5 := h.c5
  have hf5 := h.fr 5
  clear hb
  go_enter Try.func144, Try.ntmps144
  go_wp2_with (go_at_call 124; refine (HB.out _).mono ?_; rintro e w1 ⟨rfl, rfl⟩)
  go_ret
  exact ⟨rfl, h.put5 _, grown_set _ _ _ _⟩
set_option maxHeartbeats 1000000 in
theorem ahead_yes (w : World) (b : Nat) (m v : Int) (g : Bool) (f : Int) (c : Int) (c0 : 0 ≤ c) (c1 : c ≤ 255) (hb : Tk.blank c = false) (hc : ¬ c = 35) (v0 : 0 ≤ v) (v1 : v ≤ m) (m1 : m ≤ 4611686018427387903) (n : Int) (hs : Nu.stepV v c m = (n, 0)) (h : RdC w b m v g 0 f (nxA b)) :
    Calls Try.prog 144 #[.pointer (some ⟨b, 0, none⟩), .int .u8 c] w (PtR w b m n true f (nxD b) 0) := by
  have HB : Hid (∀ W, Calls Try.prog 124 #[.int .u8 c] W fun e w' => e = .returned (.bool false) ∧ W = w') := fun W => by have := blank_any c c0 c1 W; rw [hb] at this; exact this
  have HT : Hid (∀ W, RdC W b m v g 0 f (nxD b) → Calls Try.prog 147 #[.pointer (some ⟨b, 0, none⟩), .int .u8 c] W (PtR W b m n true f (nxD b) 0)) := fun W hr => (take_yes W b m v g 0 f (nxD b) hr v0 v1 m1 c c0 c1 n hs).mono fun _ _ hh => hh
  have hk : (c == 35) = false := by simpa using hc
  have hc5 := h.c5
  have hf5 := h.fr 5
  clear hb hc v0 v1 m1 hs
  go_enter Try.func144, Try.ntmps144
  go_wp2_with (first | (go_at_call 124; refine (HB.out _).mono ?_; rintro e w1 ⟨rfl, rfl⟩) | (go_at_call 147; refine (HT.out _ (h.put5 _)).mono ?_; rintro e w2 ⟨rfl, h2, hg2⟩))
  go_ret
  exact ⟨rfl, h2, (grown_set _ _ _ _).trans hg2⟩
set_option maxHeartbeats 1000000 in
theorem digit_yes (w : World) (b : Nat) (m v : Int) (g : Bool) (f : Int) (c : Int) (c0 : 0 ≤ c) (c1 : c ≤ 255) (hb : Tk.blank c = false) (hc : ¬ c = 35) (v0 : 0 ≤ v) (v1 : v ≤ m) (m1 : m ≤ 4611686018427387903) (n : Int) (hs : Nu.stepV v c m = (n, 0)) (h : RdC w b m v g 0 f (nxD b)) :
    Calls Try.prog 146 #[.pointer (some ⟨b, 0, none⟩), .int .u8 c] w (PtR w b m n true f (nxD b) 0) := by
  have HB : Hid (∀ W, Calls Try.prog 124 #[.int .u8 c] W fun e w' => e = .returned (.bool false) ∧ W = w') := fun W => by have := blank_any c c0 c1 W; rw [hb] at this; exact this
  have HT : Hid (∀ W, RdC W b m v g 0 f (nxD b) → Calls Try.prog 147 #[.pointer (some ⟨b, 0, none⟩), .int .u8 c] W (PtR W b m n true f (nxD b) 0)) := fun W hr => (take_yes W b m v g 0 f (nxD b) hr v0 v1 m1 c c0 c1 n hs).mono fun _ _ hh => hh
  have hk : (c == 35) = false := by simpa using hc
  clear hb hc v0 v1 m1 hs
  go_enter Try.func146, Try.ntmps146
  go_wp2_with (first | (go_at_call 124; refine (HB.out _).mono ?_; rintro e w1 ⟨rfl, rfl⟩) | (go_at_call 147; refine (HT.out _ h).mono ?_; rintro e w2 ⟨rfl, h2, hg2⟩))
  go_ret
  exact ⟨rfl, h2, hg2⟩
set_option maxHeartbeats 1000000 in
theorem ahead_no (w : World) (b : Nat) (m v : Int) (g : Bool) (f : Int) (c : Int) (c0 : 0 ≤ c) (c1 : c ≤ 255) (hb : Tk.blank c = false) (hc : ¬ c = 35) (v0 : 0 ≤ v) (v1 : v ≤ m) (m1 : m ≤ 4611686018427387903) (n e : Int) (hs : Nu.stepV v c m = (n, e)) (he : e ≠ 0) (h : RdC w b m v g 0 f (nxA b)) :
    Calls Try.prog 144 #[.pointer (some ⟨b, 0, none⟩), .int .u8 c] w (PtR w b m v g e (nxD b) 2) := by
  have HB : Hid (∀ W, Calls Try.prog 124 #[.int .u8 c] W fun e w' => e = .returned (.bool false) ∧ W = w') := fun W => by have := blank_any c c0 c1 W; rw [hb] at this; exact this
  have HT : Hid (∀ W, RdC W b m v g 0 f (nxD b) → Calls Try.prog 147 #[.pointer (some ⟨b, 0, none⟩), .int .u8 c] W (PtR W b m v g e (nxD b) 2)) := fun W hr => (take_no W b m v g 0 f (nxD b) hr v0 v1 m1 c c0 c1 n e hs he).mono fun _ _ hh => hh
  have hk : (c == 35) = false := by simpa using hc
  have hc5 := h.c5
  have hf5 := h.fr 5
  clear hb hc v0 v1 m1 hs he
  go_enter Try.func144, Try.ntmps144
  go_wp2_with (first | (go_at_call 124; refine (HB.out _).mono ?_; rintro e w1 ⟨rfl, rfl⟩) | (go_at_call 147; refine (HT.out _ (h.put5 _)).mono ?_; rintro e w2 ⟨rfl, h2, hg2⟩))
  go_ret
  exact ⟨rfl, h2, (grown_set _ _ _ _).trans hg2⟩
set_option maxHeartbeats 1000000 in
theorem digit_no (w : World) (b : Nat) (m v : Int) (g : Bool) (f : Int) (c : Int) (c0 : 0 ≤ c) (c1 : c ≤ 255) (hb : Tk.blank c = false) (hc : ¬ c = 35) (v0 : 0 ≤ v) (v1 : v ≤ m) (m1 : m ≤ 4611686018427387903) (n e : Int) (hs : Nu.stepV v c m = (n, e)) (he : e ≠ 0) (h : RdC w b m v g 0 f (nxD b)) :
    Calls Try.prog 146 #[.pointer (some ⟨b, 0, none⟩), .int .u8 c] w (PtR w b m v g e (nxD b) 2) := by
  have HB : Hid (∀ W, Calls Try.prog 124 #[.int .u8 c] W fun e w' => e = .returned (.bool false) ∧ W = w') := fun W => by have := blank_any c c0 c1 W; rw [hb] at this; exact this
  have HT : Hid (∀ W, RdC W b m v g 0 f (nxD b) → Calls Try.prog 147 #[.pointer (some ⟨b, 0, none⟩), .int .u8 c] W (PtR W b m v g e (nxD b) 2)) := fun W hr => (take_no W b m v g 0 f (nxD b) hr v0 v1 m1 c c0 c1 n e hs he).mono fun _ _ hh => hh
  have hk : (c == 35) = false := by simpa using hc
  clear hb hc v0 v1 m1 hs he
  go_enter Try.func146, Try.ntmps146
  go_wp2_with (first | (go_at_call 124; refine (HB.out _).mono ?_; rintro e w1 ⟨rfl, rfl⟩) | (go_at_call 147; refine (HT.out _ h).mono ?_; rintro e w2 ⟨rfl, h2, hg2⟩))
  go_ret
  exact ⟨rfl, h2, hg2⟩
set_option maxHeartbeats 1000000 in
theorem digit_blank (w : World) (b : Nat) (m v : Int) (g : Bool) (f : Int) (c : Int) (c0 : 0 ≤ c) (c1 : c ≤ 255) (hb : Tk.blank c = true) (h : RdC w b m v g 0 f (nxD b)) :
    Calls Try.prog 146 #[.pointer (some ⟨b, 0, none⟩), .int .u8 c] w (PtR w b m v g f (nxD b) 1) := by
  have HB : Hid (∀ W, Calls Try.prog 124 #[.int .u8 c] W fun e w' => e = .returned (.bool true) ∧ W = w') := fun W => by have := blank_any c c0 c1 W; rw [hb] at this; exact this
  clear hb
  go_enter Try.func146, Try.ntmps146
  go_wp2_with (go_at_call 124; refine (HB.out _).mono ?_; rintro e w1 ⟨rfl, rfl⟩)
  go_ret
  exact ⟨rfl, h, .refl _ _⟩
set_option maxHeartbeats 1000000 in
theorem digit_rem (w : World) (b : Nat) (m v : Int) (g : Bool) (f : Int) (c : Int) (c0 : 0 ≤ c) (c1 : c ≤ 255) (hc : c = 35) (h : RdC w b m v g 0 f (nxD b)) :
    Calls Try.prog 146 #[.pointer (some ⟨b, 0, none⟩), .int .u8 c] w (PtR w b m v g f (nxB b) 0) := by
  subst hc
  have hb : Tk.blank 35 = false := by decide
  have HB : Hid (∀ W, Calls Try.prog 124 #[.int .u8 35] W fun e w' => e = .returned (.bool false) ∧ W = w') := fun W => by have := blank_any 35 c0 c1 W; rw [hb] at this; exact this
  have hc5 := h.c5
  have hf5 := h.fr 5
  clear hb
  go_enter Try.func146, Try.ntmps146
  go_wp2_with (go_at_call 124; refine (HB.out _).mono ?_; rintro e w1 ⟨rfl, rfl⟩)
  go_ret
  exact ⟨rfl, h.put5 _, grown_set _ _ _ _⟩
set_option maxHeartbeats 1000000 in
theorem remA_line (w : World) (b : Nat) (m v : Int) (g : Bool) (f : Int) (c : Int) (c0 : 0 ≤ c) (c1 : c ≤ 255) (hb : Tk.line c = true) (h : RdC w b m v g 0 f (nxR b)) :
    Calls Try.prog 145 #[.pointer (some ⟨b, 0, none⟩), .int .u8 c] w (PtR w b m v g f (nxA b) 0) := by
  have HB : Hid (∀ W, Calls Try.prog 148 #[.int .u8 c] W fun e w' => e = .returned (.bool true) ∧ W = w') := fun W => by have := ends_any c c0 c1 W; rw [hb] at this; exact this
  have hc5 := h.c5
  have hf5 := h.fr 5
  clear hb
  go_enter Try.func145, Try.ntmps145
  go_wp2_with (go_at_call 148; refine (HB.out _).mono ?_; rintro e w1 ⟨rfl, rfl⟩)
  go_ret
  exact ⟨rfl, h.put5 _, grown_set _ _ _ _⟩
set_option maxHeartbeats 1000000 in
theorem remA_not (w : World) (b : Nat) (m v : Int) (g : Bool) (f : Int) (c : Int) (c0 : 0 ≤ c) (c1 : c ≤ 255) (hb : Tk.line c = false) (h : RdC w b m v g 0 f (nxR b)) :
    Calls Try.prog 145 #[.pointer (some ⟨b, 0, none⟩), .int .u8 c] w (PtR w b m v g f (nxR b) 0) := by
  have HB : Hid (∀ W, Calls Try.prog 148 #[.int .u8 c] W fun e w' => e = .returned (.bool false) ∧ W = w') := fun W => by have := ends_any c c0 c1 W; rw [hb] at this; exact this
  clear hb
  go_enter Try.func145, Try.ntmps145
  go_wp2_with (go_at_call 148; refine (HB.out _).mono ?_; rintro e w1 ⟨rfl, rfl⟩)
  go_ret
  exact ⟨rfl, h, .refl _ _⟩
set_option maxHeartbeats 1000000 in
theorem remB_line (w : World) (b : Nat) (m v : Int) (g : Bool) (f : Int) (c : Int) (c0 : 0 ≤ c) (c1 : c ≤ 255) (hb : Tk.line c = true) (h : RdC w b m v g 0 f (nxB b)) :
    Calls Try.prog 149 #[.pointer (some ⟨b, 0, none⟩), .int .u8 c] w (PtR w b m v g f (nxB b) 1) := by
  have HB : Hid (∀ W, Calls Try.prog 148 #[.int .u8 c] W fun e w' => e = .returned (.bool true) ∧ W = w') := fun W => by have := ends_any c c0 c1 W; rw [hb] at this; exact this
  clear hb
  go_enter Try.func149, Try.ntmps149
  go_wp2_with (go_at_call 148; refine (HB.out _).mono ?_; rintro e w1 ⟨rfl, rfl⟩)
  go_ret
  exact ⟨rfl, h, .refl _ _⟩
set_option maxHeartbeats 1000000 in
theorem remB_not (w : World) (b : Nat) (m v : Int) (g : Bool) (f : Int) (c : Int) (c0 : 0 ≤ c) (c1 : c ≤ 255) (hb : Tk.line c = false) (h : RdC w b m v g 0 f (nxB b)) :
    Calls Try.prog 149 #[.pointer (some ⟨b, 0, none⟩), .int .u8 c] w (PtR w b m v g f (nxB b) 0) := by
  have HB : Hid (∀ W, Calls Try.prog 148 #[.int .u8 c] W fun e w' => e = .returned (.bool false) ∧ W = w') := fun W => by have := ends_any c c0 c1 W; rw [hb] at this; exact this
  clear hb
  go_enter Try.func149, Try.ntmps149
  go_wp2_with (go_at_call 148; refine (HB.out _).mono ?_; rintro e w1 ⟨rfl, rfl⟩)
  go_ret
  exact ⟨rfl, h, .refl _ _⟩
set_option maxHeartbeats 1000000 in
/-- the part that is told the byte stands in the sixth cell -/
theorem put_next (w : World) (b n : Nat) (m v : Int) (g : Bool) (f : Int) (c : Int) (m' v' : Int) (g' : Bool) (f' : Int) (x' : Value) (t' : Int) (hn : ∀ args w, (callFunc n args).run Try.prog w = .ok (.enter n args) w)
    (h : RdC w b m v g 0 f (.func (.func n) #[.pointer (some ⟨b, 0, none⟩)] #[])) (hcall : Calls Try.prog n #[.pointer (some ⟨b, 0, none⟩), .int .u8 c] w (PtR w b m v' g' f' x' t')) :
    Calls Try.prog 140 #[.pointer (some ⟨b, 0, none⟩), .int .u8 c] w fun e w' => e = .returned (.int .i64 t') ∧ RdC w' b m v' g' t' f' x' ∧ w.grownBy w' (some b) := by
  have hc3 := h.c3
  have hc5 := h.c5
  have HC := Lib.hid hcall
  clear hcall
  go_enter Try.func140, Try.ntmps140
  go_wp2_with (go_at_fn n; refine HC.out.mono ?_; rintro e w2 ⟨rfl, h2, hg2⟩; have hd3 := h2.c3; have hf3 := h2.fr 3)
  go_ret
  exact ⟨rfl, h2.put3 _, hg2.trans (grown_set _ _ _ _)⟩
set_option maxHeartbeats 1000000 in
/-- it is told nothing more -/
theorem put_done (w : World) (b : Nat) (m v : Int) (g : Bool) (f : Int) (c t : Int) (x : Value) (ht : t ≠ 0) (h : RdC w b m v g t f x) :
    Calls Try.prog 140 #[.pointer (some ⟨b, 0, none⟩), .int .u8 c] w fun e w' => e = .returned (.int .i64 t) ∧ w = w' := by
  have hc3 := h.c3
  have ht' : (t == 0) = false := by simpa using ht
  go_enter Try.func140, Try.ntmps140
  go_wp2
  go_ret
  exact ⟨rfl, rfl⟩
end Go.Proofs.Ytflpocnbmpdhiaa

/- A reader of a number by the document, over any memory. Condition: its greatest number fits. -/
namespace Go.Proofs.Ytflpocnbmpdhiaa
open Go.RowKit
set_option linter.unusedVariables false

/-- a reader by the document, as a value -/
def agS (k n m e : Int) : Value := .agg #[.int .i64 k, .int .i64 n, .int .i64 m, .int .i64 e]
theorem refNew_any (m : Int) (w : World) :
    Calls Try.prog 50 #[.int .i64 m] w fun e w' => e = .returned (agS 0 0 m 9) ∧ Below w.heap.size w w' := by
  go_enter Try.func50, Try.ntmps50
  go_wp2
  go_returns
  exact ⟨rfl, by go_grown⟩
def RpR (w : World) (k n m er t : Int) (e : Ending) (w' : World) : Prop :=
  e = .returned (.tuple #[agS k n m er, .int .i64 t]) ∧ Below w.heap.size w w'
set_option maxHeartbeats 1000000 in
theorem rp_over (n m er : Int) (c : Int) (w : World) :
    Calls Try.prog 51 #[agS 4 n m er, .int .u8 c] w (RpR w 4 n m er 1) := by
  unfold agS
  go_enter Try.func51, Try.ntmps51
  go_wp2
  go_returns
  exact ⟨rfl, by go_grown⟩
set_option maxHeartbeats 1000000 in
theorem rp_wrong (n m er : Int) (c : Int) (w : World) :
    Calls Try.prog 51 #[agS 5 n m er, .int .u8 c] w (RpR w 5 n m er 2) := by
  unfold agS
  go_enter Try.func51, Try.ntmps51
  go_wp2
  go_returns
  exact ⟨rfl, by go_grown⟩
set_option maxHeartbeats 1000000 in
theorem rp_remA10 (n m er : Int) (w : World) :
    Calls Try.prog 51 #[agS 1 n m er, .int .u8 10] w (RpR w 0 n m er 0) := by
  unfold agS
  go_enter Try.func51, Try.ntmps51
  go_wp2
  go_returns
  exact ⟨rfl, by go_grown⟩
set_option maxHeartbeats 1000000 in
theorem rp_remA13 (n m er : Int) (w : World) :
    Calls Try.prog 51 #[agS 1 n m er, .int .u8 13] w (RpR w 0 n m er 0) := by
  unfold agS
  go_enter Try.func51, Try.ntmps51
  go_wp2
  go_returns
  exact ⟨rfl, by go_grown⟩
set_option maxHeartbeats 1000000 in
theorem rp_remA_not (n m er : Int) (c : Int) (c0 : 0 ≤ c) (c1 : c ≤ 255) (h10 : (c == 10) = false) (h13 : (c == 13) = false) (w : World) :
    Calls Try.prog 51 #[agS 1 n m er, .int .u8 c] w (RpR w 1 n m er 0) := by
  unfold agS
  go_enter Try.func51, Try.ntmps51
  go_wp2
  go_returns
  exact ⟨rfl, by go_grown⟩
set_option maxHeartbeats 1000000 in
theorem rp_remB10 (n m er : Int) (w : World) :
    Calls Try.prog 51 #[agS 3 n m er, .int .u8 10] w (RpR w 4 n m 0 1) := by
  unfold agS
  go_enter Try.func51, Try.ntmps51
  go_wp2
  go_returns
  exact ⟨rfl, by go_grown⟩
set_option maxHeartbeats 1000000 in
theorem rp_remB13 (n m er : Int) (w : World) :
    Calls Try.prog 51 #[agS 3 n m er, .int .u8 13] w (RpR w 4 n m 0 1) := by
  unfold agS
  go_enter Try.func51, Try.ntmps51
  go_wp2
  go_returns
  exact ⟨rfl, by go_grown⟩
set_option maxHeartbeats 1000000 in
theorem rp_remB_not (n m er : Int) (c : Int) (c0 : 0 ≤ c) (c1 : c ≤ 255) (h10 : (c == 10) = false) (h13 : (c == 13) = false) (w : World) :
    Calls Try.prog 51 #[agS 3 n m er, .int .u8 c] w (RpR w 3 n m er 0) := by
  unfold agS
  go_enter Try.func51, Try.ntmps51
  go_wp2
  go_returns
  exact ⟨rfl, by go_grown⟩
set_option maxHeartbeats 1000000 in
theorem rp_a35 (n m er : Int) (w : World) :
    Calls Try.prog 51 #[agS 0 n m er, .int .u8 35] w (RpR w 1 n m er 0) := by
  unfold agS
  go_enter Try.func51, Try.ntmps51
  go_wp2
  go_returns
  exact ⟨rfl, by go_grown⟩
set_option maxHeartbeats 1000000 in
theorem rp_a10 (n m er : Int) (w : World) :
    Calls Try.prog 51 #[agS 0 n m er, .int .u8 10] w (RpR w 0 n m er 0) := by
  unfold agS
  have hb : Tk.blank 10 = true := by decide
  have HB : Hid (∀ W, Calls Try.prog 48 #[.int .u8 10] W fun e w' => e = .returned (.bool true) ∧ W = w') := fun W => by have := refBlank_any 10 (by omega) (by omega) W; rw [hb] at this; exact this
  clear hb
  go_enter Try.func51, Try.ntmps51
  go_wp2_with (first | (go_at_call 48; refine (HB.out _).mono ?_; rintro e w1 ⟨rfl, rfl⟩))
  go_returns
  exact ⟨rfl, by go_grown⟩
set_option maxHeartbeats 1000000 in
theorem rp_a13 (n m er : Int) (w : World) :
    Calls Try.prog 51 #[agS 0 n m er, .int .u8 13] w (RpR w 0 n m er 0) := by
  unfold agS
  have hb : Tk.blank 13 = true := by decide
  have HB : Hid (∀ W, Calls Try.prog 48 #[.int .u8 13] W fun e w' => e = .returned (.bool true) ∧ W = w') := fun W => by have := refBlank_any 13 (by omega) (by omega) W; rw [hb] at this; exact this
  clear hb
  go_enter Try.func51, Try.ntmps51
  go_wp2_with (first | (go_at_call 48; refine (HB.out _).mono ?_; rintro e w1 ⟨rfl, rfl⟩))
  go_returns
  exact ⟨rfl, by go_grown⟩
set_option maxHeartbeats 1000000 in
theorem rp_a_blank (n m er : Int) (c : Int) (c0 : 0 ≤ c) (c1 : c ≤ 255) (h10 : (c == 10) = false) (h13 : (c == 13) = false) (h35 : (c == 35) = false) (hb : Tk.blank c = true) (w : World) :
    Calls Try.prog 51 #[agS 0 n m er, .int .u8 c] w (RpR w 0 n m er 0) := by
  unfold agS
  have HB : Hid (∀ W, Calls Try.prog 48 #[.int .u8 c] W fun e w' => e = .returned (.bool true) ∧ W = w') := fun W => by have := refBlank_any c (by omega) (by omega) W; rw [hb] at this; exact this
  clear hb
  go_enter Try.func51, Try.ntmps51
  go_wp2_with (first | (go_at_call 48; refine (HB.out _).mono ?_; rintro e w1 ⟨rfl, rfl⟩))
  go_returns
  exact ⟨rfl, by go_grown⟩
set_option maxHeartbeats 1000000 in
theorem rp_a_yes (n m er : Int) (c : Int) (c0 : 0 ≤ c) (c1 : c ≤ 255) (h10 : (c == 10) = false) (h13 : (c == 13) = false) (h35 : (c == 35) = false) (hb : Tk.blank c = false) (n0 : 0 ≤ n) (n1 : n ≤ m) (m1 : m ≤ 4611686018427387903) (v : Int) (hs : Nu.stepV n c m = (v, 0)) (w : World) :
    Calls Try.prog 51 #[agS 0 n m er, .int .u8 c] w (RpR w 2 v m er 0) := by
  unfold agS
  have HB : Hid (∀ W, Calls Try.prog 48 #[.int .u8 c] W fun e w' => e = .returned (.bool false) ∧ W = w') := fun W => by have := refBlank_any c (by omega) (by omega) W; rw [hb] at this; exact this
  have HS : Hid (∀ W, Calls Try.prog 82 #[.int .i64 n, .int .u8 c, .int .i64 m] W fun r w' => r = .returned (.tuple #[.int .i64 v, .int .i64 0]) ∧ W = w') := fun W => refStep_two n c m n0 n1 m1 c0 c1 v 0 hs W
  clear hb hs n0 n1 m1
  go_enter Try.func51, Try.ntmps51
  go_wp2_with (first | (go_at_call 48; refine (HB.out _).mono ?_; rintro e w1 ⟨rfl, rfl⟩) | (go_at_call 82; refine (HS.out _).mono ?_; rintro e w1 ⟨rfl, rfl⟩))
  go_returns
  exact ⟨rfl, by go_grown⟩
set_option maxHeartbeats 1000000 in
theorem rp_a_no (n m er : Int) (c : Int) (c0 : 0 ≤ c) (c1 : c ≤ 255) (h10 : (c == 10) = false) (h13 : (c == 13) = false) (h35 : (c == 35) = false) (hb : Tk.blank c = false) (n0 : 0 ≤ n) (n1 : n ≤ m) (m1 : m ≤ 4611686018427387903) (v f : Int) (hs : Nu.stepV n c m = (v, f)) (hf : f ≠ 0) (w : World) :
    Calls Try.prog 51 #[agS 0 n m er, .int .u8 c] w (RpR w 5 0 m f 2) := by
  unfold agS
  have HB : Hid (∀ W, Calls Try.prog 48 #[.int .u8 c] W fun e w' => e = .returned (.bool false) ∧ W = w') := fun W => by have := refBlank_any c (by omega) (by omega) W; rw [hb] at this; exact this
  have HS : Hid (∀ W, Calls Try.prog 82 #[.int .i64 n, .int .u8 c, .int .i64 m] W fun r w' => r = .returned (.tuple #[.int .i64 v, .int .i64 f]) ∧ W = w') := fun W => refStep_two n c m n0 n1 m1 c0 c1 v f hs W
  have kf : (f != 0) = true := by simpa using hf
  clear hb hs hf n0 n1 m1
  go_enter Try.func51, Try.ntmps51
  go_wp2_with (first | (go_at_call 48; refine (HB.out _).mono ?_; rintro e w1 ⟨rfl, rfl⟩) | (go_at_call 82; refine (HS.out _).mono ?_; rintro e w1 ⟨rfl, rfl⟩))
  go_returns
  exact ⟨rfl, by go_grown⟩
set_option maxHeartbeats 1000000 in
theorem rp_d35 (n m er : Int) (w : World) :
    Calls Try.prog 51 #[agS 2 n m er, .int .u8 35] w (RpR w 3 n m er 0) := by
  unfold agS
  go_enter Try.func51, Try.ntmps51
  go_wp2
  go_returns
  exact ⟨rfl, by go_grown⟩
set_option maxHeartbeats 1000000 in
theorem rp_d10 (n m er : Int) (w : World) :
    Calls Try.prog 51 #[agS 2 n m er, .int .u8 10] w (RpR w 4 n m 0 1) := by
  unfold agS
  have hb : Tk.blank 10 = true := by decide
  have HB : Hid (∀ W, Calls Try.prog 48 #[.int .u8 10] W fun e w' => e = .returned (.bool true) ∧ W = w') := fun W => by have := refBlank_any 10 (by omega) (by omega) W; rw [hb] at this; exact this
  clear hb
  go_enter Try.func51, Try.ntmps51
  go_wp2_with (first | (go_at_call 48; refine (HB.out _).mono ?_; rintro e w1 ⟨rfl, rfl⟩))
  go_returns
  exact ⟨rfl, by go_grown⟩
set_option maxHeartbeats 1000000 in
theorem rp_d13 (n m er : Int) (w : World) :
    Calls Try.prog 51 #[agS 2 n m er, .int .u8 13] w (RpR w 4 n m 0 1) := by
  unfold agS
  have hb : Tk.blank 13 = true := by decide
  have HB : Hid (∀ W, Calls Try.prog 48 #[.int .u8 13] W fun e w' => e = .returned (.bool true) ∧ W = w') := fun W => by have := refBlank_any 13 (by omega) (by omega) W; rw [hb] at this; exact this
  clear hb
  go_enter Try.func51, Try.ntmps51
  go_wp2_with (first | (go_at_call 48; refine (HB.out _).mono ?_; rintro e w1 ⟨rfl, rfl⟩))
  go_returns
  exact ⟨rfl, by go_grown⟩
set_option maxHeartbeats 1000000 in
theorem rp_d_blank (n m er : Int) (c : Int) (c0 : 0 ≤ c) (c1 : c ≤ 255) (h10 : (c == 10) = false) (h13 : (c == 13) = false) (h35 : (c == 35) = false) (hb : Tk.blank c = true) (w : World) :
    Calls Try.prog 51 #[agS 2 n m er, .int .u8 c] w (RpR w 4 n m 0 1) := by
  unfold agS
  have HB : Hid (∀ W, Calls Try.prog 48 #[.int .u8 c] W fun e w' => e = .returned (.bool true) ∧ W = w') := fun W => by have := refBlank_any c (by omega) (by omega) W; rw [hb] at this; exact this
  clear hb
  go_enter Try.func51, Try.ntmps51
  go_wp2_with (first | (go_at_call 48; refine (HB.out _).mono ?_; rintro e w1 ⟨rfl, rfl⟩))
  go_returns
  exact ⟨rfl, by go_grown⟩
set_option maxHeartbeats 1000000 in
theorem rp_d_yes (n m er : Int) (c : Int) (c0 : 0 ≤ c) (c1 : c ≤ 255) (h10 : (c == 10) = false) (h13 : (c == 13) = false) (h35 : (c == 35) = false) (hb : Tk.blank c = false) (n0 : 0 ≤ n) (n1 : n ≤ m) (m1 : m ≤ 4611686018427387903) (v : Int) (hs : Nu.stepV n c m = (v, 0)) (w : World) :
    Calls Try.prog 51 #[agS 2 n m er, .int .u8 c] w (RpR w 2 v m er 0) := by
  unfold agS
  have HB : Hid (∀ W, Calls Try.prog 48 #[.int .u8 c] W fun e w' => e = .returned (.bool false) ∧ W = w') := fun W => by have := refBlank_any c (by omega) (by omega) W; rw [hb] at this; exact this
  have HS : Hid (∀ W, Calls Try.prog 82 #[.int .i64 n, .int .u8 c, .int .i64 m] W fun r w' => r = .returned (.tuple #[.int .i64 v, .int .i64 0]) ∧ W = w') := fun W => refStep_two n c m n0 n1 m1 c0 c1 v 0 hs W
  clear hb hs n0 n1 m1
  go_enter Try.func51, Try.ntmps51
  go_wp2_with (first | (go_at_call 48; refine (HB.out _).mono ?_; rintro e w1 ⟨rfl, rfl⟩) | (go_at_call 82; refine (HS.out _).mono ?_; rintro e w1 ⟨rfl, rfl⟩))
  go_returns
  exact ⟨rfl, by go_grown⟩
set_option maxHeartbeats 1000000 in
theorem rp_d_no (n m er : Int) (c : Int) (c0 : 0 ≤ c) (c1 : c ≤ 255) (h10 : (c == 10) = false) (h13 : (c == 13) = false) (h35 : (c == 35) = false) (hb : Tk.blank c = false) (n0 : 0 ≤ n) (n1 : n ≤ m) (m1 : m ≤ 4611686018427387903) (v f : Int) (hs : Nu.stepV n c m = (v, f)) (hf : f ≠ 0) (w : World) :
    Calls Try.prog 51 #[agS 2 n m er, .int .u8 c] w (RpR w 5 0 m f 2) := by
  unfold agS
  have HB : Hid (∀ W, Calls Try.prog 48 #[.int .u8 c] W fun e w' => e = .returned (.bool false) ∧ W = w') := fun W => by have := refBlank_any c (by omega) (by omega) W; rw [hb] at this; exact this
  have HS : Hid (∀ W, Calls Try.prog 82 #[.int .i64 n, .int .u8 c, .int .i64 m] W fun r w' => r = .returned (.tuple #[.int .i64 v, .int .i64 f]) ∧ W = w') := fun W => refStep_two n c m n0 n1 m1 c0 c1 v f hs W
  have kf : (f != 0) = true := by simpa using hf
  clear hb hs hf n0 n1 m1
  go_enter Try.func51, Try.ntmps51
  go_wp2_with (first | (go_at_call 48; refine (HB.out _).mono ?_; rintro e w1 ⟨rfl, rfl⟩) | (go_at_call 82; refine (HS.out _).mono ?_; rintro e w1 ⟨rfl, rfl⟩))
  go_returns
  exact ⟨rfl, by go_grown⟩
end Go.Proofs.Ytflpocnbmpdhiaa

/- A reader of a number is told a byte, by the code and by the document, as one plain function; a text's first bytes. Condition: its greatest number fits. -/
namespace Go.Proofs.Ytflpocnbmpdhiaa
open Go.RowKit
set_option linter.unusedVariables false

def nxt (k b : Nat) : Value := if k = 0 then nxA b else if k = 1 then nxR b else if k = 2 then nxD b else nxB b
/-- a reader in the block b is where s says -/
def RdS (w : World) (b : Nat) (m : Int) (s : Tk.S) : Prop :=
  Tk.Good m s ∧ ∃ v f x, RdC w b m v s.bg (Tk.st s) f x ∧ (s.k ≤ 4 → v = s.n) ∧ (s.k ≤ 3 → x = nxt s.k b) ∧ (s.k = 5 → f = s.e)
theorem RdS.lt {w : World} {b : Nat} {m : Int} {s : Tk.S} (h : RdS w b m s) : b < w.heap.size := by obtain ⟨_, v, f, x, h1, _⟩ := h; exact h1.lt
theorem RdS.kept {w w' : World} {row : Option Nat} {b : Nat} {m : Int} {s : Tk.S} (h : RdS w b m s) (hg : w.grownBy w' row) (hne : some b ≠ row) : RdS w' b m s := by
  obtain ⟨hG, v, f, x, h1, h2⟩ := h; exact ⟨hG, v, f, x, h1.kept hg hne, h2⟩
theorem RdS.later {w w' : World} {b : Nat} {m : Int} {s : Tk.S} (h : RdS w b m s) (hb : Below w.heap.size w w') : RdS w' b m s := by
  obtain ⟨hG, v, f, x, h1, h2⟩ := h; exact ⟨hG, v, f, x, h1.later hb, h2⟩
theorem tokNew_s (m : Int) (m0 : 0 ≤ m) (w : World) :
    Calls Try.prog 139 #[.int .i64 m] w fun e w' => e = .returned (.pointer (some ⟨w.heap.size, 0, none⟩)) ∧ RdS w' w.heap.size m Tk.new ∧ Below w.heap.size w w' := by
  refine (tokNew_any m w).mono ?_
  rintro e w' ⟨rfl, h, hb⟩
  exact ⟨rfl, ⟨Tk.good_new m0, 0, 0, _, h, fun _ => rfl, fun _ => rfl, fun h => absurd h (by decide)⟩, hb⟩
def PutR (w : World) (b : Nat) (m : Int) (s : Tk.S) (e : Ending) (w' : World) : Prop :=
  e = .returned (.int .i64 (Tk.st s)) ∧ RdS w' b m s ∧ w.grownBy w' (some b)
theorem enA : ∀ args w, (callFunc 144 args).run Try.prog w = .ok (.enter 144 args) w := enters_of Try.func144 (by kernel_rfl) rfl
theorem enR : ∀ args w, (callFunc 145 args).run Try.prog w = .ok (.enter 145 args) w := enters_of Try.func145 (by kernel_rfl) rfl
theorem enD : ∀ args w, (callFunc 146 args).run Try.prog w = .ok (.enter 146 args) w := enters_of Try.func146 (by kernel_rfl) rfl
theorem enB : ∀ args w, (callFunc 149 args).run Try.prog w = .ok (.enter 149 args) w := enters_of Try.func149 (by kernel_rfl) rfl
/-- both what the code and what the document do with a byte, told together -/
theorem put_both {m : Int} {s : Tk.S} (hG : Tk.Good m s) (m1 : m ≤ 4611686018427387903) (c : Int) (c0 : 0 ≤ c) (c1 : c ≤ 255) :
    (∀ w b, RdS w b m s → Calls Try.prog 140 #[.pointer (some ⟨b, 0, none⟩), .int .u8 c] w (PutR w b m (Tk.put m s c))) ∧
    (∀ w, Calls Try.prog 51 #[agS s.k s.n m s.e, .int .u8 c] w (RpR w (Tk.put m s c).k (Tk.put m s c).n m (Tk.put m s c).e (Tk.st (Tk.put m s c)))) := by
  have hG' := Tk.good_put hG c
  generalize ht : Tk.put m s c = t at hG' ⊢
  obtain ⟨k, n, e, bg⟩ := s
  have H := hG
  obtain ⟨h1, h2, h3, h4, h5, h6, h7, h8⟩ := H
  simp only at h1 h2 h3 h4 h5 h6 h7 h8
  have L10 : Tk.line 10 = true := by decide
  have L13 : Tk.line 13 = true := by decide
  have fin : ∀ (w : World) (b : Nat) (v : Int) (f : Int) (x : Value), (t.k ≤ 4 → v = t.n) → (t.k ≤ 3 → x = nxt t.k b) → (t.k = 5 → f = t.e) → ∀ e' w', (e' = Ending.returned (.int .i64 (Tk.st t)) ∧ RdC w' b m v t.bg (Tk.st t) f x ∧ w.grownBy w' (some b)) → PutR w b m t e' w' := fun w b v f x a1 a2 a3 e' w' hh => ⟨hh.1, ⟨hG', v, f, x, hh.2.1, a1, a2, a3⟩, hh.2.2⟩
  have hk : k = 0 ∨ k = 1 ∨ k = 2 ∨ k = 3 ∨ k = 4 ∨ k = 5 := by omega
  have nl : Tk.line c = false → (c == 10) = false ∧ (c == 13) = false := fun h => by unfold Tk.line at h; simp at h; simp; exact h
  have yl : Tk.line c = true → c = 10 ∨ c = 13 := fun h => by unfold Tk.line at h; simpa using h
  rcases hk with rfl | rfl | rfl | rfl | rfl | rfl
  · -- ahead
    obtain ⟨rfl, rfl⟩ := h7 (by omega)
    have h9 := h4 (by omega); subst h9
    have open' : ∀ w b, RdS w b m ⟨0, 0, 9, false⟩ → ∃ f, RdC w b m 0 false 0 f (nxA b) := fun w b hr => by
      obtain ⟨_, v, f, x, r1, r2, r3, _⟩ := hr
      have := r2 (by simp); simp only at this; subst this
      have := r3 (by simp); subst this
      exact ⟨f, r1⟩
    by_cases hc : c = 35
    · subst hc
      have ht' : t = ⟨1, 0, 9, false⟩ := by rw [← ht]; rfl
      subst ht'
      refine ⟨fun w b hr => ?_, fun w => rp_a35 0 m 9 w⟩
      obtain ⟨f, hr⟩ := open' w b hr
      exact (put_next w b _ m 0 false f 35 m 0 false f (nxR b) 0 enA hr (ahead_rem w b m 0 false f 35 c0 c1 rfl hr)).mono (fin w b 0 f (nxR b) (fun _ => rfl) (fun _ => rfl) (fun h => absurd h (by simp)))
    by_cases hb : Tk.blank c = true
    · have ht' : t = ⟨0, 0, 9, false⟩ := by rw [← ht]; simp [Tk.put, hc, hb]
      subst ht'
      refine ⟨fun w b hr => ?_, fun w => ?_⟩
      · obtain ⟨f, hr⟩ := open' w b hr
        exact (put_next w b _ m 0 false f c m 0 false f (nxA b) 0 enA hr (ahead_blank w b m 0 false f c c0 c1 hb hr)).mono (fin w b 0 f (nxA b) (fun _ => rfl) (fun _ => rfl) (fun h => absurd h (by simp)))
      · by_cases hl : Tk.line c = true
        · rcases yl hl with rfl | rfl
          · exact rp_a10 0 m 9 w
          · exact rp_a13 0 m 9 w
        · obtain ⟨a1, a2⟩ := nl (by simpa using hl)
          exact rp_a_blank 0 m 9 c c0 c1 a1 a2 (by simpa using hc) hb w
    have hb' : Tk.blank c = false := by simpa using hb
    have hnl : Tk.line c = false := by
      cases e : Tk.line c with
      | false => rfl
      | true => rcases yl e with rfl | rfl <;> exact absurd hb' (by decide)
    obtain ⟨a1, a2⟩ := nl hnl
    obtain ⟨p, hp⟩ : ∃ p, Nu.stepV 0 c m = p := ⟨_, rfl⟩
    obtain ⟨v, er⟩ := p
    by_cases he : er = 0
    · subst he
      have ht' : t = ⟨2, v, 9, true⟩ := by rw [← ht]; simp [Tk.put, hc, hb', hp]
      subst ht'
      refine ⟨fun w b hr => ?_, fun w => rp_a_yes 0 m 9 c c0 c1 a1 a2 (by simpa using hc) hb' h2 h3 m1 v hp w⟩
      obtain ⟨f, hr⟩ := open' w b hr
      exact (put_next w b _ m 0 false f c m v true f (nxD b) 0 enA hr (ahead_yes w b m 0 false f c c0 c1 hb' hc h2 h3 m1 v hp hr)).mono (fin w b v f (nxD b) (fun _ => rfl) (fun _ => rfl) (fun h => absurd h (by simp)))
    · have ht' : t = ⟨5, 0, er, false⟩ := by rw [← ht]; simp [Tk.put, hc, hb', hp, he]
      subst ht'
      refine ⟨fun w b hr => ?_, fun w => rp_a_no 0 m 9 c c0 c1 a1 a2 (by simpa using hc) hb' h2 h3 m1 v er hp he w⟩
      obtain ⟨f, hr⟩ := open' w b hr
      exact (put_next w b _ m 0 false f c m 0 false er (nxD b) 2 enA hr (ahead_no w b m 0 false f c c0 c1 hb' hc h2 h3 m1 v er hp he hr)).mono (fin w b 0 er (nxD b) (fun _ => rfl) (fun h => absurd h (by simp)) (fun _ => rfl))
  · -- a remark ahead
    obtain ⟨rfl, rfl⟩ := h7 (by omega)
    have h9 := h4 (by omega); subst h9
    have open' : ∀ w b, RdS w b m ⟨1, 0, 9, false⟩ → ∃ f, RdC w b m 0 false 0 f (nxR b) := fun w b hr => by
      obtain ⟨_, v, f, x, r1, r2, r3, _⟩ := hr
      have := r2 (by simp); simp only at this; subst this
      have := r3 (by simp); subst this
      exact ⟨f, r1⟩
    by_cases hl : Tk.line c = true
    · have ht' : t = ⟨0, 0, 9, false⟩ := by rw [← ht]; simp [Tk.put, hl]
      subst ht'
      refine ⟨fun w b hr => ?_, fun w => ?_⟩
      · obtain ⟨f, hr⟩ := open' w b hr
        exact (put_next w b _ m 0 false f c m 0 false f (nxA b) 0 enR hr (remA_line w b m 0 false f c c0 c1 hl hr)).mono (fin w b 0 f (nxA b) (fun _ => rfl) (fun _ => rfl) (fun h => absurd h (by simp)))
      · rcases yl hl with rfl | rfl
        · exact rp_remA10 0 m 9 w
        · exact rp_remA13 0 m 9 w
    · have hl' : Tk.line c = false := by simpa using hl
      have ht' : t = ⟨1, 0, 9, false⟩ := by rw [← ht]; simp [Tk.put, hl']
      subst ht'
      obtain ⟨a1, a2⟩ := nl hl'
      refine ⟨fun w b hr => ?_, fun w => rp_remA_not 0 m 9 c c0 c1 a1 a2 w⟩
      obtain ⟨f, hr⟩ := open' w b hr
      exact (put_next w b _ m 0 false f c m 0 false f (nxR b) 0 enR hr (remA_not w b m 0 false f c c0 c1 hl' hr)).mono (fin w b 0 f (nxR b) (fun _ => rfl) (fun _ => rfl) (fun h => absurd h (by simp)))
  · -- digits
    have hbg := h8 (by omega) (by omega); subst hbg
    have h9 := h4 (by omega); subst h9
    have open' : ∀ w b, RdS w b m ⟨2, n, 9, true⟩ → ∃ f, RdC w b m n true 0 f (nxD b) := fun w b hr => by
      obtain ⟨_, v, f, x, r1, r2, r3, _⟩ := hr
      have := r2 (by simp); simp only at this; subst this
      have := r3 (by simp); subst this
      exact ⟨f, r1⟩
    by_cases hc : c = 35
    · subst hc
      have ht' : t = ⟨3, n, 9, true⟩ := by rw [← ht]; rfl
      subst ht'
      refine ⟨fun w b hr => ?_, fun w => rp_d35 n m 9 w⟩
      obtain ⟨f, hr⟩ := open' w b hr
      exact (put_next w b _ m n true f 35 m n true f (nxB b) 0 enD hr (digit_rem w b m n true f 35 c0 c1 rfl hr)).mono (fin w b n f (nxB b) (fun _ => rfl) (fun _ => rfl) (fun h => absurd h (by simp)))
    by_cases hb : Tk.blank c = true
    · have ht' : t = ⟨4, n, 0, true⟩ := by rw [← ht]; simp [Tk.put, hc, hb]
      subst ht'
      refine ⟨fun w b hr => ?_, fun w => ?_⟩
      · obtain ⟨f, hr⟩ := open' w b hr
        exact (put_next w b _ m n true f c m n true f (nxD b) 1 enD hr (digit_blank w b m n true f c c0 c1 hb hr)).mono (fin w b n f (nxD b) (fun _ => rfl) (fun h => absurd h (by simp)) (fun h => absurd h (by simp)))
      · by_cases hl : Tk.line c = true
        · rcases yl hl with rfl | rfl
          · exact rp_d10 n m 9 w
          · exact rp_d13 n m 9 w
        · obtain ⟨a1, a2⟩ := nl (by simpa using hl)
          exact rp_d_blank n m 9 c c0 c1 a1 a2 (by simpa using hc) hb w
    have hb' : Tk.blank c = false := by simpa using hb
    have hnl : Tk.line c = false := by
      cases e : Tk.line c with
      | false => rfl
      | true => rcases yl e with rfl | rfl <;> exact absurd hb' (by decide)
    obtain ⟨a1, a2⟩ := nl hnl
    obtain ⟨p, hp⟩ : ∃ p, Nu.stepV n c m = p := ⟨_, rfl⟩
    obtain ⟨v, er⟩ := p
    by_cases he : er = 0
    · subst he
      have ht' : t = ⟨2, v, 9, true⟩ := by rw [← ht]; simp [Tk.put, hc, hb', hp]
      subst ht'
      refine ⟨fun w b hr => ?_, fun w => rp_d_yes n m 9 c c0 c1 a1 a2 (by simpa using hc) hb' h2 h3 m1 v hp w⟩
      obtain ⟨f, hr⟩ := open' w b hr
      exact (put_next w b _ m n true f c m v true f (nxD b) 0 enD hr (digit_yes w b m n true f c c0 c1 hb' hc h2 h3 m1 v hp hr)).mono (fin w b v f (nxD b) (fun _ => rfl) (fun _ => rfl) (fun h => absurd h (by simp)))
    · have ht' : t = ⟨5, 0, er, true⟩ := by rw [← ht]; simp [Tk.put, hc, hb', hp, he]
      subst ht'
      refine ⟨fun w b hr => ?_, fun w => rp_d_no n m 9 c c0 c1 a1 a2 (by simpa using hc) hb' h2 h3 m1 v er hp he w⟩
      obtain ⟨f, hr⟩ := open' w b hr
      exact (put_next w b _ m n true f c m n true er (nxD b) 2 enD hr (digit_no w b m n true f c c0 c1 hb' hc h2 h3 m1 v er hp he hr)).mono (fin w b n er (nxD b) (fun h => absurd h (by simp)) (fun h => absurd h (by simp)) (fun _ => rfl))
  · -- a remark behind
    have hbg := h8 (by omega) (by omega); subst hbg
    have h9 := h4 (by omega); subst h9
    have open' : ∀ w b, RdS w b m ⟨3, n, 9, true⟩ → ∃ f, RdC w b m n true 0 f (nxB b) := fun w b hr => by
      obtain ⟨_, v, f, x, r1, r2, r3, _⟩ := hr
      have := r2 (by simp); simp only at this; subst this
      have := r3 (by simp); subst this
      exact ⟨f, r1⟩
    by_cases hl : Tk.line c = true
    · have ht' : t = ⟨4, n, 0, true⟩ := by rw [← ht]; simp [Tk.put, hl]
      subst ht'
      refine ⟨fun w b hr => ?_, fun w => ?_⟩
      · obtain ⟨f, hr⟩ := open' w b hr
        exact (put_next w b _ m n true f c m n true f (nxB b) 1 enB hr (remB_line w b m n true f c c0 c1 hl hr)).mono (fin w b n f (nxB b) (fun _ => rfl) (fun h => absurd h (by simp)) (fun h => absurd h (by simp)))
      · rcases yl hl with rfl | rfl
        · exact rp_remB10 n m 9 w
        · exact rp_remB13 n m 9 w
    · have hl' : Tk.line c = false := by simpa using hl
      have ht' : t = ⟨3, n, 9, true⟩ := by rw [← ht]; simp [Tk.put, hl']
      subst ht'
      obtain ⟨a1, a2⟩ := nl hl'
      refine ⟨fun w b hr => ?_, fun w => rp_remB_not n m 9 c c0 c1 a1 a2 w⟩
      obtain ⟨f, hr⟩ := open' w b hr
      exact (put_next w b _ m n true f c m n true f (nxB b) 0 enB hr (remB_not w b m n true f c c0 c1 hl' hr)).mono (fin w b n f (nxB b) (fun _ => rfl) (fun _ => rfl) (fun h => absurd h (by simp)))
  · -- over
    have ht' : t = ⟨4, n, e, bg⟩ := by rw [← ht]; rfl
    subst ht'
    refine ⟨fun w b hr => ?_, fun w => rp_over n m e c w⟩
    have hr' := hr
    obtain ⟨_, v, f, x, r1, _⟩ := hr
    refine (put_done w b m v bg f c 1 x (by decide) r1).mono ?_
    rintro e' w' ⟨rfl, rfl⟩
    exact ⟨rfl, hr', .refl _ _⟩
  · -- wrong
    have ht' : t = ⟨5, n, e, bg⟩ := by rw [← ht]; rfl
    subst ht'
    refine ⟨fun w b hr => ?_, fun w => rp_wrong n m e c w⟩
    have hr' := hr
    obtain ⟨_, v, f, x, r1, _⟩ := hr
    refine (put_done w b m v bg f c 2 x (by decide) r1).mono ?_
    rintro e' w' ⟨rfl, rfl⟩
    exact ⟨rfl, hr', .refl _ _⟩
end Go.Proofs.Ytflpocnbmpdhiaa

/- A reader of a head in a block of its own, over any memory: what it is made of; where a number may be at most, as a function made for it. No condition. -/
namespace Go.Proofs.Ytflpocnbmpdhiaa
open Go.RowKit
set_option linter.unusedVariables false

/-- the twelve cells of a reader of a head -/
def HdC (w : World) (b : Nat) (kd m0 m1 m2 v0 v1 v2 i : Int) (nv : Value) (t f : Int) (x : Value) : Prop :=
  w.heap[b]? = some (.cells #[.int .i64 kd, .int .i64 m0, .int .i64 m1, .int .i64 m2, .int .i64 v0, .int .i64 v1, .int .i64 v2, .int .i64 i, nv, .int .i64 t, .int .i64 f, x] 96 (0, 0))
section
variable {w w' : World} {b : Nat} {kd m0 m1 m2 v0 v1 v2 i : Int} {nv : Value} {t f : Int} {x : Value}
theorem HdC.lt (h : HdC w b kd m0 m1 m2 v0 v1 v2 i nv t f x) : b < w.heap.size := (Array.getElem?_eq_some_iff.1 h).1
theorem HdC.later (h : HdC w b kd m0 m1 m2 v0 v1 v2 i nv t f x) (hb : Below w.heap.size w w') : HdC w' b kd m0 m1 m2 v0 v1 v2 i nv t f x := (hb.block b h.lt).trans h
theorem HdC.kept {row : Option Nat} (h : HdC w b kd m0 m1 m2 v0 v1 v2 i nv t f x) (hg : w.grownBy w' row) (hne : some b ≠ row) : HdC w' b kd m0 m1 m2 v0 v1 v2 i nv t f x := (hg.block b h.lt hne).trans h
theorem HdC.sep {Z : Nat → Prop} (h : HdC w b kd m0 m1 m2 v0 v1 v2 i nv t f x) (hs : Sep Z w w') (hz : ¬ Z b) : HdC w' b kd m0 m1 m2 v0 v1 v2 i nv t f x := (hs.block b h.lt hz).trans h
theorem HdC.drewN (h : HdC w b kd m0 m1 m2 v0 v1 v2 i nv t f x) (k : Nat) : HdC (w.drewN k) b kd m0 m1 m2 v0 v1 v2 i nv t f x := h
theorem HdC.fr (h : HdC w b kd m0 m1 m2 v0 v1 v2 i nv t f x) (o : Nat) : w.frozen? ⟨b, o, none⟩ = false := by have h' : w.heap[b]? = _ := h; simp [World.frozen?, h']
theorem HdC.c0 (h : HdC w b kd m0 m1 m2 v0 v1 v2 i nv t f x) : w.cell? ⟨b, 0, none⟩ = some (.int .i64 kd) := by have h' : w.heap[b]? = _ := h; simp [World.cell?, h']
theorem HdC.c1 (h : HdC w b kd m0 m1 m2 v0 v1 v2 i nv t f x) : w.cell? ⟨b, 1, none⟩ = some (.int .i64 m0) := by have h' : w.heap[b]? = _ := h; simp [World.cell?, h']
theorem HdC.c2 (h : HdC w b kd m0 m1 m2 v0 v1 v2 i nv t f x) : w.cell? ⟨b, 2, none⟩ = some (.int .i64 m1) := by have h' : w.heap[b]? = _ := h; simp [World.cell?, h']
theorem HdC.c3 (h : HdC w b kd m0 m1 m2 v0 v1 v2 i nv t f x) : w.cell? ⟨b, 3, none⟩ = some (.int .i64 m2) := by have h' : w.heap[b]? = _ := h; simp [World.cell?, h']
theorem HdC.c4 (h : HdC w b kd m0 m1 m2 v0 v1 v2 i nv t f x) : w.cell? ⟨b, 4, none⟩ = some (.int .i64 v0) := by have h' : w.heap[b]? = _ := h; simp [World.cell?, h']
theorem HdC.c5 (h : HdC w b kd m0 m1 m2 v0 v1 v2 i nv t f x) : w.cell? ⟨b, 5, none⟩ = some (.int .i64 v1) := by have h' : w.heap[b]? = _ := h; simp [World.cell?, h']
theorem HdC.c6 (h : HdC w b kd m0 m1 m2 v0 v1 v2 i nv t f x) : w.cell? ⟨b, 6, none⟩ = some (.int .i64 v2) := by have h' : w.heap[b]? = _ := h; simp [World.cell?, h']
theorem HdC.c7 (h : HdC w b kd m0 m1 m2 v0 v1 v2 i nv t f x) : w.cell? ⟨b, 7, none⟩ = some (.int .i64 i) := by have h' : w.heap[b]? = _ := h; simp [World.cell?, h']
theorem HdC.c8 (h : HdC w b kd m0 m1 m2 v0 v1 v2 i nv t f x) : w.cell? ⟨b, 8, none⟩ = some (nv) := by have h' : w.heap[b]? = _ := h; simp [World.cell?, h']
theorem HdC.c9 (h : HdC w b kd m0 m1 m2 v0 v1 v2 i nv t f x) : w.cell? ⟨b, 9, none⟩ = some (.int .i64 t) := by have h' : w.heap[b]? = _ := h; simp [World.cell?, h']
theorem HdC.c10 (h : HdC w b kd m0 m1 m2 v0 v1 v2 i nv t f x) : w.cell? ⟨b, 10, none⟩ = some (.int .i64 f) := by have h' : w.heap[b]? = _ := h; simp [World.cell?, h']
theorem HdC.c11 (h : HdC w b kd m0 m1 m2 v0 v1 v2 i nv t f x) : w.cell? ⟨b, 11, none⟩ = some (x) := by have h' : w.heap[b]? = _ := h; simp [World.cell?, h']
theorem HdC.put0 (h : HdC w b kd m0 m1 m2 v0 v1 v2 i nv t f x) (y : Int) : HdC (w.setCell ⟨b, 0, none⟩ (.int .i64 y)) b y m0 m1 m2 v0 v1 v2 i nv t f x := by
  have h' : w.heap[b]? = _ := h
  simpa [HdC] using Go.heap_setCell_same w b 0 _ _ (.int .i64 y) h'
theorem HdC.put4 (h : HdC w b kd m0 m1 m2 v0 v1 v2 i nv t f x) (y : Int) : HdC (w.setCell ⟨b, 4, none⟩ (.int .i64 y)) b kd m0 m1 m2 y v1 v2 i nv t f x := by
  have h' : w.heap[b]? = _ := h
  simpa [HdC] using Go.heap_setCell_same w b 4 _ _ (.int .i64 y) h'
theorem HdC.put5 (h : HdC w b kd m0 m1 m2 v0 v1 v2 i nv t f x) (y : Int) : HdC (w.setCell ⟨b, 5, none⟩ (.int .i64 y)) b kd m0 m1 m2 v0 y v2 i nv t f x := by
  have h' : w.heap[b]? = _ := h
  simpa [HdC] using Go.heap_setCell_same w b 5 _ _ (.int .i64 y) h'
theorem HdC.put6 (h : HdC w b kd m0 m1 m2 v0 v1 v2 i nv t f x) (y : Int) : HdC (w.setCell ⟨b, 6, none⟩ (.int .i64 y)) b kd m0 m1 m2 v0 v1 y i nv t f x := by
  have h' : w.heap[b]? = _ := h
  simpa [HdC] using Go.heap_setCell_same w b 6 _ _ (.int .i64 y) h'
theorem HdC.put7 (h : HdC w b kd m0 m1 m2 v0 v1 v2 i nv t f x) (y : Int) : HdC (w.setCell ⟨b, 7, none⟩ (.int .i64 y)) b kd m0 m1 m2 v0 v1 v2 y nv t f x := by
  have h' : w.heap[b]? = _ := h
  simpa [HdC] using Go.heap_setCell_same w b 7 _ _ (.int .i64 y) h'
theorem HdC.put8 (h : HdC w b kd m0 m1 m2 v0 v1 v2 i nv t f x) (y : Value) : HdC (w.setCell ⟨b, 8, none⟩ (y)) b kd m0 m1 m2 v0 v1 v2 i y t f x := by
  have h' : w.heap[b]? = _ := h
  simpa [HdC] using Go.heap_setCell_same w b 8 _ _ (y) h'
theorem HdC.put9 (h : HdC w b kd m0 m1 m2 v0 v1 v2 i nv t f x) (y : Int) : HdC (w.setCell ⟨b, 9, none⟩ (.int .i64 y)) b kd m0 m1 m2 v0 v1 v2 i nv y f x := by
  have h' : w.heap[b]? = _ := h
  simpa [HdC] using Go.heap_setCell_same w b 9 _ _ (.int .i64 y) h'
theorem HdC.put10 (h : HdC w b kd m0 m1 m2 v0 v1 v2 i nv t f x) (y : Int) : HdC (w.setCell ⟨b, 10, none⟩ (.int .i64 y)) b kd m0 m1 m2 v0 v1 v2 i nv t y x := by
  have h' : w.heap[b]? = _ := h
  simpa [HdC] using Go.heap_setCell_same w b 10 _ _ (.int .i64 y) h'
theorem HdC.put11 (h : HdC w b kd m0 m1 m2 v0 v1 v2 i nv t f x) (y : Value) : HdC (w.setCell ⟨b, 11, none⟩ (y)) b kd m0 m1 m2 v0 v1 v2 i nv t f y := by
  have h' : w.heap[b]? = _ := h
  simpa [HdC] using Go.heap_setCell_same w b 11 _ _ (y) h'
end
def nxH1 (b : Nat) : Value := .func (.func 53) #[.pointer (some ⟨b, 0, none⟩)] #[]
theorem enH1 : ∀ args w, (callFunc 53 args).run Try.prog w = .ok (.enter 53 args) w := enters_of Try.func53 (by kernel_rfl) rfl
def nxH2 (b : Nat) : Value := .func (.func 85) #[.pointer (some ⟨b, 0, none⟩)] #[]
theorem enH2 : ∀ args w, (callFunc 85 args).run Try.prog w = .ok (.enter 85 args) w := enters_of Try.func85 (by kernel_rfl) rfl
def nxH3 (b : Nat) : Value := .func (.func 105) #[.pointer (some ⟨b, 0, none⟩)] #[]
theorem enH3 : ∀ args w, (callFunc 105 args).run Try.prog w = .ok (.enter 105 args) w := enters_of Try.func105 (by kernel_rfl) rfl
def nxHN (b : Nat) : Value := .func (.func 128) #[.pointer (some ⟨b, 0, none⟩)] #[]
theorem enHN : ∀ args w, (callFunc 128 args).run Try.prog w = .ok (.enter 128 args) w := enters_of Try.func128 (by kernel_rfl) rfl

/-- a function that brings a number to where it may be -/
def UpV (w : World) (v : Value) (m : Int) : Prop := ∃ b, v = .func (.func 83) #[] #[.pointer (some ⟨b, 0, none⟩)] ∧ w.cell? ⟨b, 0, none⟩ = some (.int .i64 m)
theorem UpV.later {w w' : World} {v : Value} {m : Int} (h : UpV w v m) (hb : Below w.heap.size w w') : UpV w' v m := by
  obtain ⟨b, h1, h2⟩ := h; exact ⟨b, h1, cell_later hb h2⟩
theorem enU : ∀ args w, (callFunc 83 args).run Try.prog w = .ok (.enter 83 args) w := enters_of Try.func83 (by kernel_rfl) rfl
set_option maxHeartbeats 1000000 in
theorem upTo_any (m : Int) (w : World) :
    Calls Try.prog 52 #[.int .i64 m] w fun e w' => ∃ v, e = .returned v ∧ UpV w' v m ∧ Below w.heap.size w w' := by
  go_enter Try.func52, Try.ntmps52
  go_wp2
  go_ret
  exact ⟨_, rfl, ⟨_, rfl, by simp [go_sem]⟩, by go_grown⟩
set_option maxHeartbeats 1000000 in
theorem upTo1_any (n m : Int) (m1 : 1 ≤ m) (b : Nat) (w : World) (hc : w.cell? ⟨b, 0, none⟩ = some (.int .i64 m)) :
    Calls Try.prog 83 #[.int .i64 n, .pointer (some ⟨b, 0, none⟩)] w fun e w' => e = .returned (.int .i64 (Hd.lim n m)) ∧ w = w' := by
  by_cases h1 : n < 1
  · have X := Lib.hid (show Hd.lim n m = 1 by unfold Hd.lim; rw [if_pos h1])
    have h2 : ¬ m < 1 := by omega
    go_enter Try.func83, Try.ntmps83
    go_wp2
    go_ret
    exact ⟨Ar.ret_i X.out.symm, rfl⟩
  by_cases h2 : m < n
  · have X := Lib.hid (show Hd.lim n m = m by unfold Hd.lim; rw [if_neg h1, if_pos h2])
    go_enter Try.func83, Try.ntmps83
    go_wp2
    go_ret
    exact ⟨Ar.ret_i X.out.symm, rfl⟩
  · have X := Lib.hid (show Hd.lim n m = n by unfold Hd.lim; rw [if_neg h1, if_neg h2])
    go_enter Try.func83, Try.ntmps83
    go_wp2
    go_ret
    exact ⟨Ar.ret_i X.out.symm, rfl⟩
end Go.Proofs.Ytflpocnbmpdhiaa

/- A reader of a number tells its number; what a reader's block leaves of a row. Condition: its greatest number fits. -/
namespace Go.Proofs.Ytflpocnbmpdhiaa
open Go.RowKit
set_option linter.unusedVariables false

theorem value_s {w : World} {b : Nat} {m : Int} {s : Tk.S} (h : RdS w b m s) :
    Calls Try.prog 141 #[.pointer (some ⟨b, 0, none⟩)] w fun e w' => e = .returned (.tuple #[.int .i64 (Tk.val s).1, .int .i64 (Tk.val s).2]) ∧ w.grownBy w' none := by
  obtain ⟨⟨h1, h2, h3, h4, h5, h6, h7, h8⟩, v, f, x, r1, r2, r3, r4⟩ := h
  obtain ⟨k, n, er, bg⟩ := s
  simp only at h1 h2 h3 h4 h5 h6 h7 h8 r2 r3 r4
  by_cases k4 : k = 4
  · subst k4
    have hv := r2 (by omega)
    have he := h5 rfl
    subst hv he
    have r1' : RdC w b m v bg 1 f x := r1
    have hc1 := r1'.c1
    have hc3 := r1'.c3
    clear r1 r1' r2 r3 r4 h1 h2 h3 h4 h5 h6 h7 h8
    go_enter Try.func141, Try.ntmps141
    go_wp2
    go_ret2
    exact ⟨rfl, .refl _ _⟩
  by_cases k5 : k = 5
  · subst k5
    have hf := r4 rfl
    have he : er ≠ 0 := by have := h6 rfl; omega
    subst hf
    have r1' : RdC w b m v bg 2 f x := r1
    have X : Hid (Tk.val ⟨5, n, f, bg⟩ = (0, f)) := by show _ = _; unfold Tk.val; exact if_neg he
    have hc4 := r1'.c4
    have hc3 := r1'.c3
    clear r1 r1' r2 r3 r4 h1 h2 h3 h4 h5 h6 h7 h8 he
    go_enter Try.func141, Try.ntmps141
    go_wp2_with (go_quiet (fail))
    go_ret2
    exact ⟨(by rw [X.out]; rfl), grown_drew _ _ _⟩
  · have he := h4 (by omega)
    subst he
    have hst : Tk.st ⟨k, n, 9, bg⟩ = 0 := by unfold Tk.st; simp [k4, k5]
    rw [hst] at r1
    have hc3 := r1.c3
    clear r1 r2 r3 r4 h1 h2 h3 h4 h5 h6 h7 h8 hst
    go_enter Try.func141, Try.ntmps141
    go_wp2
    go_ret2
    exact ⟨rfl, .refl _ _⟩
theorem RdS.not_row {w : World} {b : Nat} {m : Int} {s : Tk.S} (h : RdS w b m s) {e : TypeId} (hte : 183 ≠ e) {base size k : Nat} {v : Value} {xs : List Value} (hr : w.ownsRow base e size v k xs) : some b ≠ v.ownBlock := by
  obtain ⟨_, _, f, x, h1, _⟩ := h
  have h1' : w.heap[b]? = _ := h1
  rcases hr.2 with ⟨hv, _⟩ | ⟨j, cap, cur, hv, _, hj, _⟩
  · rw [hv]; simp [Value.ownBlock]
  · rw [hv]; intro e2
    have e2 : b = j := by simpa [Value.ownBlock] using e2
    subst e2
    rw [h1'] at hj
    injection hj with hj
    injection hj with _ ht _
    exact hte ht
theorem row_keep {w w' : World} {b base size k : Nat} {e : TypeId} {v : Value} {xs : List Value} (hr : w.ownsRow base e size v k xs) (hg : w.grownBy w' (some b)) (hne : some b ≠ v.ownBlock) : w'.ownsRow base e size v k xs := hr.kept hg (.inr (Ne.symm hne))
theorem row_none {w w' : World} {base size k : Nat} {e : TypeId} {v : Value} {xs : List Value} (hr : w.ownsRow base e size v k xs) (hg : w.grownBy w' none) : w'.ownsRow base e size v k xs := by
  refine hr.kept hg ?_
  cases h : v.ownBlock with
  | none => exact .inl rfl
  | some j => exact .inr (by simp)
theorem row_below {w w' : World} {base size k : Nat} {e : TypeId} {v : Value} {xs : List Value} (hr : w.ownsRow base e size v k xs) (hb : Below w.heap.size w w') : w'.ownsRow base e size v k xs := row_none hr ⟨hb.os, hb.tape, hb.output, hb.size, fun k hk _ => hb.block k hk⟩
end Go.Proofs.Ytflpocnbmpdhiaa

/- A reader of a head: its parts, over any memory. Condition: its limits are such as may be. -/
namespace Go.Proofs.Ytflpocnbmpdhiaa
open Go.RowKit
set_option linter.unusedVariables false

def nxP (p b : Nat) : Value := if p = 0 then nxH1 b else if p = 1 then nxH2 b else if p = 2 then nxH3 b else nxHN b
/-- a reader of a head in the block b, its number's reader in the block n, is where s says, its status T -/
def HdX (T : Int) (w : World) (b n : Nat) (l : Hd.L) (s : Hd.S) : Prop :=
  Hd.Good l s ∧ ∃ nv f x, HdC w b s.kd l.m0 l.m1 l.m2 s.v0 s.v1 s.v2 s.i nv T f x ∧ (s.p = 3 → nv = .pointer (some ⟨n, 0, none⟩) ∧ RdS w n (l.at s.i) s.t ∧ n ≠ b) ∧ (s.p ≤ 3 → x = nxP s.p b) ∧ (s.p = 5 → f = s.e)
def two (b n : Nat) : Nat → Prop := fun k => k = b ∨ k = n
/-- what a part of a reader hands back, and what its blocks hold then -/
def InR (w : World) (b n : Nat) (l : Hd.L) (s : Hd.S) (e : Ending) (w' : World) : Prop :=
  ∃ n', e = .returned (.int .i64 (Hd.st s)) ∧ HdX 0 w' b n' l s ∧ Sep (two b n) w w' ∧ (n' = n ∨ w.heap.size ≤ n')
theorem Sep.grown {Z : Nat → Prop} {w w' : World} {k : Nat} (hg : w.grownBy w' (some k)) (hz : Z k) : Sep Z w w' := ⟨hg.os, hg.tape, hg.output, hg.size, fun j hj hn => hg.block j hj (fun e => hn (by injection e with e; rw [e]; exact hz))⟩
theorem Sep.grownN {Z : Nat → Prop} {w w' : World} (hg : w.grownBy w' none) : Sep Z w w' := ⟨hg.os, hg.tape, hg.output, hg.size, fun j hj hn => hg.block j hj (by simp)⟩
theorem Sep.bel {Z : Nat → Prop} {w w' : World} (hb : Below w.heap.size w w') : Sep Z w w' := ⟨hb.os, hb.tape, hb.output, hb.size, fun j hj _ => hb.block j hj⟩
theorem HdX.lt {T : Int} {w : World} {b n : Nat} {l : Hd.L} {s : Hd.S} (h : HdX T w b n l s) : b < w.heap.size := by obtain ⟨_, nv, f, x, h1, _⟩ := h; exact h1.lt
theorem HdX.sep {T : Int} {w w' : World} {Z : Nat → Prop} {b n : Nat} {l : Hd.L} {s : Hd.S} (h : HdX T w b n l s) (hs : Sep Z w w') (hb : ¬ Z b) (hn : ¬ Z n) : HdX T w' b n l s := by
  obtain ⟨hG, nv, f, x, h1, h2, h3, h4⟩ := h
  refine ⟨hG, nv, f, x, h1.sep hs hb, fun hp => ?_, h3, h4⟩
  obtain ⟨a1, a2, a3⟩ := h2 hp
  refine ⟨a1, ?_, a3⟩
  obtain ⟨g, v, f', x', r1, r2⟩ := a2
  exact ⟨g, v, f', x', (hs.block n r1.lt hn).trans r1, r2⟩
theorem HdX.later {T : Int} {w w' : World} {b n : Nat} {l : Hd.L} {s : Hd.S} (h : HdX T w b n l s) (hb : Below w.heap.size w w') : HdX T w' b n l s :=
  h.sep (Z := fun _ => False) (.bel hb) (fun h => h) (fun h => h)
set_option maxHeartbeats 1000000 in
theorem hwrong_any (w : World) (b : Nat) (kd m0 m1 m2 v0 v1 v2 i : Int) (nv : Value) (t f : Int) (x : Value) (h : HdC w b kd m0 m1 m2 v0 v1 v2 i nv t f x) (e : Int) :
    Calls Try.prog 84 #[.pointer (some ⟨b, 0, none⟩), .int .i64 e] w fun r w' => r = .returned (.int .i64 2) ∧ HdC w' b kd m0 m1 m2 v0 v1 v2 i nv t e x ∧ w.grownBy w' (some b) := by
  have hc := h.c10
  have hf := h.fr 10
  go_enter Try.func84, Try.ntmps84
  go_wp2
  go_ret
  exact ⟨rfl, h.put10 _, grown_set _ _ _ _⟩
set_option maxHeartbeats 2000000 in
theorem hbegin0_any (w : World) (b : Nat) (kd m0 m1 m2 v0 v1 v2 : Int) (nv : Value) (t f : Int) (x : Value) (h : HdC w b kd m0 m1 m2 v0 v1 v2 0 nv t f x) (hm : 0 ≤ m0) :
    Calls Try.prog 127 #[.pointer (some ⟨b, 0, none⟩)] w fun r w' => r = .returned (.tuple #[]) ∧ HdC w' b kd m0 m1 m2 v0 v1 v2 0 (.pointer (some ⟨w.heap.size, 0, none⟩)) t f x ∧ RdS w' w.heap.size m0 Tk.new ∧ w.grownBy w' (some b) := by
  have hc7 := h.c7
  have hc := h.c1
  have hlt := h.lt
  have HT := Lib.hid (fun W => tokNew_s m0 hm W)
  clear hm
  go_enter Try.func127, Try.ntmps127
  go_wp2_with fail
  go_region_with (go_at_call 139; refine (HT.out _).mono ?_; rintro e w1 ⟨rfl, hR, hB⟩; have h2 : HdC w1 b kd m0 m1 m2 v0 v1 v2 0 nv t f x := (show HdC w.drew b kd m0 m1 m2 v0 v1 v2 0 nv t f x from h).later hB; have hd8 := h2.c8; have hf8 := h2.fr 8)
  all_goals
    go_wp2
    go_end0
    exact ⟨rfl, h2.put8 _, hR.kept (grown_set _ _ _ _) (by intro e; injection e with e; exact Nat.ne_of_lt hlt e.symm), ((show w.grownBy w.drew (some b) from grown_drew w 1 _).trans ⟨hB.os, hB.tape, hB.output, hB.size, fun k hk _ => hB.block k hk⟩).trans (grown_set _ _ _ _)⟩
set_option maxHeartbeats 2000000 in
theorem hbegin1_any (w : World) (b : Nat) (kd m0 m1 m2 v0 v1 v2 : Int) (nv : Value) (t f : Int) (x : Value) (h : HdC w b kd m0 m1 m2 v0 v1 v2 1 nv t f x) (hm : 0 ≤ m1) :
    Calls Try.prog 127 #[.pointer (some ⟨b, 0, none⟩)] w fun r w' => r = .returned (.tuple #[]) ∧ HdC w' b kd m0 m1 m2 v0 v1 v2 1 (.pointer (some ⟨w.heap.size, 0, none⟩)) t f x ∧ RdS w' w.heap.size m1 Tk.new ∧ w.grownBy w' (some b) := by
  have hc7 := h.c7
  have hc := h.c2
  have hlt := h.lt
  have HT := Lib.hid (fun W => tokNew_s m1 hm W)
  clear hm
  go_enter Try.func127, Try.ntmps127
  go_wp2_with fail
  go_region_with (go_at_call 139; refine (HT.out _).mono ?_; rintro e w1 ⟨rfl, hR, hB⟩; have h2 : HdC w1 b kd m0 m1 m2 v0 v1 v2 1 nv t f x := (show HdC w.drew b kd m0 m1 m2 v0 v1 v2 1 nv t f x from h).later hB; have hd8 := h2.c8; have hf8 := h2.fr 8)
  all_goals
    go_wp2
    go_end0
    exact ⟨rfl, h2.put8 _, hR.kept (grown_set _ _ _ _) (by intro e; injection e with e; exact Nat.ne_of_lt hlt e.symm), ((show w.grownBy w.drew (some b) from grown_drew w 1 _).trans ⟨hB.os, hB.tape, hB.output, hB.size, fun k hk _ => hB.block k hk⟩).trans (grown_set _ _ _ _)⟩
set_option maxHeartbeats 2000000 in
theorem hbegin2_any (w : World) (b : Nat) (kd m0 m1 m2 v0 v1 v2 : Int) (nv : Value) (t f : Int) (x : Value) (h : HdC w b kd m0 m1 m2 v0 v1 v2 2 nv t f x) (hm : 0 ≤ m2) :
    Calls Try.prog 127 #[.pointer (some ⟨b, 0, none⟩)] w fun r w' => r = .returned (.tuple #[]) ∧ HdC w' b kd m0 m1 m2 v0 v1 v2 2 (.pointer (some ⟨w.heap.size, 0, none⟩)) t f x ∧ RdS w' w.heap.size m2 Tk.new ∧ w.grownBy w' (some b) := by
  have hc7 := h.c7
  have hc := h.c3
  have hlt := h.lt
  have HT := Lib.hid (fun W => tokNew_s m2 hm W)
  clear hm
  go_enter Try.func127, Try.ntmps127
  go_wp2_with fail
  go_region_with (go_at_call 139; refine (HT.out _).mono ?_; rintro e w1 ⟨rfl, hR, hB⟩; have h2 : HdC w1 b kd m0 m1 m2 v0 v1 v2 2 nv t f x := (show HdC w.drew b kd m0 m1 m2 v0 v1 v2 2 nv t f x from h).later hB; have hd8 := h2.c8; have hf8 := h2.fr 8)
  all_goals
    go_wp2
    go_end0
    exact ⟨rfl, h2.put8 _, hR.kept (grown_set _ _ _ _) (by intro e; injection e with e; exact Nat.ne_of_lt hlt e.symm), ((show w.grownBy w.drew (some b) from grown_drew w 1 _).trans ⟨hB.os, hB.tape, hB.output, hB.size, fun k hk _ => hB.block k hk⟩).trans (grown_set _ _ _ _)⟩
end Go.Proofs.Ytflpocnbmpdhiaa

/- A reader of a head is told a byte of a number, over any memory. Condition: its limits are such as may be. -/
namespace Go.Proofs.Ytflpocnbmpdhiaa
open Go.RowKit
set_option linter.unusedVariables false

theorem Tk.val_over {m : Int} {t : Tk.S} (h : Tk.Good m t) (hk : t.k = 4) : Tk.val t = (t.n, 0) := by unfold Tk.val; rw [if_pos (h.2.2.2.2.1 hk)]
theorem Tk.val_wrong {m : Int} {t : Tk.S} (h : Tk.Good m t) (hk : t.k = 5) : Tk.val t = (0, t.e) := by
  have := h.2.2.2.2.2.1 hk
  unfold Tk.val; rw [if_neg (by omega)]
theorem Tk.st_over {t : Tk.S} (hk : t.k = 4) : Tk.st t = 1 := by unfold Tk.st; rw [if_pos hk]
theorem Tk.st_wrong {t : Tk.S} (hk : t.k = 5) : Tk.st t = 2 := by unfold Tk.st; rw [if_neg (by omega), if_pos hk]
theorem Tk.st_more {t : Tk.S} (hk : t.k ≤ 3) : Tk.st t = 0 := by unfold Tk.st; rw [if_neg (by omega), if_neg (by omega)]
theorem some_ne {a b : Nat} (h : a ≠ b) : some a ≠ some b := by intro e; injection e with e; exact h e
/-- told a byte with which its number goes on -/
def TokC (l : Hd.L) (s : Hd.S) (n : Nat) (c : Int) (t : Tk.S) (q : Int) : Prop :=
  ∀ W, RdS W n (l.at s.i) s.t → Calls Try.prog 140 #[.pointer (some ⟨n, 0, none⟩), .int .u8 c] W fun e w' => e = .returned (.int .i64 q) ∧ RdS w' n (l.at s.i) t ∧ W.grownBy w' (some n)
theorem tokC {l : Hd.L} {s : Hd.S} {n : Nat} {c : Int} {t : Tk.S} {q : Int} (hG : Tk.Good (l.at s.i) s.t) (hl : l.Ok) (c0 : 0 ≤ c) (c1 : c ≤ 255) (ht : Tk.put (l.at s.i) s.t c = t) (hq : Tk.st t = q) : TokC l s n c t q := by
  intro W hr
  have h := (put_both hG (by have := Hd.L.at_ok hl s.i; omega) c c0 c1).1 W n hr
  rw [ht] at h
  refine h.mono ?_
  rintro e w' ⟨h1, h2, h3⟩
  exact ⟨by rw [h1, hq], h2, h3⟩
set_option maxHeartbeats 2000000 in
theorem in_more {l : Hd.L} (hl : l.Ok) {s : Hd.S} (hG : Hd.Good l s) (hp : s.p = 3) (c : Int) (c0 : 0 ≤ c) (c1 : c ≤ 255) (t : Tk.S) (ht : Tk.put (l.at s.i) s.t c = t) (hk : t.k ≤ 3) (w : World) (b n : Nat) (h : HdX 0 w b n l s) :
    Calls Try.prog 128 #[.pointer (some ⟨b, 0, none⟩), .int .u8 c] w (InR w b n l (s.tok t)) := by
  have hG' := Hd.good_take hl (hG.2.2.2.2.1 (by omega) (by omega)) (hG.2.2.2.2.2.1 (by omega)) (Tk.good_put (hG.2.1 (by omega)).1 c)
  rw [ht, show Hd.take s t = s.tok t by unfold Hd.take; rw [if_neg (by omega), if_neg (by omega)]] at hG'
  obtain ⟨_, nv, f, x, h1, h2, h3, h4⟩ := h
  obtain ⟨rfl, hr, hne⟩ := h2 hp
  have hx := h3 (by omega)
  rw [hp] at hx
  have hc8 := h1.c8
  have HC := Lib.hid (tokC (n := n) (hG.2.1 (by omega)).1 hl c0 c1 ht (Tk.st_more hk))
  have H1 := Lib.hid h1
  have HR := Lib.hid hr
  have HG' := Lib.hid hG'
  have HX := Lib.hid hx
  clear h1 hr h2 h3 h4 hG hl ht hk hG' hx
  go_enter Try.func128, Try.ntmps128
  go_wp2_with (go_at_call 140; refine (HC.out _ HR.out).mono ?_; rintro e w1 ⟨rfl, hr, hg⟩; have HR1 := Lib.hid hr; have HG1 := Lib.hid hg; clear hr hg)
  go_ret
  exact ⟨n, rfl, ⟨HG'.out, _, f, x, H1.out.kept HG1.out (some_ne (Ne.symm hne)), fun _ => ⟨rfl, HR1.out, hne⟩, fun _ => HX.out, fun h => absurd h (by show ¬ (3 : Nat) = 5; decide)⟩, .grown HG1.out (.inr rfl), .inl rfl⟩
set_option maxHeartbeats 2000000 in
theorem in_wrong {l : Hd.L} (hl : l.Ok) {s : Hd.S} (hG : Hd.Good l s) (hp : s.p = 3) (c : Int) (c0 : 0 ≤ c) (c1 : c ≤ 255) (t : Tk.S) (ht : Tk.put (l.at s.i) s.t c = t) (hk : t.k = 5) (w : World) (b n : Nat) (h : HdX 0 w b n l s) :
    Calls Try.prog 128 #[.pointer (some ⟨b, 0, none⟩), .int .u8 c] w (InR w b n l (s.wrong t.e)) := by
  have hT := Tk.good_put (hG.2.1 (by omega)).1 c
  rw [ht] at hT
  have hG' : Hd.Good l (s.wrong t.e) := Hd.good_wrong (by have := hG.2.2.2.2.2.2.2; omega) (.inr (hT.2.2.2.2.2.1 hk))
  have hv := Tk.val_wrong hT hk
  have hz : (t.e != 0) = true := by have := hT.2.2.2.2.2.1 hk; simp; omega
  obtain ⟨_, nv, f, x, h1, h2, h3, h4⟩ := h
  obtain ⟨rfl, hr, hne⟩ := h2 hp
  have hc8 := h1.c8
  have HC := Lib.hid (tokC (n := n) (hG.2.1 (by omega)).1 hl c0 c1 ht (Tk.st_wrong hk))
  have HV : Hid (∀ W, RdS W n (l.at s.i) t → Calls Try.prog 141 #[.pointer (some ⟨n, 0, none⟩)] W fun e w' => e = .returned (.tuple #[.int .i64 0, .int .i64 t.e]) ∧ W.grownBy w' none) := fun W hr => (value_s hr).mono fun e w' hh => ⟨by rw [hh.1, hv], hh.2⟩
  have HW := Lib.hid hwrong_any
  have H1 := Lib.hid h1
  have HR := Lib.hid hr
  have HG' := Lib.hid hG'
  clear h1 hr h2 h3 h4 hG hl ht hk hG' hT hv
  obtain ⟨e, he⟩ : ∃ e, t.e = e := ⟨_, rfl⟩
  rw [he] at HV HG' hz ⊢
  go_enter Try.func128, Try.ntmps128
  go_wp2_with fail
  refine (HC.out _ HR.out).mono ?_
  rintro e1 w1 ⟨rfl, hr, hg⟩
  have HR1 := Lib.hid hr
  have HG1 := Lib.hid hg
  have h2 := H1.out.kept hg (some_ne (Ne.symm hne))
  have hd8 := h2.c8
  have H2 := Lib.hid h2
  clear hr hg h2
  go_wp2_with fail
  refine (HV.out _ HR1.out).mono ?_
  rintro e1 w2 ⟨rfl, hg⟩
  have HG2 := Lib.hid hg
  have H3 := Lib.hid (H2.out.kept hg (by simp))
  clear hg
  go_wp2_with fail
  refine (HW.out _ _ _ _ _ _ _ _ _ _ _ _ _ _ H3.out _).mono ?_
  rintro e1 w3 ⟨rfl, h3, hg⟩
  have HG3 := Lib.hid hg
  have H4 := Lib.hid h3
  clear h3 hg
  go_wp2
  go_ret
  exact ⟨n, rfl, ⟨HG'.out, _, e, x, H4.out, fun h => absurd h (by show ¬ (5 : Nat) = 3; decide), fun h => absurd h (by show ¬ (5 : Nat) ≤ 3; decide), fun _ => rfl⟩, ((Sep.grown HG1.out (.inr rfl)).trans (.grownN HG2.out)).trans (.grown HG3.out (.inl rfl)), .inl rfl⟩
set_option maxHeartbeats 2000000 in
theorem in_zero {l : Hd.L} (hl : l.Ok) {s : Hd.S} (hG : Hd.Good l s) (hp : s.p = 3) (c : Int) (c0 : 0 ≤ c) (c1 : c ≤ 255) (t : Tk.S) (ht : Tk.put (l.at s.i) s.t c = t) (hk : t.k = 4) (hn : t.n = 0) (w : World) (b n : Nat) (h : HdX 0 w b n l s) :
    Calls Try.prog 128 #[.pointer (some ⟨b, 0, none⟩), .int .u8 c] w (InR w b n l (s.wrong 4)) := by
  have hT := Tk.good_put (hG.2.1 (by omega)).1 c
  rw [ht] at hT
  have hG' : Hd.Good l (s.wrong 4) := Hd.good_wrong (by have := hG.2.2.2.2.2.2.2; omega) (.inr (.inr rfl))
  have hv := Tk.val_over hT hk
  rw [hn] at hv
  obtain ⟨_, nv, f, x, h1, h2, h3, h4⟩ := h
  obtain ⟨rfl, hr, hne⟩ := h2 hp
  have hc8 := h1.c8
  have HC := Lib.hid (tokC (n := n) (hG.2.1 (by omega)).1 hl c0 c1 ht (Tk.st_over hk))
  have HV : Hid (∀ W, RdS W n (l.at s.i) t → Calls Try.prog 141 #[.pointer (some ⟨n, 0, none⟩)] W fun e w' => e = .returned (.tuple #[.int .i64 0, .int .i64 0]) ∧ W.grownBy w' none) := fun W hr => (value_s hr).mono fun e w' hh => ⟨by rw [hh.1, hv], hh.2⟩
  have HW := Lib.hid hwrong_any
  have H1 := Lib.hid h1
  have HR := Lib.hid hr
  have HG' := Lib.hid hG'
  clear h1 hr h2 h3 h4 hG hl ht hk hG' hT hv hn
  go_enter Try.func128, Try.ntmps128
  go_wp2_with fail
  refine (HC.out _ HR.out).mono ?_
  rintro e1 w1 ⟨rfl, hr, hg⟩
  have HR1 := Lib.hid hr
  have HG1 := Lib.hid hg
  have h2 := H1.out.kept hg (some_ne (Ne.symm hne))
  have hd8 := h2.c8
  have H2 := Lib.hid h2
  clear hr hg h2
  go_wp2_with fail
  refine (HV.out _ HR1.out).mono ?_
  rintro e1 w2 ⟨rfl, hg⟩
  have HG2 := Lib.hid hg
  have H3 := Lib.hid (H2.out.kept hg (by simp))
  clear hg
  go_wp2_with fail
  refine (HW.out _ _ _ _ _ _ _ _ _ _ _ _ _ _ H3.out _).mono ?_
  rintro e1 w3 ⟨rfl, h3, hg⟩
  have HG3 := Lib.hid hg
  have H4 := Lib.hid h3
  clear h3 hg
  go_wp2
  go_ret
  exact ⟨n, rfl, ⟨HG'.out, _, 4, x, H4.out, fun h => absurd h (by show ¬ (5 : Nat) = 3; decide), fun h => absurd h (by show ¬ (5 : Nat) ≤ 3; decide), fun _ => rfl⟩, ((Sep.grown HG1.out (.inr rfl)).trans (.grownN HG2.out)).trans (.grown HG3.out (.inl rfl)), .inl rfl⟩
set_option maxHeartbeats 1000000 in
theorem tells_any (k : Int) (w : World) :
    Calls Try.prog 106 #[.int .i64 k] w fun e w' => e = .returned (.bool (!Hd.bits k)) ∧ w = w' := by
  by_cases h1 : k = 1
  · subst h1
    have X := Lib.hid (show (!Hd.bits 1) = false by decide)
    go_enter Try.func106, Try.ntmps106
    go_wp2
    go_ret
    exact ⟨ret_b X.out.symm, rfl⟩
  by_cases h4 : k = 4
  · subst h4
    have X := Lib.hid (show (!Hd.bits 4) = false by decide)
    go_enter Try.func106, Try.ntmps106
    go_wp2
    go_ret
    exact ⟨ret_b X.out.symm, rfl⟩
  · have X := Lib.hid (show (!Hd.bits k) = true by unfold Hd.bits; rw [decide_eq_false (by omega)]; rfl)
    have k1 : (k != 1) = true := by simpa using h1
    have k4 : (k != 4) = true := by simpa using h4
    go_enter Try.func106, Try.ntmps106
    go_wp2
    go_ret
    exact ⟨ret_b X.out.symm, rfl⟩
set_option maxHeartbeats 1000000 in
theorem numbers_any (k : Int) (w : World) :
    Calls Try.prog 142 #[.int .i64 k] w fun e w' => e = .returned (.int .i64 (Hd.many k : Nat)) ∧ w = w' := by
  have HT := Lib.hid (tells_any k)
  cases hb : Hd.bits k with
  | true =>
    have X := Lib.hid (show Hd.many k = 2 by unfold Hd.many; rw [if_pos hb])
    rw [hb] at HT
    go_enter Try.func142, Try.ntmps142
    go_wp2_with (go_at_call 106; refine (HT.out _).mono ?_; rintro e w1 ⟨rfl, rfl⟩)
    go_ret
    exact ⟨by rw [X.out]; rfl, rfl⟩
  | false =>
    have X := Lib.hid (show Hd.many k = 3 by unfold Hd.many; rw [if_neg (by rw [hb]; simp)])
    rw [hb] at HT
    go_enter Try.func142, Try.ntmps142
    go_wp2_with (go_at_call 106; refine (HT.out _).mono ?_; rintro e w1 ⟨rfl, rfl⟩)
    go_ret
    exact ⟨by rw [X.out]; rfl, rfl⟩
end Go.Proofs.Ytflpocnbmpdhiaa

/- Which heads may be, told by head and by the document, over any memory. Condition: numbers fit their kinds. -/
namespace Go.Proofs.Ytflpocnbmpdhiaa
open Go.RowKit
set_option linter.unusedVariables false

theorem Hj.ret_d {p : Prop} [Decidable p] {b : Bool} (h : decide p = b) : Ending.returned (.bool b) = .returned (.bool (decide p)) := by rw [h]
set_option maxHeartbeats 2000000 in
theorem refMay_any (h : Hd.H) (hf : Hj.Fit h) (w : World) :
    Calls Try.prog 45 #[agH h] w fun e w' => e = .returned (.bool (decide (Hd.May h))) ∧ Below w.heap.size w w' := by
  obtain ⟨kd, ww, hh, m⟩ := h
  have HB := Lib.hid (bits_any kd)
  unfold agH
  by_cases a1 : kd < 1
  · have X := Lib.hid (show decide (Hd.May ⟨kd, ww, hh, m⟩) = false from decide_eq_false (fun h => by have := h.1.1; simp only at this; omega))
    go_enter Try.func45, Try.ntmps45
    go_wp2
    go_ret
    exact ⟨Hj.ret_d X.out, by go_grown⟩
  by_cases a2 : 6 < kd
  · have X := Lib.hid (show decide (Hd.May ⟨kd, ww, hh, m⟩) = false from decide_eq_false (fun h => by have := h.1.2; simp only at this; omega))
    go_enter Try.func45, Try.ntmps45
    go_wp2
    go_ret
    exact ⟨Hj.ret_d X.out, by go_grown⟩
  by_cases b1 : ww < 1
  · have X := Lib.hid (show decide (Hd.May ⟨kd, ww, hh, m⟩) = false from decide_eq_false (fun h => by have := h.2.1.1; simp only at this; omega))
    go_enter Try.func45, Try.ntmps45
    go_wp2
    go_ret
    exact ⟨Hj.ret_d X.out, by go_grown⟩
  by_cases b2 : 4096 < ww
  · have X := Lib.hid (show decide (Hd.May ⟨kd, ww, hh, m⟩) = false from decide_eq_false (fun h => by have := h.2.1.2; simp only at this; omega))
    go_enter Try.func45, Try.ntmps45
    go_wp2
    go_ret
    exact ⟨Hj.ret_d X.out, by go_grown⟩
  by_cases c1 : hh < 1
  · have X := Lib.hid (show decide (Hd.May ⟨kd, ww, hh, m⟩) = false from decide_eq_false (fun h => by have := h.2.2.1.1; simp only at this; omega))
    go_enter Try.func45, Try.ntmps45
    go_wp2
    go_ret
    exact ⟨Hj.ret_d X.out, by go_grown⟩
  by_cases c2 : 65536 < hh
  · have X := Lib.hid (show decide (Hd.May ⟨kd, ww, hh, m⟩) = false from decide_eq_false (fun h => by have := h.2.2.1.2; simp only at this; omega))
    go_enter Try.func45, Try.ntmps45
    go_wp2
    go_ret
    exact ⟨Hj.ret_d X.out, by go_grown⟩
  by_cases d1 : m < 1
  · have X := Lib.hid (show decide (Hd.May ⟨kd, ww, hh, m⟩) = false from decide_eq_false (fun h => by have := h.2.2.2.1.1; simp only at this; omega))
    go_enter Try.func45, Try.ntmps45
    go_wp2
    go_ret
    exact ⟨Hj.ret_d X.out, by go_grown⟩
  by_cases d2 : 65535 < m
  · have X := Lib.hid (show decide (Hd.May ⟨kd, ww, hh, m⟩) = false from decide_eq_false (fun h => by have := h.2.2.2.1.2; simp only at this; omega))
    go_enter Try.func45, Try.ntmps45
    go_wp2
    go_ret
    exact ⟨Hj.ret_d X.out, by go_grown⟩
  by_cases e1 : m = 1
  · subst e1
    have X := Lib.hid (show decide (Hd.May ⟨kd, ww, hh, 1⟩) = true from decide_eq_true ⟨⟨by simp only []; omega, by simp only []; omega⟩, ⟨by simp only []; omega, by simp only []; omega⟩, ⟨by simp only []; omega, by simp only []; omega⟩, ⟨by simp, by simp⟩, fun _ => rfl⟩)
    go_enter Try.func45, Try.ntmps45
    go_wp2
    go_ret
    exact ⟨Hj.ret_d X.out, by go_grown⟩
  · have k1 : (m == 1) = false := by simpa using e1
    obtain ⟨g, hg⟩ : ∃ g, Hd.bits kd = g := ⟨_, rfl⟩
    have X : Hid (decide (Hd.May ⟨kd, ww, hh, m⟩) = !g) := by
      show _ = _
      cases g with
      | true => exact decide_eq_false (fun h => e1 (h.2.2.2.2 hg))
      | false => exact decide_eq_true ⟨⟨by simp only []; omega, by simp only []; omega⟩, ⟨by simp only []; omega, by simp only []; omega⟩, ⟨by simp only []; omega, by simp only []; omega⟩, ⟨by simp only []; omega, by simp only []; omega⟩, fun h => absurd (hg.symm.trans h) (by decide)⟩
    rw [hg] at HB
    go_enter Try.func45, Try.ntmps45
    go_wp2_with (go_at_call 46; refine (HB.out _).mono ?_; rintro e w9 ⟨rfl, rfl⟩)
    go_ret
    exact ⟨Hj.ret_d X.out, by go_grown⟩
end Go.Proofs.Ytflpocnbmpdhiaa

/- Whether two heads, or two formats, are the same, by '==' and '!='. No condition. -/
namespace Go.Proofs.Ytflpocnbmpdhiaa
open Go.RowKit
set_option linter.unusedVariables false
def Hj.same4 (a b c d x y z u : Int) : Bool := ((a == x) && (b == y)) && (c == z) && (d == u)
theorem Hj.same4_self (a b c d : Int) : Hj.same4 a b c d a b c d = true := by simp [Hj.same4]
def Hj.same2 (a b x y : Int) : Bool := (a == x) && (b == y)
theorem Hj.same2_self (a b : Int) : Hj.same2 a b a b = true := by simp [Hj.same2]
theorem heq_run (a b c d x y z u : Int) (w : World) : (binOp .eql 36 (.agg #[.int .i64 a, .int .i64 b, .int .i64 c, .int .i64 d]) (.agg #[.int .i64 x, .int .i64 y, .int .i64 z, .int .i64 u])).run Try.prog w = .ok (.bool (Hj.same4 a b c d x y z u)) w := by
  rw [run_eql_struct]
  unfold Hj.same4
  cases h1 : (a == x) <;> cases h2 : (b == y) <;> cases h3 : (c == z) <;> cases h4 : (d == u) <;> simp [go_sem, h1, h2, h3, h4]
theorem hneq_run (a b c d x y z u : Int) (w : World) : (binOp .neq 25 (.agg #[.int .i64 a, .int .i64 b, .int .i64 c, .int .i64 d]) (.agg #[.int .i64 x, .int .i64 y, .int .i64 z, .int .i64 u])).run Try.prog w = .ok (.bool (!Hj.same4 a b c d x y z u)) w := by
  rw [run_neq_struct]
  unfold Hj.same4
  cases h1 : (a == x) <;> cases h2 : (b == y) <;> cases h3 : (c == z) <;> cases h4 : (d == u) <;> simp [go_sem, h1, h2, h3, h4]
theorem rheq_run (a b c d x y z u : Int) (w : World) : (binOp .eql 25 (.agg #[.int .i64 a, .int .i64 b, .int .i64 c, .int .i64 d]) (.agg #[.int .i64 x, .int .i64 y, .int .i64 z, .int .i64 u])).run Try.prog w = .ok (.bool (Hj.same4 a b c d x y z u)) w := by
  rw [run_eql_struct]
  unfold Hj.same4
  cases h1 : (a == x) <;> cases h2 : (b == y) <;> cases h3 : (c == z) <;> cases h4 : (d == u) <;> simp [go_sem, h1, h2, h3, h4]
theorem feq_run (a b x y : Int) (w : World) : (binOp .eql 108 (.agg #[.int .i64 a, .int .i64 b]) (.agg #[.int .i64 x, .int .i64 y])).run Try.prog w = .ok (.bool (Hj.same2 a b x y)) w := by
  rw [run_eql_struct]
  unfold Hj.same2
  cases h1 : (a == x) <;> cases h2 : (b == y) <;> simp [go_sem, h1, h2]
theorem heq_guard (a b : Operand) (xs ys : Array Value) (w : World) : (eqGuard .eql 36 a b (.agg xs) (.agg ys)).run Try.prog w = .ok () w := run_eqGuard_agg _ _ _ _ _ _ _ (by kernel_rfl)
theorem hneq_guard (a b : Operand) (xs ys : Array Value) (w : World) : (eqGuard .neq 25 a b (.agg xs) (.agg ys)).run Try.prog w = .ok () w := run_eqGuard_agg _ _ _ _ _ _ _ (by kernel_rfl)
theorem rheq_guard (a b : Operand) (xs ys : Array Value) (w : World) : (eqGuard .eql 25 a b (.agg xs) (.agg ys)).run Try.prog w = .ok () w := run_eqGuard_agg _ _ _ _ _ _ _ (by kernel_rfl)
theorem feq_guard (a b : Operand) (xs ys : Array Value) (w : World) : (eqGuard .eql 108 a b (.agg xs) (.agg ys)).run Try.prog w = .ok () w := run_eqGuard_agg _ _ _ _ _ _ _ (by kernel_rfl)
end Go.Proofs.Ytflpocnbmpdhiaa

/- Which heads may be, told by head, over any memory. Condition: numbers fit their kinds. -/
namespace Go.Proofs.Ytflpocnbmpdhiaa
open Go.RowKit
set_option linter.unusedVariables false

theorem Hd.lim_self {n hi : Int} (h : 1 ≤ hi) : Hd.lim n hi = n ↔ 1 ≤ n ∧ n ≤ hi := by
  unfold Hd.lim; split
  · constructor <;> intro h <;> omega
  · split
    · constructor <;> intro h <;> omega
    · constructor <;> intro h <;> omega
theorem Hj.may_eq {kd w h m : Int} : decide (Hd.May ⟨kd, w, h, m⟩) = (((kd == Hd.lim kd 6) && (w == Hd.lim w 4096)) && (h == Hd.lim h 65536) && (m == Hd.lim m (if Hd.bits kd = true then 1 else 65535))) := by
  have e1 := Hd.lim_self (n := kd) (hi := 6) (by omega)
  have e2 := Hd.lim_self (n := w) (hi := 4096) (by omega)
  have e3 := Hd.lim_self (n := h) (hi := 65536) (by omega)
  have e4 := Hd.lim_self (n := m) (hi := if Hd.bits kd = true then 1 else 65535) (by split <;> omega)
  rw [Bool.eq_iff_iff]
  simp only [decide_eq_true_eq, Bool.and_eq_true, beq_iff_eq]
  rw [eq_comm (a := kd), eq_comm (a := w), eq_comm (a := h), eq_comm (a := m), e1, e2, e3, e4]
  unfold Hd.May
  simp only []
  constructor
  · rintro ⟨h1, h2, h3, h4, h5⟩
    refine ⟨⟨⟨h1, h2⟩, h3⟩, h4.1, ?_⟩
    split
    · rename_i hb; rw [h5 hb]; omega
    · exact h4.2
  · rintro ⟨⟨⟨h1, h2⟩, h3⟩, h4, h5⟩
    refine ⟨h1, h2, h3, ⟨h4, ?_⟩, fun hb => ?_⟩
    · split at h5 <;> omega
    · rw [if_pos hb] at h5; omega
set_option maxHeartbeats 4000000 in
theorem hmay_any (h : Hd.H) (hf : Hj.Fit h) (w : World) :
    Calls Try.prog 86 #[agH h] w fun e w' => e = .returned (.bool (decide (Hd.May h))) ∧ Below w.heap.size w w' := by
  obtain ⟨kd, ww, hh, m⟩ := h
  have HT := Lib.hid (tells_any kd)
  have X := Lib.hid (Hj.may_eq (kd := kd) (w := ww) (h := hh) (m := m))
  obtain ⟨g, hg⟩ : ∃ g, Hd.bits kd = g := ⟨_, rfl⟩
  rw [hg] at HT X
  unfold agH
  clear hg hf
  go_enter Try.func86, Try.ntmps86
  go_wp2_with fail
  refine (hall_any _).mono ?_
  rintro e w1 ⟨rfl, hB⟩
  have hA := (Hb.new w 36 ⟨kd, ww, hh, m⟩).later hB
  have hBw : Below w.heap.size w w1 := ((Below.refl _ w).alloc (Nat.le_refl _) _).trans (hB.mono (by simp))
  have HA := Lib.hid hA
  have HB := Lib.hid hBw
  obtain ⟨a0, a1, a2, a3⟩ := hA.cells
  have hlt := hA.lt
  clear hB hBw hA
  cases g with
  | true =>
    have X2 : Hid (decide (Hd.May ⟨kd, ww, hh, m⟩) = Hj.same4 kd ww hh m (Hd.lim kd 6) (Hd.lim ww 4096) (Hd.lim hh 65536) (Hd.lim m 1)) := X.out
    go_wp2_with (first | (go_at_call 106; refine (HT.out _).mono ?_; rintro e w9 ⟨rfl, rfl⟩) | fail)
    obtain ⟨W, hW⟩ : ∃ W, w1.alloc (Obj.cells #[Value.int IntKind.i64 4096, Value.int IntKind.i64 65536, Value.int IntKind.i64 1] 23) = W := ⟨_, rfl⟩
    have hBW : Below w1.heap.size w1 W := by rw [← hW]; exact (Below.refl _ _).alloc (Nat.le_refl _) _
    have n0 := cell_later hBW a0
    have n1 := cell_later hBW a1
    have n2 := cell_later hBW a2
    have n3 := cell_later hBW a3
    have l0 : W.cell? ⟨w1.heap.size, 0, none⟩ = some (.int .i64 4096) := by rw [← hW]; simp [go_sem]
    have l1 : W.cell? ⟨w1.heap.size, 1, none⟩ = some (.int .i64 65536) := by rw [← hW]; simp [go_sem]
    have l2 : W.cell? ⟨w1.heap.size, 2, none⟩ = some (.int .i64 1) := by rw [← hW]; simp [go_sem]
    have hBz := Lib.hid (HB.out.trans (hBW.mono HB.out.size))
    have hBr : Below W.heap.size W W := .refl _ _
    have hq := heq_run kd ww hh m (Hd.lim kd 6) (Hd.lim ww 4096) (Hd.lim hh 65536) (Hd.lim m 1)
    have hqg := heq_guard
    rw [hW]
    clear hW hBW a0 a1 a2 a3 X hlt
    go_region_held3 (fun w' => w'.cell? ⟨w.heap.size, 0, none⟩ = some (.int .i64 kd) ∧ w'.cell? ⟨w.heap.size, 1, none⟩ = some (.int .i64 ww) ∧ w'.cell? ⟨w.heap.size, 2, none⟩ = some (.int .i64 hh) ∧ w'.cell? ⟨w.heap.size, 3, none⟩ = some (.int .i64 m) ∧ w'.cell? ⟨w1.heap.size, 0, none⟩ = some (.int .i64 4096) ∧ w'.cell? ⟨w1.heap.size, 1, none⟩ = some (.int .i64 65536) ∧ w'.cell? ⟨w1.heap.size, 2, none⟩ = some (.int .i64 1))
      (first | exact ⟨n0, n1, n2, n3, l0, l1, l2⟩ | exact ⟨cell_later hBr n0, cell_later hBr n1, cell_later hBr n2, cell_later hBr n3, cell_later hBr l0, cell_later hBr l1, cell_later hBr l2⟩)
      (first
        | (go_at_call 52; refine (upTo_any _ _).mono ?_; rintro e w9 ⟨v, rfl, ⟨bk, rfl, hcl⟩, hb9⟩; replace hBr := bel_step (w := W) (by first | exact hBr | exact hBr.drew) hb9)
        | (go_at_call 83; refine (upTo1_any _ _ (by omega) _ _ hcl).mono ?_; rintro e w9 ⟨rfl, rfl⟩))
    all_goals
      go_wp2
      go_ret
      exact ⟨Hj.ret_d X2.out, hBz.out.trans (hBr.mono hBz.out.size)⟩
  | false =>
    have X2 : Hid (decide (Hd.May ⟨kd, ww, hh, m⟩) = Hj.same4 kd ww hh m (Hd.lim kd 6) (Hd.lim ww 4096) (Hd.lim hh 65536) (Hd.lim m 65535)) := X.out
    go_wp2_with (first | (go_at_call 106; refine (HT.out _).mono ?_; rintro e w9 ⟨rfl, rfl⟩) | fail)
    obtain ⟨W, hW⟩ : ∃ W, w1.alloc (Obj.cells #[Value.int IntKind.i64 4096, Value.int IntKind.i64 65536, Value.int IntKind.i64 65535] 23) = W := ⟨_, rfl⟩
    have hBW : Below w1.heap.size w1 W := by rw [← hW]; exact (Below.refl _ _).alloc (Nat.le_refl _) _
    have n0 := cell_later hBW a0
    have n1 := cell_later hBW a1
    have n2 := cell_later hBW a2
    have n3 := cell_later hBW a3
    have l0 : W.cell? ⟨w1.heap.size, 0, none⟩ = some (.int .i64 4096) := by rw [← hW]; simp [go_sem]
    have l1 : W.cell? ⟨w1.heap.size, 1, none⟩ = some (.int .i64 65536) := by rw [← hW]; simp [go_sem]
    have l2 : W.cell? ⟨w1.heap.size, 2, none⟩ = some (.int .i64 65535) := by rw [← hW]; simp [go_sem]
    have hBz := Lib.hid (HB.out.trans (hBW.mono HB.out.size))
    have hBr : Below W.heap.size W W := .refl _ _
    have hq := heq_run kd ww hh m (Hd.lim kd 6) (Hd.lim ww 4096) (Hd.lim hh 65536) (Hd.lim m 65535)
    have hqg := heq_guard
    rw [hW]
    clear hW hBW a0 a1 a2 a3 X hlt
    go_region_held3 (fun w' => w'.cell? ⟨w.heap.size, 0, none⟩ = some (.int .i64 kd) ∧ w'.cell? ⟨w.heap.size, 1, none⟩ = some (.int .i64 ww) ∧ w'.cell? ⟨w.heap.size, 2, none⟩ = some (.int .i64 hh) ∧ w'.cell? ⟨w.heap.size, 3, none⟩ = some (.int .i64 m) ∧ w'.cell? ⟨w1.heap.size, 0, none⟩ = some (.int .i64 4096) ∧ w'.cell? ⟨w1.heap.size, 1, none⟩ = some (.int .i64 65536) ∧ w'.cell? ⟨w1.heap.size, 2, none⟩ = some (.int .i64 65535))
      (first | exact ⟨n0, n1, n2, n3, l0, l1, l2⟩ | exact ⟨cell_later hBr n0, cell_later hBr n1, cell_later hBr n2, cell_later hBr n3, cell_later hBr l0, cell_later hBr l1, cell_later hBr l2⟩)
      (first
        | (go_at_call 52; refine (upTo_any _ _).mono ?_; rintro e w9 ⟨v, rfl, ⟨bk, rfl, hcl⟩, hb9⟩; replace hBr := bel_step (w := W) (by first | exact hBr | exact hBr.drew) hb9)
        | (go_at_call 83; refine (upTo1_any _ _ (by omega) _ _ hcl).mono ?_; rintro e w9 ⟨rfl, rfl⟩))
    all_goals
      go_wp2
      go_ret
      exact ⟨Hj.ret_d X2.out, hBz.out.trans (hBr.mono hBz.out.size)⟩
end Go.Proofs.Ytflpocnbmpdhiaa

/- 'append(v, y...)' where v is the call's own and y any slice of integers that is known, nil and empty ones too: as a law for the walk. No condition beyond what is named. -/
namespace Go.Proofs.Ytflpocnbmpdhiaa
open Go.RowKit
set_option linter.unusedVariables false

theorem app_none {P : Program} {w : World} (base : Nat) (t ty e : TypeId) (i : TypeInfo) (size : Nat) (ht : P.underlying t = some (.slice e)) (hi : P.info? e = some i)
    (v : Value) (n c : Nat) (xs : List Value) (hown : w.ownsRow base e size v n xs) :
    (Builtin.append_ #[t, t] ty #[v, .slice none 0 c]).run P w = .ok v w := by
  rcases hown.2 with ⟨rfl, rfl⟩ | ⟨g, cap, cur, rfl, _, _, hnc, _⟩
  · simp [Builtin.append_, run_underlying ht, sizeOf, typeInfo, hi, Builtin.lenOf, Builtin.firstCells]
  · simp [Builtin.append_, run_underlying ht, sizeOf, typeInfo, hi, Builtin.lenOf, Builtin.firstCells, hnc, storeCells]
theorem ints_one (q : IntKind) (l : List Int) : ∀ u ∈ l.map (Value.int q), u.oneCell' = true := by
  intro u hu; obtain ⟨x, _, rfl⟩ := List.mem_map.1 hu; rfl
theorem run_app {P : Program} {w : World} (base : Nat) (t ty e : TypeId) (i : TypeInfo) (q : IntKind) (bytes : Nat) (ht : P.underlying t = some (.slice e)) (hi : P.info? e = some i) (hz : i.zero = some (.int q 0))
    (hsize : i.size = 1) (hby : i.bytes = bytes) (v : Value) (n : Nat) (xs : List Value) (hown : w.ownsRow base e 1 v n xs)
    (a : Option Addr) (m c : Nat) (l : List Int) (hy : SlK q w a m l) (h63 : n + m ≤ maxLen) (hbytes : (n + m) * bytes ≤ 140737488355328) (hbase : base ≤ w.heap.size) :
    ∃ v' w', (Builtin.append_ #[t, t] ty #[v, .slice a m c]).run P w = .ok v' w' ∧ w'.ownsRow base e 1 v' (n + m) (xs ++ l.map (Value.int q)) ∧ w.grownBy w' v.ownBlock ∧ (v'.ownBlock = v.ownBlock ∨ v'.ownBlock = some w.heap.size) := by
  obtain ⟨hl, hc⟩ := hy
  cases a with
  | none =>
    have hm : m = 0 := by
      rcases hc with h | ⟨_, _, h, _⟩
      · exact h
      · cases h
    subst hm
    have hl0 : l = [] := List.length_eq_zero_iff.1 hl
    subst hl0
    exact ⟨v, w, app_none base t ty e i 1 ht hi v n c xs hown, by simpa using hown, ⟨rfl, rfl, rfl, Nat.le_refl _, fun _ _ _ => rfl⟩, .inl rfl⟩
  | some ad =>
    obtain ⟨v', w', h1, h2, h3, _, h5⟩ := run_append_own_at (P := P) w base t ty e i (.int q 0) 1 bytes ht hi hz hsize hby rfl (by decide) v n xs hown ad m c (l.map (Value.int q)) (by rw [List.length_map, hl, Nat.mul_one]) (fun j u hu => by
      have hj : j < m := by
        rcases Nat.lt_or_ge j m with h | h
        · exact h
        · rw [List.getElem?_eq_none (by rw [List.length_map]; omega)] at hu; cases hu
      rcases hc with h | ⟨blk, off, ha, hcell⟩
      · omega
      · cases ha
        rw [addrK_add, hcell j hj]
        rw [List.getElem?_map, List.getElem?_eq_getElem (by omega)] at hu
        rw [List.getD_eq_getElem?_getD, List.getElem?_eq_getElem (by omega)]
        exact hu) (ints_one q l) h63 hbytes hbase
    exact ⟨v', w', h1, h2, h3, h5⟩
theorem wpList_app {P : Program} {w : World} {ops : Array Oper} {rest : List Oper} {o : Oper} {a : Act} {Q : Exit → Act → World → Prop} (hgd : o.guard = none) (s x : Operand) (t : TypeId)
    (ho : o.op = .call { callee := .builtin .append, args := #[s, x], argTypes := #[t, t] })
    (base : Nat) (e : TypeId) (i : TypeInfo) (q : IntKind) (bytes : Nat) (ht : P.underlying t = some (.slice e)) (hi : P.info? e = some i) (hz : i.zero = some (.int q 0))
    (hsize : i.size = 1) (hby : i.bytes = bytes) (v : Value) (n : Nat) (xs : List Value) (hs : a.eval s = v) (hown : w.ownsRow base e 1 v n xs)
    (ad : Option Addr) (m c : Nat) (l : List Int) (hx : a.eval x = .slice ad m c) (hy : SlK q w ad m l) (h63 : n + m ≤ maxLen) (hbytes : (n + m) * bytes ≤ 140737488355328) (hbase : base ≤ w.heap.size)
    (h : ∀ v' w', w'.ownsRow base e 1 v' (n + m) (xs ++ l.map (Value.int q)) → w.grownBy w' v.ownBlock → (v'.ownBlock = v.ownBlock ∨ v'.ownBlock = some w.heap.size) → wpList P ops Q rest (a.put o.dst v') w') : wpList P ops Q (o :: rest) a w := by
  refine wpList_plain hgd fun K hK => ?_
  obtain ⟨v', w', hr, h2, h3, h4⟩ := run_app (P := P) (w := w) base t o.type e i q bytes ht hi hz hsize hby v n xs hown ad m c l hy h63 hbytes hbase
  unfold Oper.wp execOp
  simp only [ho, resolve, invoke, builtin, Sem.run_bind, Sem.run_pure, Result.andThen_ok, List.map_toArray, List.map_cons, List.map_nil, hs, hx, hr]
  exact hK _ _ (h v' w' h2 h3 h4)
end Go.Proofs.Ytflpocnbmpdhiaa
