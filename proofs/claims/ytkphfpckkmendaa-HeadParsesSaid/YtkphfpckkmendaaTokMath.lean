/- Plain facts on words of a header: a reader of a number as a plain function, all numbers of a text, what is left out. No condition. -/
import Derived.Test.YtkphfpckkmendaaByt
namespace Go.Proofs.Ytkphfpckkmendaa
open Go.RowKit
set_option linter.unusedVariables false
namespace Tk
def blank (c : Int) : Bool := decide (c = 32 ∨ (9 ≤ c ∧ c ≤ 13))
def line (c : Int) : Bool := decide (c = 10 ∨ c = 13)
/-- a reader: how far it is (0 ahead, 1 a remark ahead, 2 digits, 3 a remark behind, 4 over, 5 wrong), the number, the error, whether it took a digit -/
structure S where
  k : Nat
  n : Int
  e : Int
  bg : Bool
def new : S := ⟨0, 0, 9, false⟩
def put (m : Int) (s : S) (c : Int) : S :=
  if s.k = 4 ∨ s.k = 5 then s
  else if s.k = 1 then (if line c = true then ⟨0, s.n, s.e, s.bg⟩ else s)
  else if s.k = 3 then (if line c = true then ⟨4, s.n, 0, s.bg⟩ else s)
  else if c = 35 then ⟨s.k + 1, s.n, s.e, s.bg⟩
  else if blank c = true then (if s.k = 0 then s else ⟨4, s.n, 0, s.bg⟩)
  else if (Nu.stepV s.n c m).2 = 0 then ⟨2, (Nu.stepV s.n c m).1, s.e, true⟩
  else ⟨5, 0, (Nu.stepV s.n c m).2, s.bg⟩
def st (s : S) : Int := if s.k = 4 then 1 else if s.k = 5 then 2 else 0
def val (s : S) : Int × Int := if s.e = 0 then (s.n, 0) else (0, s.e)
def Good (m : Int) (s : S) : Prop :=
  s.k ≤ 5 ∧ 0 ≤ s.n ∧ s.n ≤ m ∧ (s.k ≤ 3 → s.e = 9) ∧ (s.k = 4 → s.e = 0) ∧ (s.k = 5 → (s.e = 3 ∨ s.e = 4)) ∧ (s.k ≤ 1 → s.n = 0 ∧ s.bg = false) ∧ (2 ≤ s.k → s.k ≤ 4 → s.bg = true)
theorem stepV_e (n c m : Int) : (Nu.stepV n c m).2 = 0 ∨ (Nu.stepV n c m).2 = 3 ∨ (Nu.stepV n c m).2 = 4 := by
  unfold Nu.stepV; split
  · exact .inr (.inl rfl)
  · split
    · exact .inr (.inr rfl)
    · exact .inl rfl
theorem good_new {m : Int} (h : 0 ≤ m) : Good m new := by unfold Good new; simp; exact h
theorem good_put {m : Int} {s : S} (h : Good m s) (c : Int) : Good m (put m s c) := by
  have H := h
  obtain ⟨h1, h2, h3, h4, h5, h6, h7, h8⟩ := h
  obtain ⟨k, n, e, bg⟩ := s
  simp only at h1 h2 h3 h4 h5 h6 h7 h8
  unfold put; simp only
  split
  · exact H
  rename_i hk
  split
  · rename_i hk1; subst hk1
    split
    · exact ⟨by simp, h2, h3, fun _ => h4 (by omega), fun h => absurd h (by simp), fun h => absurd h (by simp), fun _ => h7 (by omega), fun h => absurd h (by simp)⟩
    · exact H
  split
  · rename_i hk1 hk3; subst hk3
    split
    · exact ⟨by simp, h2, h3, fun h => absurd h (by simp), fun _ => rfl, fun h => absurd h (by simp), fun h => absurd h (by simp), fun _ _ => h8 (by omega) (by omega)⟩
    · exact H
  rename_i hk1 hk3
  split
  · refine ⟨by simp; omega, h2, h3, fun _ => h4 (by omega), fun h => absurd h (by simp; omega), fun h => absurd h (by simp; omega), fun hh => h7 (by simp at hh; omega), fun hh _ => h8 (by simp at hh; omega) (by omega)⟩
  split
  · split
    · exact H
    · exact ⟨by simp, h2, h3, fun h => absurd h (by simp), fun _ => rfl, fun h => absurd h (by simp), fun h => absurd h (by simp), fun _ _ => h8 (by omega) (by omega)⟩
  split
  · rename_i he
    obtain ⟨g1, g2⟩ := Nu.stepV_le n c m h2 h3 he
    exact ⟨by simp, g1, g2, fun _ => h4 (by omega), fun h => absurd h (by simp), fun h => absurd h (by simp), fun h => absurd h (by simp), fun _ _ => rfl⟩
  · rename_i he
    exact ⟨by simp, by simp, by simp; omega, fun h => absurd h (by simp), fun h => absurd h (by simp), fun _ => (stepV_e n c m).resolve_left he, fun h => absurd h (by simp), fun _ h => absurd h (by simp)⟩
/-- all numbers of a text -/
def allF (m : Int) : S → Nat → Int → List Int → List Int → List Int × Int × Int
  | s, i, u, acc, [] => (acc, u, if s.bg = true then 6 else 0)
  | s, i, u, acc, c :: cs =>
    if (put m s c).k = 5 then (acc, u, (put m s c).e)
    else if (put m s c).k = 4 then allF m new (i + 1) ((i : Int) + 1) (acc ++ [(put m s c).n]) cs
    else allF m (put m s c) (i + 1) u acc cs
def allV (l : List Int) (m : Int) : List Int × Int × Int := allF m new 0 0 [] l
/-- how many bytes are left out -/
def skipF : Bool → Nat → List Int → Int
  | _, i, [] => i
  | true, i, c :: cs => skipF (!line c) (i + 1) cs
  | false, i, c :: cs => if c = 35 then skipF true (i + 1) cs else if blank c = true then skipF false (i + 1) cs else i
def skipV (l : List Int) : Int := skipF false 0 l
end Tk
end Go.Proofs.Ytkphfpckkmendaa
