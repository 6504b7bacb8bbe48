/- Unpack at numbers that are pixels of three samples, of one, and at those that are none. Condition: numbers fit their kinds. -/
import Derived.Test.YteonfgphihacgaaQPixB
namespace Go.Proofs.Yteonfgphihacgaa
open Go.RowKit
set_option linter.unusedVariables false
namespace Pq
/-- three, one, no integers in memory of the call's own -/
def Own3 (base : Nat) (w' : World) (g : Nat) (a b c : Int) : Prop :=
  base ≤ g ∧ g < w'.heap.size ∧ w'.cell? ⟨g, 0, none⟩ = some (.int .i64 a) ∧ w'.cell? ⟨g, 1, none⟩ = some (.int .i64 b) ∧ w'.cell? ⟨g, 2, none⟩ = some (.int .i64 c) ∧
    w'.frozen? ⟨g, 0, none⟩ = false ∧ w'.frozen? ⟨g, 1, none⟩ = false ∧ w'.frozen? ⟨g, 2, none⟩ = false
def Own1 (base : Nat) (w' : World) (g : Nat) (a : Int) : Prop :=
  base ≤ g ∧ g < w'.heap.size ∧ w'.cell? ⟨g, 0, none⟩ = some (.int .i64 a) ∧ w'.frozen? ⟨g, 0, none⟩ = false
theorem own3 {base : Nat} {w : World} {ad : Option Addr} {a b c : Int} (h : Own base w ad [a, b, c]) : ∃ g, ad = some ⟨g, 0, none⟩ ∧ Own3 base w g a b c := by
  rcases h with h | ⟨g, h1, h2, h3, h4, h5⟩
  · cases h
  · exact ⟨g, h1, h2, h3, h4 0 (by simp), h4 1 (by simp), h4 2 (by simp), h5 0 (by simp), h5 1 (by simp), h5 2 (by simp)⟩
theorem own1 {base : Nat} {w : World} {ad : Option Addr} {a : Int} (h : Own base w ad [a]) : ∃ g, ad = some ⟨g, 0, none⟩ ∧ Own1 base w g a := by
  rcases h with h | ⟨g, h1, h2, h3, h4, h5⟩
  · cases h
  · exact ⟨g, h1, h2, h3, h4 0 (by simp), h5 0 (by simp)⟩
theorem isU3 {p a b c : Int} (h : Px.Is3 p a b c) : Px.U p := by unfold Px.Is3 at h; unfold Px.U; omega
theorem isU1 {p a : Int} (h : Px.Is1 p a) : Px.U p := by unfold Px.Is1 at h; unfold Px.U; omega
theorem refUnpack3 (p a b c : Int) (h : Px.Is3 p a b c) (w : World) :
    Calls Try.prog 94 #[.int .u64 p] w fun e w' => ∃ g cap, e = .returned (.slice (some ⟨g, 0, none⟩) 3 cap) ∧ Own3 w.heap.size w' g a b c ∧ Below w.heap.size w w' := by
  refine (refUnpack_any p (isU3 h) w).mono fun e w' ⟨ad, cap, he, ho, hb⟩ => ?_
  rw [Px.smp3 h] at he ho
  obtain ⟨g, rfl, ho3⟩ := own3 ho
  exact ⟨g, cap, he, ho3, hb⟩
theorem refUnpack1 (p a : Int) (h : Px.Is1 p a) (w : World) :
    Calls Try.prog 94 #[.int .u64 p] w fun e w' => ∃ g cap, e = .returned (.slice (some ⟨g, 0, none⟩) 1 cap) ∧ Own1 w.heap.size w' g a ∧ Below w.heap.size w w' := by
  refine (refUnpack_any p (isU1 h) w).mono fun e w' ⟨ad, cap, he, ho, hb⟩ => ?_
  rw [Px.smp1 h] at he ho
  obtain ⟨g, rfl, ho1⟩ := own1 ho
  exact ⟨g, cap, he, ho1, hb⟩
theorem refUnpack0 (p : Int) (hU : Px.U p) (h : Px.Is0 p) (w : World) :
    Calls Try.prog 94 #[.int .u64 p] w fun e w' => ∃ ad cap, e = .returned (.slice ad 0 cap) ∧ Below w.heap.size w w' := by
  refine (refUnpack_any p hU w).mono fun e w' ⟨ad, cap, he, ho, hb⟩ => ?_
  rw [Px.smp0 h] at he
  exact ⟨ad, cap, he, hb⟩
end Pq
end Go.Proofs.Yteonfgphihacgaa
