/- Noughts, one wide, laid all eight ways: which is of which turn. No run of a program. No condition. -/
import Derived.Test.YtlihkdbbcnmbmaaTurT
namespace Go.Proofs.Ytlihkdbbcnmbmaa
set_option linter.unusedVariables false
namespace Tu
theorem zeros_get (h k : Nat) : (List.replicate h (0 : Int)).getD k 0 = 0 := by
  rw [List.getD_eq_getElem?_getD, List.getElem?_replicate]; split <;> rfl
theorem lay_zeros (g h : Nat) (hg : g < 8) : layL g 1 h (List.replicate h 0) = List.replicate h 0 := by
  rw [List.eq_replicate_iff]
  refine ⟨by rw [layL_len, Nat.one_mul], fun b hb => ?_⟩
  obtain ⟨i, _, rfl⟩ := List.mem_map.1 hb
  exact zeros_get h _
theorem tall_even (g h : Nat) (hg : g < 8) (h0 : g % 2 = 0) (h1 : 1 ≤ h) (h2 : h ≤ 65536) : keyOf 1 h (List.replicate h 0) g = some (1, h, List.replicate h 0) := by
  unfold keyOf
  have e1 : sw g 1 h = 1 := by unfold sw; rw [if_neg (by omega)]
  have e2 : sw g h 1 = h := by unfold sw; rw [if_neg (by omega)]
  rw [lay_zeros g h hg, e1, e2, if_pos]
  rw [Rc.sized_iff]; omega
theorem tall_odd (g h : Nat) (hg : g < 8) (h0 : g % 2 = 1) (h1 : 1 ≤ h) : keyOf 1 h (List.replicate h 0) g = if h ≤ 4096 then some (h, 1, List.replicate h 0) else none := by
  unfold keyOf
  have e1 : sw g 1 h = h := by unfold sw; rw [if_pos h0]
  have e2 : sw g h 1 = 1 := by unfold sw; rw [if_pos h0]
  rw [lay_zeros g h hg, e1, e2]
  by_cases h4 : h ≤ 4096
  · rw [if_pos h4, if_pos]
    rw [Rc.sized_iff]; omega
  · rw [if_neg h4, if_neg]
    rw [Rc.sized_iff]; omega
/-- eight steps, of two keys -/
theorem orb8 {W H : Nat} {L : List Int} {A : Nat × Nat × List Int} {O : Option (Nat × Nat × List Int)} (he : ∀ g, g < 8 → g % 2 = 0 → keyOf W H L g = some A) (ho : ∀ g, g < 8 → g % 2 = 1 → keyOf W H L g = O) (hO : O = none ∨ ∃ B, O = some B ∧ isKey A B = false ∧ isKey B A = false) :
    (orbO W H L [0, 1, 2, 3, 4, 5, 6, 7]).2 = if O = none then [0, -1, 0, -1, 0, -1, 0, -1] else [0, 1, 0, 1, 0, 1, 0, 1] := by
  have s : ∀ (g : Nat) ks, g < 8 → stepO W H L ks (g : Int) = addK ks (keyOf W H L g) := fun g ks hg => by
    unfold stepO; rw [if_pos (isT_iff.2 (by omega))]; rfl
  have q0 : ∀ ks, stepO W H L ks 0 = addK ks (some A) := fun ks => by have := s 0 ks (by omega); rw [he 0 (by omega) rfl] at this; exact this
  have q1 : ∀ ks, stepO W H L ks 1 = addK ks O := fun ks => by have := s 1 ks (by omega); rw [ho 1 (by omega) rfl] at this; exact this
  have q2 : ∀ ks, stepO W H L ks 2 = addK ks (some A) := fun ks => by have := s 2 ks (by omega); rw [he 2 (by omega) rfl] at this; exact this
  have q3 : ∀ ks, stepO W H L ks 3 = addK ks O := fun ks => by have := s 3 ks (by omega); rw [ho 3 (by omega) rfl] at this; exact this
  have q4 : ∀ ks, stepO W H L ks 4 = addK ks (some A) := fun ks => by have := s 4 ks (by omega); rw [he 4 (by omega) rfl] at this; exact this
  have q5 : ∀ ks, stepO W H L ks 5 = addK ks O := fun ks => by have := s 5 ks (by omega); rw [ho 5 (by omega) rfl] at this; exact this
  have q6 : ∀ ks, stepO W H L ks 6 = addK ks (some A) := fun ks => by have := s 6 ks (by omega); rw [he 6 (by omega) rfl] at this; exact this
  have q7 : ∀ ks, stepO W H L ks 7 = addK ks O := fun ks => by have := s 7 ks (by omega); rw [ho 7 (by omega) rfl] at this; exact this
  have a0 : addK [] (some A) = ([A], 0) := by simp [addK, placeK, firstI]
  have a1 : addK [A] (some A) = ([A], 0) := by
    have : placeK [A] A = 0 := by
      refine firstI_hit (j := 0) (by simp) (fun i hi => absurd hi (Nat.not_lt_zero _)) ?_
      simp [key_self]
    simp [addK, this]
  unfold orbO
  simp only [List.foldl_cons, List.foldl_nil, q0, q1, q2, q3, q4, q5, q6, q7]
  rcases hO with rfl | ⟨B, rfl, hab, hba⟩
  · have an : addK [A] none = ([A], -1) := rfl
    simp only [a0, a1, an]
    rfl
  · have b0 : addK [A] (some B) = ([A, B], 1) := by
      have : placeK [A] B < 0 := by
        rw [show placeK [A] B = -1 from firstI_miss fun i hi => by
          obtain rfl : i = 0 := by simpa using hi
          simpa using hba]
        decide
      simp [addK, this]
    have b1 : addK [A, B] (some A) = ([A, B], 0) := by
      have : placeK [A, B] A = 0 := by
        refine firstI_hit (j := 0) (by simp) (fun i hi => absurd hi (Nat.not_lt_zero _)) ?_
        simp [key_self]
      simp [addK, this]
    have b2 : addK [A, B] (some B) = ([A, B], 1) := by
      have : placeK [A, B] B = 1 := by
        refine firstI_hit (j := 1) (by simp) (fun i hi => ?_) ?_
        · obtain rfl : i = 0 := by omega
          simpa using hba
        · simp [key_self]
      simp [addK, this]
    simp only [a0, b0, b1, b2]
    rfl
end Tu
end Go.Proofs.Ytlihkdbbcnmbmaa
