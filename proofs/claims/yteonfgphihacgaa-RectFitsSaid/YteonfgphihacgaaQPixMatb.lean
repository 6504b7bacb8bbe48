/- More plain facts on pixels as numbers: formats, gray, dark for light, another greatest sample. No condition. -/
import Derived.Test.YteonfgphihacgaaQPixMath
namespace Go.Proofs.Yteonfgphihacgaa
open Go.RowKit
namespace Pq
namespace Px
theorem fitsV_iff {p c m : Int} : fitsV p c m = (formatV c m && (((smp p).length : Int) == c && (smp p).all fun s => decide (s ≤ m))) := by
  cases hf : formatV c m
  · exact fitsV_bad hf
  · have hc := formatC hf
    unfold fitsV
    rw [hf, show ((smp p).length == c.toNat) = (((smp p).length : Int) == c) by rw [Bool.eq_iff_iff, beq_iff_eq, beq_iff_eq]; omega]
theorem fitsV3_all {p a b d c m : Int} (h : Is3 p a b d) (ha : a ≤ m) (hb : b ≤ m) (hd : d ≤ m) : fitsV p c m = (formatV c m && ((3 : Int) == c)) := by
  rw [fitsV_iff, smp3 h]; simp [ha, hb, hd]
theorem fitsV3_bad {p a b d c m : Int} (h : Is3 p a b d) (hx : m < a ∨ m < b ∨ m < d) : fitsV p c m = false := by
  rw [fitsV_iff, smp3 h]; simp; intros; omega
theorem fitsV1_all {p a c m : Int} (h : Is1 p a) (ha : a ≤ m) : fitsV p c m = (formatV c m && ((1 : Int) == c)) := by
  rw [fitsV_iff, smp1 h]; simp [ha]
theorem fitsV1_bad {p a c m : Int} (h : Is1 p a) (hx : m < a) : fitsV p c m = false := by
  rw [fitsV_iff, smp1 h]; simp; intros; omega
theorem fitsV0 {p c m : Int} (h : Is0 p) : fitsV p c m = false := by
  cases hf : formatV c m
  · exact fitsV_bad hf
  · have := formatC hf
    exact fitsV_len (by rw [smp0 h]; simp; omega)
theorem fits3_get {p a b d c m : Int} (h : Is3 p a b d) (hf : fitsV p c m = true) : c = 3 ∧ a ≤ m ∧ b ≤ m ∧ d ≤ m ∧ 1 ≤ m ∧ m ≤ 65535 := by
  rw [fitsV_iff, smp3 h] at hf
  simp at hf
  have := formatM hf.1
  omega
theorem fits1_get {p a c m : Int} (h : Is1 p a) (hf : fitsV p c m = true) : c = 1 ∧ a ≤ m ∧ 1 ≤ m ∧ m ≤ 65535 := by
  rw [fitsV_iff, smp1 h] at hf
  simp at hf
  have := formatM hf.1
  omega
theorem turned3 {p a b d c m : Int} (h : Is3 p a b d) (hf : fitsV p c m = true) : turnedV p c m = (844424930131968 + (m - a) * 4294967296 + (m - b) * 65536 + (m - d), 0) := by
  obtain ⟨h1, h2, h3, h4, h5, h6⟩ := fits3_get h hf
  unfold turnedV; rw [if_pos hf, smp3 h]
  obtain ⟨_, h⟩ := h
  show packV [m - a, m - b, m - d] = _
  exact packV3 (by omega) (by omega) (by omega) (by omega) (by omega) (by omega)
theorem turned1 {p a c m : Int} (h : Is1 p a) (hf : fitsV p c m = true) : turnedV p c m = (281474976710656 + (m - a), 0) := by
  obtain ⟨h1, h2, h5, h6⟩ := fits1_get h hf
  unfold turnedV; rw [if_pos hf, smp1 h]
  obtain ⟨_, h⟩ := h
  show packV [m - a] = _
  exact packV1 (by omega) (by omega)
theorem turned_no {p c m : Int} (hf : fitsV p c m = false) : turnedV p c m = (0, 1) := by unfold turnedV; rw [hf]; rfl
theorem fits0_no {p c m : Int} (h : Is0 p) (hf : fitsV p c m = true) : False := by rw [fitsV0 h] at hf; cases hf
end Px
end Pq
end Go.Proofs.Yteonfgphihacgaa
