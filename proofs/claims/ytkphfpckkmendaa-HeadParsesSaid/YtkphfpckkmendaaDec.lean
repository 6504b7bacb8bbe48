/- A number's decimals are read as it was: plain facts. No condition. -/
import Derived.Test.YtkphfpckkmendaaByt
import Derived.Test.YtkphfpckkmendaaNumM
namespace Go.Proofs.Ytkphfpckkmendaa
open Go.RowKit
set_option linter.unusedVariables false

theorem bytesOf_strOfNums {xs : List Int} (h : ∀ x ∈ xs, 0 ≤ x ∧ x ≤ 255) : bytesOf (strOfNums xs) = xs := by
  unfold bytesOf strOfNums
  simp only [List.map_map]
  conv => rhs; rw [← List.map_id xs]
  refine List.map_congr_left fun x hx => ?_
  obtain ⟨h0, h1⟩ := h x hx
  simp; omega
theorem bytesOf_append (a b : ByteArray) : bytesOf (a ++ b) = bytesOf a ++ bytesOf b := by simp [bytesOf]
theorem Nu.parseF_append (most : Int) : ∀ (xs ys : List Int) (n : Int), Nu.parseF most n (xs ++ ys) = if (Nu.parseF most n xs).2 = 0 then Nu.parseF most (Nu.parseF most n xs).1 ys else (0, (Nu.parseF most n xs).2)
  | [], ys, n => by simp [Nu.parseF]
  | c :: cs, ys, n => by
    rw [List.cons_append, Nu.parseF, Nu.parseF]
    by_cases h : (Nu.stepV n c most).2 = 0
    · rw [if_pos h, if_pos h]; exact Nu.parseF_append most cs ys _
    · rw [if_neg h, if_neg h, if_neg h]
theorem Nu.parse_dig (most : Int) (m0 : 0 ≤ most) (k : Int) (h0 : 0 ≤ k) : Nu.parseF most 0 (((Nu.dig 10 k).map (48 + ·)).reverse) = if k ≤ most then (k, 0) else (0, 4) := by
  induction k using Nu.dig.induct (b := 10) with
  | case1 k h ih =>
    have hq := ih (by omega)
    rw [Nu.dig_more h.1 h.2, List.map_cons, List.reverse_cons, Nu.parseF_append, hq]
    by_cases hk : k / 10 ≤ most
    · rw [if_pos hk, if_pos rfl, Nu.parseF]
      have hs : Nu.stepV (k / 10) (48 + k % 10) most = if k ≤ most then (k, 0) else (0, 4) := by
        unfold Nu.stepV
        rw [if_neg (by omega)]
        by_cases hm : k ≤ most
        · rw [if_neg (by omega), if_pos hm]; refine Prod.ext ?_ rfl; simp only []; omega
        · rw [if_pos (by omega), if_neg hm]
      rw [hs]
      by_cases hm : k ≤ most
      · rw [if_pos hm, if_pos rfl]; rfl
      · rw [if_neg hm, if_neg (by simp)]
    · rw [if_neg hk, if_neg (by simp), if_neg (by omega)]
  | case2 k h =>
    rw [Nu.dig_last (by omega)]
    have hk : k % 10 = k := by omega
    rw [hk]
    show Nu.parseF most 0 [48 + k] = _
    rw [Nu.parseF]
    have hs : Nu.stepV 0 (48 + k) most = if k ≤ most then (k, 0) else (0, 4) := by
      unfold Nu.stepV
      rw [if_neg (by omega)]
      by_cases hm : k ≤ most
      · rw [if_neg (by omega), if_pos hm]; refine Prod.ext ?_ rfl; simp only []; omega
      · rw [if_pos (by omega), if_neg hm]
    rw [hs]
    by_cases hm : k ≤ most
    · rw [if_pos hm, if_pos rfl]; rfl
    · rw [if_neg hm, if_neg (by simp)]
theorem Nu.parse_nought (most : Int) (m0 : 0 ≤ most) (l : List Int) : Nu.parseF most 0 (48 :: l) = Nu.parseF most 0 l := by
  have hs : Nu.stepV 0 48 most = (0, 0) := by unfold Nu.stepV; rw [if_neg (by omega), if_neg (by omega)]; rfl
  rw [Nu.parseF, hs, if_pos rfl]
theorem Nu.decV_up {k : Int} (h : 0 ≤ k) : Nu.decV k = ((Nu.dig 10 k).map (48 + ·)).reverse := by
  unfold Nu.decV Nu.backV
  rw [if_neg (by omega), List.append_nil, show (k.natAbs : Int) = k by omega]
theorem Nu.decV_bytes (k : Int) : ∀ x ∈ Nu.decV k, 0 ≤ x ∧ x ≤ 255 := by
  intro x hx
  unfold Nu.decV Nu.backV at hx
  rw [List.mem_reverse, List.mem_append] at hx
  rcases hx with hx | hx
  · obtain ⟨d, hd, rfl⟩ := List.mem_map.1 hx
    have := Nu.dig_lt (b := 10) (by omega) _ d hd
    omega
  · split at hx
    · obtain rfl : x = 45 := by simpa using hx
      omega
    · cases hx
theorem Nu.decV_ne {k : Int} (h : 0 ≤ k) : Nu.decV k ≠ [] := by
  rw [Nu.decV_up h]; simp [Nu.dig_ne]
theorem Nu.parse_dec (k : Int) (h : 0 ≤ k) : Nu.parseV (bytesOf (strOfNums (Nu.decV k))) k = (k, 0) := by
  rw [bytesOf_strOfNums (Nu.decV_bytes k)]
  unfold Nu.parseV
  rw [if_neg (Nu.decV_ne h), Nu.decV_up h, Nu.parse_dig k h k h, if_pos (Int.le_refl _)]
theorem Nu.parse_dec00 (k m : Int) (h : 0 ≤ k) (m0 : 0 ≤ m) : Nu.parseV (bytesOf ((⟨#[48, 48]⟩ : ByteArray) ++ strOfNums (Nu.decV k))) m = if k ≤ m then (k, 0) else (0, 4) := by
  rw [bytesOf_append, bytesOf_strOfNums (Nu.decV_bytes k)]
  show Nu.parseV (48 :: 48 :: Nu.decV k) m = _
  unfold Nu.parseV
  rw [if_neg (by simp), Nu.parse_nought m m0, Nu.parse_nought m m0, Nu.decV_up h, Nu.parse_dig m m0 k h]
end Go.Proofs.Ytkphfpckkmendaa
