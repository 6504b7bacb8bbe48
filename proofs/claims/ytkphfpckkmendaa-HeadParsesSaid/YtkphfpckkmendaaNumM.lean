/- A number's decimals by the document, over any memory. Condition: the number fits its kind. -/
import Derived.Test.YtkphfpckkmendaaProg
import Derived.Test.YtkphfpckkmendaaNumMath
import Derived.Laws.BytesArg
import Derived.WalkSpells
import Derived.WalkLawsBesides
import Derived.Handy
import Derived.Lib.Hide
namespace Go.Proofs.Ytkphfpckkmendaa
open Go.RowKit
set_option linter.unusedVariables false

theorem strOfNums_append (xs ys : List Int) : strOfNums (xs ++ ys) = strOfNums xs ++ strOfNums ys := by
  apply ByteArray.ext
  simp [strOfNums]
/-- the decimals of a number, from the last one on, and its sign -/
def Nu.backV (n : Int) : List Int := (Nu.dig 10 n.natAbs).map (48 + ·) ++ (if n < 0 then [45] else [])
def Nu.decV (n : Int) : List Int := (Nu.backV n).reverse
theorem Nu.decV_pos {n : Int} (h0 : 0 ≤ n) (h : n < 10) : Nu.decV n = [48 + n] := by
  unfold Nu.decV Nu.backV
  rw [Nu.dig_last (by omega), if_neg (by omega), show (n.natAbs : Int) % 10 = n by omega]; rfl
theorem Nu.decV_neg {n : Int} (h0 : n < 0) (h : -10 < n) : Nu.decV n = [45] ++ [48 + -n] := by
  unfold Nu.decV Nu.backV
  rw [Nu.dig_last (by omega), if_pos h0, show (n.natAbs : Int) % 10 = -n by omega]; rfl
theorem Nu.decV_more {n q r : Int} (h : 10 ≤ n.natAbs) (hq : (q.natAbs : Int) = n.natAbs / 10) (hs : q < 0 ↔ n < 0) (hr : (n.natAbs : Int) % 10 = r) : Nu.decV n = Nu.decV q ++ [48 + r] := by
  unfold Nu.decV Nu.backV
  rw [Nu.dig_more (by omega) (show (10 : Int) ≤ n.natAbs by omega), ← hq, hr]
  by_cases h0 : n < 0
  · rw [if_pos h0, if_pos (hs.2 h0)]; simp
  · rw [if_neg h0, if_neg (fun e => h0 (hs.1 e))]; simp
theorem Nu.conv_one (W : World) (x : Int) : (convert 33 9 (.slice (some ⟨W.heap.size, 0, none⟩) 1 1)).run Try.prog (W.alloc (.cells #[.int .u8 x] 5)) = .ok (.string (strOfNums [x])) (W.alloc (.cells #[.int .u8 x] 5)) :=
  run_convert_bytes_arg (P := Try.prog) _ 33 5 Try.underlying33 Try.underlying5 W.heap.size 0 1 1 [x] rfl (by
    intro i hi
    obtain rfl : i = 0 := by omega
    simp [go_sem]) 9 Try.underlying9
theorem ret_s {a b : ByteArray} (h : a = b) : Ending.returned (.string a) = .returned (.string b) := by rw [h]

theorem Nu.decV_len {n : Int} (hn : Nu.I n) : (Nu.decV n).length ≤ 66 := by
  have := Nu.dig_len64 (b := 10) (n := n.natAbs) (by omega) (by unfold Nu.I at hn; omega)
  unfold Nu.decV Nu.backV
  split <;> simp <;> omega

set_option maxRecDepth 100000 in
set_option maxHeartbeats 2000000 in
theorem refDecimal_go (k : Nat) : ∀ (n : Int), n.natAbs ≤ k → Nu.I n → ∀ w : World,
    Calls Try.prog 14 #[.int .i64 n] w fun e w' => e = .returned (.string (strOfNums (Nu.decV n))) ∧ Below w.heap.size w w' := by
  induction k using Nat.strongRecOn with
  | ind k ih =>
  intro n hk hn w
  have hI := hn
  obtain ⟨n1, n2⟩ := hn
  have hc := fun x => Nu.conv_one w x
  by_cases h0 : n < 0
  · by_cases hb : -10 < n
    · have X := Lib.hid (Nu.decV_neg h0 hb)
      have hm : n.tmod 10 = n := by
        have : (-n).tmod 10 = (-n) % 10 := Int.tmod_eq_emod_of_nonneg (by omega)
        rw [Int.neg_tmod] at this; omega
      have hcx := hc (48 + -n)
      have hL : (⟨#[45]⟩ : ByteArray).size + (strOfNums [48 + -n]).size ≤ 9223372036854775807 := by rw [strOfNums_size]; simp [ByteArray.size]
      clear hc ih
      go_enter Try.func14, Try.ntmps14
      go_wp2
      go_ret
      exact ⟨ret_s (by rw [X.out, strOfNums_append]; rfl), (Below.refl _ _).alloc (Nat.le_refl _) _⟩
    · obtain ⟨r, hr⟩ : ∃ r, (-n) % 10 = r := ⟨_, rfl⟩
      obtain ⟨q, hq⟩ : ∃ q, -((-n) / 10) = q := ⟨_, rfl⟩
      have hm : n.tmod 10 = -r := by
        have : (-n).tmod 10 = (-n) % 10 := Int.tmod_eq_emod_of_nonneg (by omega)
        rw [Int.neg_tmod] at this; omega
      have hd : n.tdiv 10 = q := by
        have : (-n).tdiv 10 = (-n) / 10 := Int.tdiv_eq_ediv_of_nonneg (by omega)
        rw [Int.neg_tdiv] at this; omega
      have X := Lib.hid (Nu.decV_more (n := n) (q := q) (r := r) (by omega) (by omega) (by omega) (by omega))
      have r0 : 0 ≤ r := by omega
      have r1 : r < 10 := by omega
      have q0 : -9223372036854775808 ≤ q := by omega
      have q1 : q < 0 := by omega
      have hL : (strOfNums (Nu.decV q)).size + (strOfNums [48 + r]).size ≤ 9223372036854775807 := by
        have := Nu.decV_len (n := q) (by unfold Nu.I; omega)
        rw [strOfNums_size, strOfNums_size]; simp; omega
      have hcx := hc (48 + r)
      have hrec := Lib.hid (ih q.natAbs (by omega) q (Nat.le_refl _) (by unfold Nu.I; omega))
      have hc48 := hc 48
      clear hc ih hq hr
      by_cases hz : r = 0
      · subst hz
        have hm' : n.tmod 10 = 0 := by omega
        have hL' : (strOfNums (Nu.decV q)).size + (strOfNums [48]).size ≤ 9223372036854775807 := hL
        clear hm hcx hL
        go_enter Try.func14, Try.ntmps14
        go_wp2_with (go_at_call 14; refine (hrec.out _).mono ?_; rintro e w1 ⟨rfl, hb1⟩)
        go_ret
        exact ⟨ret_s (by rw [X.out, strOfNums_append]; rfl), ((Below.refl _ _).alloc (Nat.le_refl _) _).trans (hb1.mono (by simp))⟩
      · have rp : 0 < r := by omega
        clear hz
        go_enter Try.func14, Try.ntmps14
        go_wp2_with (go_at_call 14; refine (hrec.out _).mono ?_; rintro e w1 ⟨rfl, hb1⟩)
        go_ret
        exact ⟨ret_s (by rw [X.out, strOfNums_append]), ((Below.refl _ _).alloc (Nat.le_refl _) _).trans (hb1.mono (by simp))⟩
  · have hm : n.tmod 10 = n % 10 := Int.tmod_eq_emod_of_nonneg (by omega)
    have r0 : 0 ≤ n % 10 := by omega
    have r1 : n % 10 < 10 := by omega
    have p0 : 0 ≤ n := by omega
    by_cases hb : n < 10
    · have X := Lib.hid (show Nu.decV n = [48 + n % 10] by rw [Nu.decV_pos p0 hb, show n % 10 = n by omega])
      have hcx := hc (48 + n % 10)
      clear hc hm
      go_enter Try.func14, Try.ntmps14
      go_wp2
      go_ret
      exact ⟨ret_s (by rw [X.out]), (Below.refl _ _).alloc (Nat.le_refl _) _⟩
    · have X := Lib.hid (Nu.decV_more (n := n) (q := n / 10) (r := n % 10) (by omega) (by omega) (by omega) (by omega))
      have hL : (strOfNums (Nu.decV (n / 10))).size + (strOfNums [48 + n % 10]).size ≤ 9223372036854775807 := by
        have := Nu.decV_len (n := n / 10) (by unfold Nu.I; omega)
        rw [strOfNums_size, strOfNums_size]; simp; omega
      have hcx := hc (48 + n % 10)
      have hrec := Lib.hid (ih (n / 10).natAbs (by omega) (n / 10) (Nat.le_refl _) (by unfold Nu.I; omega))
      clear hc hm ih
      go_enter Try.func14, Try.ntmps14
      go_wp2_with (go_at_call 14; refine (hrec.out _).mono ?_; rintro e w1 ⟨rfl, hb1⟩)
      go_ret
      exact ⟨ret_s (by rw [X.out, strOfNums_append]), ((Below.refl _ _).alloc (Nat.le_refl _) _).trans (hb1.mono (by simp))⟩
theorem refDecimal_any (n : Int) (hn : Nu.I n) (w : World) :
    Calls Try.prog 14 #[.int .i64 n] w fun e w' => e = .returned (.string (strOfNums (Nu.decV n))) ∧ Below w.heap.size w w' :=
  refDecimal_go _ n (Nat.le_refl _) hn w
end Go.Proofs.Ytkphfpckkmendaa
