/- Remarks and blanks ahead change no number: plain facts. No condition. -/
import Derived.Test.YtnbppkiiccbagaaTokP
namespace Go.Proofs.Ytnbppkiiccbagaa
open Go.RowKit
set_option linter.unusedVariables false
namespace Tk
/-- a remark that goes on: what bytes of a text it may have -/
def Rem (o : ByteArray) : Prop := ∃ l, bytesOf o = 35 :: l ∧ ∀ c ∈ l, line c = false
theorem rem_new : Rem ⟨#[35]⟩ := ⟨[], rfl, fun c h => by cases h⟩
theorem rem_snoc {o x : ByteArray} {c : Int} (h : Rem o) (hx : bytesOf x = [c]) (hc : line c = false) : Rem (o ++ x) := by
  obtain ⟨l, h1, h2⟩ := h
  refine ⟨l ++ [c], by rw [bytesOf_append, h1, hx]; rfl, fun d hd => ?_⟩
  rcases List.mem_append.1 hd with h | h
  · exact h2 d h
  · rw [List.mem_singleton.1 h]; exact hc
theorem runs_ahead {k : Int} {o : ByteArray} (ho : Rem o) : runs k new ([32] ++ bytesOf o ++ [10, 9]) new := by
  obtain ⟨l, h1, h2⟩ := ho
  rw [h1]
  refine ⟨by rw [put_ahead (by decide)]; decide, ?_⟩
  rw [put_ahead (by decide)]
  refine ⟨by rw [put_remA]; decide, ?_⟩
  rw [put_remA]
  refine runs_app l (runs_in1 l h2) ⟨by rw [put_out1 (by decide)]; decide, ?_⟩
  rw [put_out1 (by decide)]
  refine ⟨by rw [put_ahead (by decide)]; decide, ?_⟩
  rw [put_ahead (by decide)]
  rfl
theorem all_ahead {k c : Int} {o : ByteArray} (k0 : 0 ≤ k) (ho : Rem o) (hc : blank c = true) (c0 : 0 ≤ c) (c1 : c ≤ 255) {D C : ByteArray} (hD : strOfNums (Nu.decV k) = D) (hC : strOfNums [c] = C) :
    allV (bytesOf ((⟨#[32]⟩ : ByteArray) ++ o ++ ⟨#[10, 9]⟩ ++ D ++ C)) k = ([k], (((⟨#[32]⟩ : ByteArray) ++ o ++ ⟨#[10, 9]⟩ ++ D ++ C).size : Int), 0) := by
  have hs : ((⟨#[32]⟩ : ByteArray) ++ o ++ ⟨#[10, 9]⟩ ++ D ++ C).size = 0 + ([32] ++ bytesOf o ++ [10, 9]).length + ((Nu.decV k).length + 1) := by
    rw [← hD, ← hC]
    simp only [ByteArray.size_append, strOfNums_size, List.length_append, List.length_cons, List.length_nil, bytesOf_length]
    rw [show (⟨#[32]⟩ : ByteArray).size = 1 from rfl, show (⟨#[10, 9]⟩ : ByteArray).size = 2 from rfl]
    omega
  rw [hs, ← hD, ← hC]
  simp only [bytesOf_append]
  rw [bytesOf_strOfNums (Nu.decV_bytes k), bytesOf_strOfNums (xs := [c]) (by intro x hx; rw [List.mem_singleton.1 hx]; omega)]
  rw [show bytesOf ⟨#[32]⟩ = [32] from rfl, show bytesOf ⟨#[10, 9]⟩ = [10, 9] from rfl]
  unfold allV
  rw [List.append_assoc _ (Nu.decV k), allF_runs _ (runs_ahead ho), ← List.append_nil (Nu.decV k ++ [c]), all_dec k0 (Int.le_refl k) hc, allF_nil']
  rfl
where allF_nil' {m : Int} {s : S} {i : Nat} {u : Int} {acc : List Int} : allF m s i u acc [] = (acc, u, if s.bg = true then 6 else 0) := by rw [allF]
theorem all_behind {k : Int} {o : ByteArray} (k0 : 0 ≤ k) (ho : Rem o) {D : ByteArray} (hD : strOfNums (Nu.decV k) = D) :
    allV (bytesOf (D ++ o ++ ⟨#[13]⟩)) k = ([k], (D.size : Int) + o.size + 1, 0) := by
  obtain ⟨l, h1, h2⟩ := ho
  have hso : o.size = l.length + 1 := by rw [← bytesOf_length, h1]; rfl
  rw [hso, ← hD, strOfNums_size]
  simp only [bytesOf_append]
  rw [bytesOf_strOfNums (Nu.decV_bytes k), h1, show bytesOf ⟨#[13]⟩ = [13] from rfl]
  unfold allV
  have hr : runs k new (Nu.decV k ++ (35 :: l)) ⟨3, k, 9, true⟩ := by
    refine runs_app _ (digs_runs _ (digs_dec k0 (Int.le_refl k))) ⟨by rw [put_remD]; simp, ?_⟩
    rw [put_remD]
    exact runs_in3 l h2
  rw [allF_runs _ hr, allF, put_out3 (by decide), if_neg (by simp), if_pos rfl, allF]
  refine Prod.ext rfl (Prod.ext ?_ rfl)
  simp only [List.length_append, List.length_cons]
  omega
theorem skip_in : ∀ (l : List Int) (i : Nat), (∀ c ∈ l, line c = false) → skipF true i l = ((i + l.length : Nat) : Int)
  | [], i, _ => rfl
  | c :: cs, i, h => by
    rw [skipF, h c (by simp), show (!false) = true from rfl, skip_in cs (i + 1) (fun d hd => h d (by simp [hd])), List.length_cons]
    omega
theorem skip_rem {o : ByteArray} (ho : Rem o) : skipV (bytesOf o) = (o.size : Int) := by
  obtain ⟨l, h1, h2⟩ := ho
  have hso : o.size = l.length + 1 := by rw [← bytesOf_length, h1]; rfl
  rw [h1, hso]
  unfold skipV
  rw [skipF, if_pos rfl, skip_in l 1 h2]
  omega
end Tk
end Go.Proofs.Ytnbppkiiccbagaa
