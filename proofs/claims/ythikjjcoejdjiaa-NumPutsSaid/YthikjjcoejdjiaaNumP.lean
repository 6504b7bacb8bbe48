/- Put and Get, told as their laws use them. Condition: numbers fit their kinds. -/
import Derived.Test.YthikjjcoejdjiaaNumO
import Derived.Test.YthikjjcoejdjiaaNumG
import Derived.Test.YthikjjcoejdjiaaNumL
import Derived.Test.YthikjjcoejdjiaaIn
namespace Go.Proofs.Ythikjjcoejdjiaa
open Go.RowKit
set_option linter.unusedVariables false

theorem put_two (k : Int) (h0 : 0 ≤ k) (h1 : k ≤ 4611686018427387903) (w : World) : Calls Try.prog 20 #[.int .i64 k] w fun e w' => ∃ g cap, e = .returned (.tuple #[.slice (some ⟨g, 0, none⟩) (Nu.putV k).length cap, .int .i64 0]) ∧
    w.heap.size ≤ g ∧ g < w'.heap.size ∧ (∀ i, i < (Nu.putV k).length → w'.cell? ⟨g, i, none⟩ = some (.int .u8 ((Nu.putV k).getD i 0))) ∧ Below w.heap.size w w' ∧ (Nu.putV k).length ≤ cap := by
  refine (put_any k (by unfold Nu.I; omega) w).mono ?_
  rintro e w1 ⟨ad, cap, rfl, ho, hb, hcap⟩
  obtain ⟨-, hp, -⟩ := Nu.put_len9 h0 h1
  rcases ho with ho | ⟨g, rfl, hg0, hg1, hc, hf⟩
  · rw [ho] at hp; simp at hp
  exact ⟨g, cap, by rw [if_pos (by simp [Nu.putOk, h0, h1])], hg0, hg1, hc, hb, hcap⟩
theorem refPut_any (n : Int) (hn : Nu.I n) (w : World) : Calls Try.prog 21 #[.int .i64 n] w (PutR n w) := by
  cases h : Nu.putOk n
  · refine (refPut_no n hn h w).mono ?_
    rintro e w' ⟨rfl, rfl⟩
    exact ⟨none, 0, by simp [Nu.putV, h], .inl (by simp [Nu.putV, h]), Below.refl _ _, by simp [Nu.putV, h]⟩
  · exact refPut_yes n hn h w
theorem get_two (a : Option Addr) (len cap : Nat) (zs : List Int) (w : World) (hlen : len ≤ 9223372036854775807) (hs : SlK .u8 w a len zs) (hz : ∀ x ∈ zs, 0 ≤ x ∧ x ≤ 255) (x y z : Int) (h : Nu.getV zs = (x, y, z)) :
    Calls Try.prog 22 #[.slice a len cap] w fun e w' => e = .returned (.tuple #[.int .i64 x, .int .i64 y, .int .i64 z]) ∧ w = w' := by
  refine (get_any a len cap zs w hlen hs hz).mono ?_
  rintro e w' ⟨rfl, rfl⟩
  rw [h]; exact ⟨rfl, rfl⟩
theorem refGet_two (a : Option Addr) (len cap : Nat) (zs : List Int) (w : World) (hlen : len ≤ 9223372036854775807) (hs : SlK .u8 w a len zs) (hz : ∀ x ∈ zs, 0 ≤ x ∧ x ≤ 255) (x y z : Int) (h : Nu.getV zs = (x, y, z)) :
    Calls Try.prog 23 #[.slice a len cap] w fun e w' => e = .returned (.tuple #[.int .i64 x, .int .i64 y, .int .i64 z]) ∧ w = w' := by
  refine (refGet_any a len cap zs w hlen hs hz).mono ?_
  rintro e w' ⟨rfl, rfl⟩
  rw [h]; exact ⟨rfl, rfl⟩
/-- a slice of bytes, as a text -/
theorem conv_slk {W : World} {a : Option Addr} {len cap : Nat} {zs : List Int} (h : SlK .u8 W a len zs) : (convert 33 9 (.slice a len cap)).run Try.prog W = .ok (.string (strOfNums zs)) W := by
  obtain ⟨h1, h2⟩ := h
  rcases h2 with rfl | ⟨blk, off, rfl, hc⟩
  · obtain rfl : zs = [] := List.eq_nil_of_length_eq_zero h1
    rw [run_convert_bytes_string W _ _ _ a 0 cap Try.underlying33 Try.underlying5 Try.underlying9]
    rcases a with _ | a
    · simp [Conv.bytesToString]; rfl
    · rw [run_bytesToString W a 0 cap [] (by simpa using run_loadCells_list (P := Try.prog) W a [] (fun j u hj => by simp at hj))]; rfl
  · exact run_convert_bytes_arg (P := Try.prog) W _ _ Try.underlying33 Try.underlying5 blk off len cap zs h1 hc _ Try.underlying9
end Go.Proofs.Ythikjjcoejdjiaa
