/- One bit of bytes, told as the laws use it; what comes in, cut. Condition: numbers fit their kinds. -/
import Derived.Test.YtjjpnipcpnkakaaBtR
namespace Go.Proofs.Ytjjpnipcpnkakaa
open Go.RowKit Go.Shelf
set_option linter.unusedVariables false
namespace Bt
theorem bitV_le (zs : List Int) (i : Int) : -1 ≤ bitV zs i ∧ bitV zs i ≤ 1 := by
  unfold bitV
  split
  · omega
  · split
    · omega
    · rename_i h1 h2
      obtain ⟨k, j, e1, e2, e3⟩ := place i zs.length h1 h2
      have := bitV_01 (zs := zs) (k := k) e3 e2
      rw [← bitV_in e3 e2 e1] at this
      unfold bitV at this
      rw [if_neg h1, if_neg h2] at this
      omega
theorem bit_pos (a : Option Addr) (len cap : Nat) (zs : List Int) (i v : Int) (h9 : -9223372036854775808 ≤ i ∧ i ≤ 9223372036854775807) (w : World) (h : Bs w a len cap zs) (hv : bitV zs i = v) (h0 : 0 ≤ v) :
    Calls Try.prog 57 #[.slice a len cap, .int .i64 i] w fun e w' => e = .returned (.tuple #[.int .i64 v, .bool true]) ∧ Below w.heap.size w w' := by
  refine (bit_any a len cap zs i h9 w h).mono ?_
  rintro e w' ⟨rfl, hb⟩
  rw [hv]
  exact ⟨ret_ib (by omega) (decide_eq_true h0), hb⟩
theorem bit_neg (a : Option Addr) (len cap : Nat) (zs : List Int) (i v : Int) (h9 : -9223372036854775808 ≤ i ∧ i ≤ 9223372036854775807) (w : World) (h : Bs w a len cap zs) (hv : bitV zs i = v) (h0 : ¬ 0 ≤ v) :
    Calls Try.prog 57 #[.slice a len cap, .int .i64 i] w fun e w' => e = .returned (.tuple #[.int .i64 0, .bool false]) ∧ Below w.heap.size w w' := by
  refine (bit_any a len cap zs i h9 w h).mono ?_
  rintro e w' ⟨rfl, hb⟩
  rw [hv]
  exact ⟨ret_ib (by omega) (decide_eq_false h0), hb⟩
theorem refBit_t (a : Option Addr) (len cap : Nat) (zs : List Int) (i v : Int) (h9 : -9223372036854775808 ≤ i ∧ i ≤ 9223372036854775807) (w : World) (h : Bs w a len cap zs) (hv : bitV zs i = v) :
    Calls Try.prog 58 #[.slice a len cap, .int .i64 i] w fun e w' => e = .returned (.int .i64 v) ∧ w = w' := by
  rw [← hv]; exact refBit_any a len cap zs i h9 w h
/-- bytes that came in, cut -/
theorem bs_in {w : World} {a : Option Addr} {len cap : Nat} {zs : List Int} (h : IsRow .u8 w a len cap zs) (m : Nat) (hm : m ≤ len) : Bs w a m cap (zs.take m) := by
  obtain ⟨l1, l2, l3, l4⟩ := isrow_len h
  exact ⟨isrow_takeK h m hm, by omega, by omega, fun x hx => wfB (isrow_wfK h x (List.mem_of_mem_take hx))⟩
theorem ls_in {w : World} {a : Option Addr} {len cap : Nat} {zs : List Int} (h : IsRow .i64 w a len cap zs) (m : Nat) (hm : m ≤ len) : Ls .i64 w a m cap (zs.take m) ∧ ∀ x ∈ zs.take m, -9223372036854775808 ≤ x ∧ x ≤ 9223372036854775807 := by
  obtain ⟨l1, l2, l3, l4⟩ := isrow_len h
  exact ⟨⟨isrow_takeK h m hm, by omega, by omega⟩, fun x hx => wfI (isrow_wfK h x (List.mem_of_mem_take hx))⟩
end Bt
end Go.Proofs.Ytjjpnipcpnkakaa
