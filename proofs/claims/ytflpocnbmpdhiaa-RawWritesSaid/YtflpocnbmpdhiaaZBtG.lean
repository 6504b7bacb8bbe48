/- One bit of bytes, over any memory, of bits and of the document's own answer. Condition: numbers fit their kinds. -/
import Derived.Test.YtflpocnbmpdhiaaZgAC
namespace Go.Proofs.Ytflpocnbmpdhiaa
open Go.RowKit Go.Shelf
set_option linter.unusedVariables false
namespace Bt
/-- a bit, or -1 -/
def bitV (zs : List Int) (i : Int) : Int := if i < 0 then -1 else if zs.length ≤ i / 8 then -1 else (bitsOf zs).getD i.toNat 0
theorem bitV_in {zs : List Int} {k j : Nat} (hk : k < zs.length) (hj : j < 8) {i : Int} (hi : i = 8 * k + j) : bitV zs i = (eight (zs.getD k 0)).getD j 0 := by
  unfold bitV
  rw [if_neg (by omega), if_neg (by omega), show i.toNat = 8 * k + j by omega, bitsOf_get zs k j hk hj]
theorem ret_ib {k : IntKind} {a b : Int} {c d : Bool} (h : a = b) (h2 : c = d) : Ending.returned (.tuple #[.int k a, .bool c]) = .returned (.tuple #[.int k b, .bool d]) := by rw [h, h2]
set_option maxRecDepth 100000 in
set_option maxHeartbeats 2000000 in
theorem refBit_yes (c i : Int) (b o len cap k j : Nat) (hi : i = 8 * k + j) (hj : j < 8) (hk : k < len) (hlc : len ≤ 9223372036854775807) (c0 : 0 ≤ c) (c1 : c ≤ 255) (hi9 : i ≤ 9223372036854775807) (w : World) (hc : w.cell? ⟨b, o + k, none⟩ = some (.int .u8 c)) :
    Calls Try.prog 91 #[.slice (some ⟨b, o, none⟩) len cap, .int .i64 i] w fun e w' => e = .returned (.int .i64 ((eight c).getD j 0)) ∧ w = w' := by
  have hq : i / 8 = k := by omega
  have hr : i % 8 = j := by omega
  have hi0 : 0 ≤ i := by omega
  have hk1 : (k : Int) < len := by omega
  have hk0 : (0 : Int) ≤ k := Int.natCast_nonneg _
  have hn1 : ¬ (len : Int) ≤ k := by omega
  have hn2 : ¬ len ≤ k := by omega
  clear hi
  obtain rfl | rfl | rfl | rfl | rfl | rfl | rfl | rfl : j = 0 ∨ j = 1 ∨ j = 2 ∨ j = 3 ∨ j = 4 ∨ j = 5 ∨ j = 6 ∨ j = 7 := by omega
  · rw [show (((0 : Nat)) : Int) = 0 from rfl] at hr
    rw [show (eight c).getD 0 0 = c / 128 % 2 from rfl]
    go_enter Try.func91, Try.ntmps91
    go_wp2
    go_rounds 8
    go_ret
    exact ⟨ret_i (by omega), rfl⟩
  · rw [show (((1 : Nat)) : Int) = 1 from rfl] at hr
    rw [show (eight c).getD 1 0 = c / 64 % 2 from rfl]
    go_enter Try.func91, Try.ntmps91
    go_wp2
    go_rounds 7
    go_ret
    exact ⟨ret_i (by omega), rfl⟩
  · rw [show (((2 : Nat)) : Int) = 2 from rfl] at hr
    rw [show (eight c).getD 2 0 = c / 32 % 2 from rfl]
    go_enter Try.func91, Try.ntmps91
    go_wp2
    go_rounds 6
    go_ret
    exact ⟨ret_i (by omega), rfl⟩
  · rw [show (((3 : Nat)) : Int) = 3 from rfl] at hr
    rw [show (eight c).getD 3 0 = c / 16 % 2 from rfl]
    go_enter Try.func91, Try.ntmps91
    go_wp2
    go_rounds 5
    go_ret
    exact ⟨ret_i (by omega), rfl⟩
  · rw [show (((4 : Nat)) : Int) = 4 from rfl] at hr
    rw [show (eight c).getD 4 0 = c / 8 % 2 from rfl]
    go_enter Try.func91, Try.ntmps91
    go_wp2
    go_rounds 4
    go_ret
    exact ⟨ret_i (by omega), rfl⟩
  · rw [show (((5 : Nat)) : Int) = 5 from rfl] at hr
    rw [show (eight c).getD 5 0 = c / 4 % 2 from rfl]
    go_enter Try.func91, Try.ntmps91
    go_wp2
    go_rounds 3
    go_ret
    exact ⟨ret_i (by omega), rfl⟩
  · rw [show (((6 : Nat)) : Int) = 6 from rfl] at hr
    rw [show (eight c).getD 6 0 = c / 2 % 2 from rfl]
    go_enter Try.func91, Try.ntmps91
    go_wp2
    go_rounds 2
    go_ret
    exact ⟨ret_i (by omega), rfl⟩
  · rw [show (((7 : Nat)) : Int) = 7 from rfl] at hr
    rw [show (eight c).getD 7 0 = c % 2 from rfl]
    go_enter Try.func91, Try.ntmps91
    go_wp2
    go_rounds 1
    go_ret
    exact ⟨ret_i (by omega), rfl⟩
theorem refBit_no (a : Option Addr) (i : Int) (len cap : Nat) (hl : len ≤ 9223372036854775807) (h9 : -9223372036854775808 ≤ i ∧ i ≤ 9223372036854775807) (h : i < 0 ∨ (len : Int) ≤ i / 8) (w : World) :
    Calls Try.prog 91 #[.slice a len cap, .int .i64 i] w fun e w' => e = .returned (.int .i64 (-1)) ∧ w = w' := by
  obtain ⟨h8, h9⟩ := h9
  by_cases h0 : i < 0
  · clear h
    go_enter Try.func91, Try.ntmps91
    go_wp2
    go_ret
    exact ⟨rfl, rfl⟩
  · have h1 : (len : Int) ≤ i / 8 := by omega
    have h2 : 0 ≤ i := by omega
    clear h
    go_enter Try.func91, Try.ntmps91
    go_wp2
    go_ret
    exact ⟨rfl, rfl⟩
theorem place (i : Int) (len : Nat) (h0 : ¬ i < 0) (h1 : ¬ (len : Int) ≤ i / 8) : ∃ k j : Nat, i = 8 * k + j ∧ j < 8 ∧ k < len :=
  ⟨(i / 8).toNat, (i % 8).toNat, by omega, by omega, by omega⟩
theorem bitV_01 {zs : List Int} {k j : Nat} (hk : k < zs.length) (hj : j < 8) : (eight (zs.getD k 0)).getD j 0 = 0 ∨ (eight (zs.getD k 0)).getD j 0 = 1 := by
  generalize zs.getD k 0 = c
  apply eight_01 c
  rw [List.getD_eq_getElem?_getD, List.getElem?_eq_getElem (by rw [eight_len]; exact hj)]
  exact List.getElem_mem _
theorem refBit_any (a : Option Addr) (len cap : Nat) (zs : List Int) (i : Int) (h9 : -9223372036854775808 ≤ i ∧ i ≤ 9223372036854775807) (w : World) (h : Bs w a len cap zs) :
    Calls Try.prog 91 #[.slice a len cap, .int .i64 i] w fun e w' => e = .returned (.int .i64 (bitV zs i)) ∧ w = w' := by
  obtain ⟨⟨hl, hs⟩, hc, hm, hby⟩ := h
  by_cases h0 : i < 0
  · unfold bitV
    rw [if_pos h0]
    exact refBit_no a i len cap (by omega) h9 (.inl h0) w
  · by_cases h1 : (len : Int) ≤ i / 8
    · unfold bitV
      rw [if_neg h0, hl, if_pos h1]
      exact refBit_no a i len cap (by omega) h9 (.inr h1) w
    · obtain ⟨k, j, e1, e2, e3⟩ := place i len h0 h1
      rcases hs with hs | ⟨b, o, rfl, hs⟩
      · omega
      · have hz := hby (zs.getD k 0) (by rw [List.getD_eq_getElem?_getD, List.getElem?_eq_getElem (by omega)]; exact List.getElem_mem _)
        rw [bitV_in (by omega) e2 e1]
        exact refBit_yes (zs.getD k 0) i b o len cap k j e1 e2 e3 (by omega) hz.1 hz.2 h9.2 w (hs k e3)
end Bt
end Go.Proofs.Ytflpocnbmpdhiaa
