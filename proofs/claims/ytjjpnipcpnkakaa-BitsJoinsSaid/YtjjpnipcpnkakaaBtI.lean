/- A row's spare bits, over any memory, of bits and of the document's own answer. Condition: numbers fit their kinds. -/
import Derived.Test.YtjjpnipcpnkakaaBtH
import Derived.Test.YtjjpnipcpnkakaaSamI
namespace Go.Proofs.Ytjjpnipcpnkakaa
open Go.RowKit Go.Shelf
set_option linter.unusedVariables false
namespace Bt
/-- the spare bits of a row of n bytes -/
def spareN (zs : List Int) (W n : Nat) : Int := num (((bitsOf zs).take (8 * n)).drop W) 0
def spareV (zs : List Int) (W : Int) : Int := if rowE zs.length W = 0 then spareN zs W.toNat (bytesV W).toNat else 0
theorem num_bound : ∀ (l : List Int) (n : Int), (∀ x ∈ l, x = 0 ∨ x = 1) → 0 ≤ n → 0 ≤ num l n ∧ num l n + 1 ≤ (n + 1) * 2 ^ l.length
  | [], n, _, h => by simp [num, h]
  | x :: l, n, hx, h => by
    have h1 := hx x (by simp)
    have h2 := num_bound l (n * 2 + x) (fun y hy => hx y (by simp [hy])) (by omega)
    refine ⟨h2.1, Int.le_trans h2.2 ?_⟩
    rw [List.length_cons, Int.pow_succ, ← Int.mul_assoc, Int.mul_right_comm]
    exact Int.mul_le_mul_of_nonneg_right (by omega) (by exact Int.pow_nonneg (by omega))
theorem eight_low (c : Int) (h0 : 0 ≤ c) (h1 : c ≤ 255) (s : Nat) (hs : s < 8) : num ((eight c).drop (8 - s)) 0 = c % 2 ^ s := by
  obtain rfl | rfl | rfl | rfl | rfl | rfl | rfl | rfl : s = 0 ∨ s = 1 ∨ s = 2 ∨ s = 3 ∨ s = 4 ∨ s = 5 ∨ s = 6 ∨ s = 7 := by omega
  all_goals simp [eight, num]
  all_goals omega
theorem bits_part (zs : List Int) (n : Nat) (hn : n + 1 ≤ zs.length) : (bitsOf zs).take (8 * (n + 1)) = (bitsOf (zs.take n)) ++ eight (zs.getD n 0) := by
  have h1 := take_next zs n (by omega)
  have h2 : (bitsOf zs).take (8 * (n + 1)) = bitsOf (zs.take (n + 1)) := by
    have h3 : bitsOf zs = bitsOf (zs.take (n + 1)) ++ bitsOf (zs.drop (n + 1)) := by rw [← bitsOf_append, List.take_append_drop]
    rw [h3, List.take_append_of_le_length (by rw [bitsOf_len, List.length_take]; omega), List.take_of_length_le (by rw [bitsOf_len, List.length_take]; omega)]
  rw [h2, ← h1, bitsOf_append]
  simp [bitsOf]
theorem spare_last (zs : List Int) (W n s : Nat) (hz : ∀ z ∈ zs, 0 ≤ z ∧ z ≤ 255) (hn : n + 1 ≤ zs.length) (hs : s < 8) (hW : W + s = 8 * (n + 1)) : spareN zs W (n + 1) = zs.getD n 0 % 2 ^ s := by
  have hc := hz (zs.getD n 0) (by rw [List.getD_eq_getElem?_getD, List.getElem?_eq_getElem (by omega)]; exact List.getElem_mem _)
  unfold spareN
  rw [bits_part zs n hn, List.drop_append, bitsOf_len, List.length_take, List.drop_eq_nil_of_le (by rw [bitsOf_len, List.length_take]; omega), List.nil_append, show W - 8 * min n zs.length = 8 - s by omega]
  exact eight_low _ hc.1 hc.2 s hs
set_option maxRecDepth 100000 in
set_option maxHeartbeats 2000000 in
theorem spare_yes (b o len cap p W s : Nat) (c : Int) (hl : len ≤ cap) (hc : cap ≤ 9223372036854775807) (hn : bytesV W = (p + 1 : Nat)) (h2 : p + 1 ≤ len) (hn2 : p + 1 ≤ 4096) (hs : s < 8) (hW : W + s = 8 * (p + 1)) (c0 : 0 ≤ c) (c1 : c ≤ 255) (w : World) (hcc : w.cell? ⟨b, o + p, none⟩ = some (.int .u8 c)) :
    Calls Try.prog 51 #[.slice (some ⟨b, o, none⟩) len cap, .int .i64 W] w fun e w' => e = .returned (.int .i64 (c % 2 ^ s)) ∧ Below w.heap.size w w' := by
  obtain ⟨n, hpn⟩ : ∃ n, p + 1 = n := ⟨_, rfl⟩
  rw [hpn] at hn h2 hn2 hW
  have HN := Lib.hid hn; clear hn
  have hp : (n : Int) - 1 = p := by omega
  have hp0 : (0 : Int) ≤ p := Int.natCast_nonneg _
  have hp1 : (p : Int) < n := by omega
  have h1 : 1 ≤ n := by omega
  clear hpn
  obtain rfl | rfl | rfl | rfl | rfl | rfl | rfl | rfl : s = 0 ∨ s = 1 ∨ s = 2 ∨ s = 3 ∨ s = 4 ∨ s = 5 ∨ s = 6 ∨ s = 7 := by omega
  · have hd : 8 * (n : Int) - W = 0 := by omega
    rw [show c % 2 ^ 0 = c % 1 from rfl]
    clear hW
    go_enter Try.func51, Try.ntmps51
    go_wp2_with (go_at_call 86; refine (rowOf_yes _ _ _ _ n _ hl hc HN.out h1 h2 _).mono ?_; rintro e w1 ⟨rfl, rfl⟩)
    go_quiet (fail)
    go_wp2
    go_ret
    exact ⟨ret_i (by omega), Sm.bdn (Below.refl _ _) _⟩
  · have hd : 8 * (n : Int) - W = 1 := by omega
    rw [show c % 2 ^ 1 = c % 2 from rfl]
    clear hW
    go_enter Try.func51, Try.ntmps51
    go_wp2_with (go_at_call 86; refine (rowOf_yes _ _ _ _ n _ hl hc HN.out h1 h2 _).mono ?_; rintro e w1 ⟨rfl, rfl⟩)
    go_quiet (fail)
    go_wp2
    go_ret
    exact ⟨ret_i (by omega), Sm.bdn (Below.refl _ _) _⟩
  · have hd : 8 * (n : Int) - W = 2 := by omega
    rw [show c % 2 ^ 2 = c % 4 from rfl]
    clear hW
    go_enter Try.func51, Try.ntmps51
    go_wp2_with (go_at_call 86; refine (rowOf_yes _ _ _ _ n _ hl hc HN.out h1 h2 _).mono ?_; rintro e w1 ⟨rfl, rfl⟩)
    go_quiet (fail)
    go_wp2
    go_ret
    exact ⟨ret_i (by omega), Sm.bdn (Below.refl _ _) _⟩
  · have hd : 8 * (n : Int) - W = 3 := by omega
    rw [show c % 2 ^ 3 = c % 8 from rfl]
    clear hW
    go_enter Try.func51, Try.ntmps51
    go_wp2_with (go_at_call 86; refine (rowOf_yes _ _ _ _ n _ hl hc HN.out h1 h2 _).mono ?_; rintro e w1 ⟨rfl, rfl⟩)
    go_quiet (fail)
    go_wp2
    go_ret
    exact ⟨ret_i (by omega), Sm.bdn (Below.refl _ _) _⟩
  · have hd : 8 * (n : Int) - W = 4 := by omega
    rw [show c % 2 ^ 4 = c % 16 from rfl]
    clear hW
    go_enter Try.func51, Try.ntmps51
    go_wp2_with (go_at_call 86; refine (rowOf_yes _ _ _ _ n _ hl hc HN.out h1 h2 _).mono ?_; rintro e w1 ⟨rfl, rfl⟩)
    go_quiet (fail)
    go_wp2
    go_ret
    exact ⟨ret_i (by omega), Sm.bdn (Below.refl _ _) _⟩
  · have hd : 8 * (n : Int) - W = 5 := by omega
    rw [show c % 2 ^ 5 = c % 32 from rfl]
    clear hW
    go_enter Try.func51, Try.ntmps51
    go_wp2_with (go_at_call 86; refine (rowOf_yes _ _ _ _ n _ hl hc HN.out h1 h2 _).mono ?_; rintro e w1 ⟨rfl, rfl⟩)
    go_quiet (fail)
    go_wp2
    go_ret
    exact ⟨ret_i (by omega), Sm.bdn (Below.refl _ _) _⟩
  · have hd : 8 * (n : Int) - W = 6 := by omega
    rw [show c % 2 ^ 6 = c % 64 from rfl]
    clear hW
    go_enter Try.func51, Try.ntmps51
    go_wp2_with (go_at_call 86; refine (rowOf_yes _ _ _ _ n _ hl hc HN.out h1 h2 _).mono ?_; rintro e w1 ⟨rfl, rfl⟩)
    go_quiet (fail)
    go_wp2
    go_ret
    exact ⟨ret_i (by omega), Sm.bdn (Below.refl _ _) _⟩
  · have hd : 8 * (n : Int) - W = 7 := by omega
    rw [show c % 2 ^ 7 = c % 128 from rfl]
    clear hW
    go_enter Try.func51, Try.ntmps51
    go_wp2_with (go_at_call 86; refine (rowOf_yes _ _ _ _ n _ hl hc HN.out h1 h2 _).mono ?_; rintro e w1 ⟨rfl, rfl⟩)
    go_quiet (fail)
    go_wp2
    go_ret
    exact ⟨ret_i (by omega), Sm.bdn (Below.refl _ _) _⟩
theorem spare_no (a : Option Addr) (len cap : Nat) (W : Int) (hl : len ≤ 9223372036854775807) (h : rowE len W ≠ 0) (w : World) :
    Calls Try.prog 51 #[.slice a len cap, .int .i64 W] w fun e w' => e = .returned (.int .i64 0) ∧ w = w' := by
  have hk : (rowE len W != 0) = true := by simpa using h
  have H := Lib.hid h; clear h
  obtain ⟨r, hr⟩ : ∃ r, rowE len W = r := ⟨_, rfl⟩
  have HR := Lib.hid hr
  rw [hr] at hk
  clear hr
  go_enter Try.func51, Try.ntmps51
  go_wp2_with (first | (go_at_call 86; refine (rowOf_no _ _ _ _ hl H.out _).mono ?_; rw [HR.out]; rintro e w1 ⟨rfl, rfl⟩))
  go_ret
  exact ⟨rfl, rfl⟩
theorem spare_any (a : Option Addr) (len cap : Nat) (zs : List Int) (W : Int) (w : World) (h : Bs w a len cap zs) :
    Calls Try.prog 51 #[.slice a len cap, .int .i64 W] w fun e w' => e = .returned (.int .i64 (spareV zs W)) ∧ Below w.heap.size w w' := by
  have hl : zs.length = len := h.1.1
  by_cases h0 : rowE len W = 0
  · obtain ⟨N, P, rfl, hN, h1, h2, h3, h4, h5⟩ := bytesV_pos h0
    obtain ⟨⟨_, hs⟩, hc, hm, hby⟩ := h
    obtain ⟨p, rfl⟩ : ∃ p, N = p + 1 := ⟨N - 1, by omega⟩
    rcases hs with hs | ⟨b, o, rfl, hs⟩
    · omega
    · have hz := hby (zs.getD p 0) (by rw [List.getD_eq_getElem?_getD, List.getElem?_eq_getElem (by omega)]; exact List.getElem_mem _)
      have := spare_yes b o len cap p P (8 * (p + 1) - P) (zs.getD p 0) hc hm hN h2 h3 (by omega) (by omega) hz.1 hz.2 w (hs p (by omega))
      unfold spareV
      rw [hl, if_pos h0, hN]
      rw [show (P : Int).toNat = P from rfl, show ((p + 1 : Nat) : Int).toNat = p + 1 from rfl, spare_last zs P p _ hby (by omega) (by omega : 8 * (p + 1) - P < 8) (by omega)]
      exact this
  · refine (spare_no a len cap W (by have := h.2; omega) h0 w).mono ?_
    rintro e w' ⟨rfl, rfl⟩
    unfold spareV
    rw [hl, if_neg h0]
    exact ⟨rfl, Below.refl _ _⟩
theorem refSpare_no (a : Option Addr) (len cap : Nat) (zs : List Int) (W : Int) (w : World) (hB : Bs w a len cap zs) (h : rowE len W ≠ 0) :
    Calls Try.prog 52 #[.slice a len cap, .int .i64 W] w fun e w' => e = .returned (.int .i64 0) ∧ Below w.heap.size w w' := by
  have hk : (rowE len W != 0) = true := by simpa using h
  have HB := Lib.hid hB; clear hB
  obtain ⟨r, hr⟩ : ∃ r, rowE len W = r := ⟨_, rfl⟩
  have HR := Lib.hid hr
  rw [hr] at hk
  clear hr h
  go_enter Try.func52, Try.ntmps52
  go_wp2_with (first | (go_at_call 46; refine (refUnpack_any _ _ _ zs _ _ HB.out).mono ?_; rw [HR.out]; rintro e w1 ⟨ad, c1, rfl, hrow, hb⟩))
  go_ret
  exact ⟨rfl, hb⟩
set_option maxRecDepth 100000 in
set_option maxHeartbeats 2000000 in
theorem refSpare_yes (a : Option Addr) (len cap : Nat) (zs : List Int) (n W s : Nat) (w : World) (hB : Bs w a len cap zs) (h : rowE len W = 0) (hn : bytesV W = n) (h1 : 1 ≤ n) (h2 : n ≤ len) (hn2 : n ≤ 4096) (hs : s < 8) (hW : W + s = 8 * n) :
    Calls Try.prog 52 #[.slice a len cap, .int .i64 W] w fun e w' => e = .returned (.int .i64 (spareN zs W n)) ∧ Below w.heap.size w w' := by
  have hl : zs.length = len := hB.1.1
  have h8 : 8 * (n : Int) = W + s := by omega
  have hlen : (((bitsOf zs).take (8 * n)).drop W).length = s := by rw [List.length_drop, List.length_take, bitsOf_len]; omega
  have h01 : ∀ x ∈ ((bitsOf zs).take (8 * n)).drop W, x = 0 ∨ x = 1 := fun x hx => bitsOf_01 zs x (List.mem_of_mem_take (List.mem_of_mem_drop hx))
  have hget : ∀ k : Nat, k < s → bitV zs ((W : Int) + k) = (((bitsOf zs).take (8 * n)).drop W).getD k 0 := fun k hk => by
    rw [show (W : Int) + k = (W + k : Nat) from rfl, bitV_nat (by omega), List.getD_eq_getElem?_getD, List.getD_eq_getElem?_getD, List.getElem?_drop, List.getElem?_take_of_lt (by omega)]
  unfold spareN
  obtain ⟨xs, hxs⟩ : ∃ xs, ((bitsOf zs).take (8 * n)).drop W = xs := ⟨_, rfl⟩
  rw [hxs] at hlen h01 hget ⊢
  have HB := Lib.hid hB
  have HE := Lib.hid h
  have HN := Lib.hid hn
  have HL := Lib.hid hlen
  have H01 := Lib.hid h01
  have HG := Lib.hid hget
  clear hB h hn hlen h01 hget hxs hl
  go_enter Try.func52, Try.ntmps52
  go_wp2_with (first | (go_at_call 46; refine (refUnpack_any _ _ _ zs _ _ HB.out).mono ?_; rw [HE.out]; rintro e w1 ⟨ad, c1, rfl, hrow, hb⟩; clear hrow))
  go_loopg [7, 8] s (fun g s7 s8 wr => ∃ k : Nat, k + g = s ∧ s8 = .int .i64 ((W : Int) + k) ∧ s7 = .int .i64 (num (xs.take k) 0) ∧ Below w.heap.size w wr)
  case atStart => exact ⟨0, by omega, by simp, rfl, hb⟩
  case round =>
    obtain ⟨k, hk, rfl, rfl, hB⟩ := hrel
    have hq := num_bound (xs.take k) 0 (fun x hx => H01.out x (List.mem_of_mem_take hx)) (by omega)
    have hp : (2 : Int) ^ (xs.take k).length ≤ 128 := by
      have : (xs.take k).length ≤ 7 := by rw [List.length_take, HL.out]; omega
      exact (show ∀ m : Fin 8, (2 : Int) ^ m.val ≤ 128 by decide) ⟨_, by omega⟩
    obtain ⟨v, hv⟩ : ∃ v, num (xs.take k) 0 = v := ⟨_, rfl⟩
    rw [hv] at hq ⊢
    have v0 : 0 ≤ v := hq.1
    have v1 : v ≤ 127 := by have := hq.2; omega
    have HV := Lib.hid hv
    clear hq hp hv
    cases gk with
    | zero =>
      obtain rfl : k = s := by omega
      have hlt : ¬ (W : Int) + k < W + k := by omega
      go_wp2_with (first | (go_at_call 49; refine (refBytes_any _ _).mono ?_; rw [HN.out]; rintro e w1 ⟨rfl, rfl⟩))
      go_ret
      exact ⟨ret_i (by rw [← HV.out, List.take_of_length_le (by rw [HL.out]; omega)]), hB⟩
    | succ g =>
      have hlt : (W : Int) + k < W + s := by omega
      obtain ⟨x, hx⟩ : ∃ x, xs.getD k 0 = x := ⟨_, rfl⟩
      have hbx : bitV zs ((W : Int) + k) = x := by rw [HG.out k (by omega)]; exact hx
      have hx01 : x = 0 ∨ x = 1 := by
        rw [← hx, List.getD_eq_getElem?_getD, List.getElem?_eq_getElem (by rw [HL.out]; omega)]; exact H01.out _ (List.getElem_mem _)
      have hnx := take_next xs k (by rw [HL.out]; omega)
      rw [hx] at hnx
      have x0 : 0 ≤ x := by omega
      have x1 : x ≤ 1 := by omega
      have HX := Lib.hid hbx
      have HT := Lib.hid hnx
      clear hbx hnx hx hx01
      go_wp2_with (first
        | (go_at_call 49; refine (refBytes_any _ _).mono ?_; rw [HN.out]; rintro e w1 ⟨rfl, rfl⟩)
        | (go_at_call 58; refine (refBit_any _ _ _ zs _ (by omega) _ (HB.out.below hB)).mono ?_; rw [HX.out]; rintro e w5 ⟨rfl, rfl⟩))
      go_roundg g
      case measure => omega
      case rel => exact ⟨k + 1, by omega, by go_num, by rw [← HT.out, num_append, HV.out]; rfl, hB⟩
theorem refSpare_any (a : Option Addr) (len cap : Nat) (zs : List Int) (W : Int) (w : World) (h : Bs w a len cap zs) :
    Calls Try.prog 52 #[.slice a len cap, .int .i64 W] w fun e w' => e = .returned (.int .i64 (spareV zs W)) ∧ Below w.heap.size w w' := by
  have hl : zs.length = len := h.1.1
  by_cases h0 : rowE len W = 0
  · obtain ⟨N, P, rfl, hN, h1, h2, h3, h4, h5⟩ := bytesV_pos h0
    have := refSpare_yes a len cap zs N P (8 * N - P) w h h0 hN h1 h2 h3 (by omega) (by omega)
    unfold spareV
    rw [hl, if_pos h0, hN]
    exact this
  · unfold spareV
    rw [hl, if_neg h0]
    exact refSpare_no a len cap zs W w h h0
end Bt
end Go.Proofs.Ytjjpnipcpnkakaa
