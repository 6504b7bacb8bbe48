/- A row's pixels, by the document's own answer, over any memory. Condition: numbers fit their kinds. -/
import Derived.Test.YtflpocnbmpdhiaaZBtG
import Derived.Deep.QuietTactic
import Derived.BigQuiet
import Derived.Deep.LoopGhost
namespace Go.Proofs.Ytflpocnbmpdhiaa
open Go.RowKit Go.Shelf
set_option linter.unusedVariables false
namespace Bt
theorem refUnpack_no (a : Option Addr) (len cap : Nat) (W : Int) (hl : len ≤ 9223372036854775807) (h : rowE len W ≠ 0) (w : World) :
    Calls Try.prog 61 #[.slice a len cap, .int .i64 W] w fun e w' => e = .returned (.tuple #[.slice none 0 0, .int .i64 (rowE len W)]) ∧ w = w' := by
  obtain ⟨n, hn⟩ : ∃ n, bytesV W = n := ⟨_, rfl⟩
  have HN := Lib.hid hn
  unfold rowE at h ⊢
  rw [hn] at h ⊢
  clear hn
  by_cases h0 : n = 0
  · have h0b : (n == 0) = true := by simpa using h0
    have X := Lib.hid (show (1 : Int) = (if n = 0 then 1 else if (len : Int) < n then 6 else 0) by rw [if_pos h0])
    rw [← X.out]
    clear h
    go_enter Try.func61, Try.ntmps61
    go_wp2_with (first | (go_at_call 90; refine (refBytes_any _ _).mono ?_; rw [HN.out]; rintro e w1 ⟨rfl, rfl⟩))
    go_ret2
    exact ⟨rfl, rfl⟩
  · have h0b : (n == 0) = false := by simpa using h0
    by_cases h1 : (len : Int) < n
    · have X := Lib.hid (show (6 : Int) = (if n = 0 then 1 else if (len : Int) < n then 6 else 0) by rw [if_neg h0, if_pos h1])
      rw [← X.out]
      clear h
      go_enter Try.func61, Try.ntmps61
      go_wp2_with (first | (go_at_call 90; refine (refBytes_any _ _).mono ?_; rw [HN.out]; rintro e w1 ⟨rfl, rfl⟩))
      go_ret2
      exact ⟨rfl, rfl⟩
    · rw [if_neg h0, if_neg h1] at h
      exact absurd rfl h
theorem bitV_nat {zs : List Int} {i : Nat} (h : i < 8 * zs.length) : bitV zs i = (bitsOf zs).getD i 0 := by
  unfold bitV
  rw [if_neg (by omega), if_neg (by omega)]; rfl
theorem take_push (l : List Int) (k : Nat) (h : k < l.length) : (l.take k).map (Value.int .i64) ++ [.int .i64 (l.getD k 0)] = (l.take (k + 1)).map (Value.int .i64) := by
  rw [← take_next l k h]; simp
set_option maxRecDepth 100000 in
set_option maxHeartbeats 2000000 in
theorem refUnpack_yes (a : Option Addr) (len cap : Nat) (zs : List Int) (n W : Nat) (w : World) (h : Bs w a len cap zs) (hn : bytesV W = n) (h1 : 1 ≤ n) (h2 : n ≤ len) (hn2 : n ≤ 4096) (hW1 : W ≤ 8 * n) :
    Calls Try.prog 61 #[.slice a len cap, .int .i64 W] w (UnpR ((bitsOf zs).take W) 0 w) := by
  obtain ⟨i0, hi, hz0, hz1, hz2⟩ := info_parts Try.info_int
  have hl : zs.length = len := h.1.1
  have hl9 : len ≤ 9223372036854775807 := by have := h.2; omega
  have HN := Lib.hid hn; clear hn
  have h0b : ((n : Int) == 0) = false := by simp; omega
  have h3 : ¬ (len : Int) < n := by omega
  have h4 : ¬ len < n := by omega
  have W0 : (0 : Int) ≤ W := Int.natCast_nonneg _
  obtain ⟨xs, hxs⟩ : ∃ xs, (bitsOf zs).take W = xs := ⟨_, rfl⟩
  have hxl : xs.length = W := by rw [← hxs, List.length_take, bitsOf_len]; omega
  have hget : ∀ k, k < W → bitV zs k = xs.getD k 0 := fun k hk => by
    rw [bitV_nat (by omega), ← hxs, List.getD_eq_getElem?_getD, List.getD_eq_getElem?_getD, List.getElem?_take_of_lt hk]
  have HB := Lib.hid h; clear h
  have HG := Lib.hid hget; clear hget
  have HL := Lib.hid hxl; clear hxl
  rw [hxs]
  have HZ := Lib.hid hl; clear hl hxs
  go_enter Try.func61, Try.ntmps61
  go_wp2_with (first | (go_at_call 90; refine (refBytes_any _ _).mono ?_; rw [HN.out]; rintro e w1 ⟨rfl, rfl⟩))
  go_loopg [7, 8] W (fun g s7 s8 wr => ∃ k : Nat, k + g = W ∧ s8 = .int .i64 k ∧ wr.ownsRow w.heap.size 3 1 s7 k ((xs.take k).map (Value.int .i64)) ∧ Below w.heap.size w wr)
  case atStart => exact ⟨0, by omega, rfl, World.ownsRow_nil _ _ _ _, Below.refl _ _⟩
  case round =>
    obtain ⟨k, hk, rfl, hrow, hB⟩ := hrel
    cases gk with
    | zero =>
      obtain rfl : k = W := by omega
      obtain ⟨ad, cap', rfl, hown, hcap⟩ := ownK_row (by rw [List.length_take, HL.out]; omega) hrow
      have hrow' := Lib.hid hrow; clear hrow
      go_wp2
      go_ret2
      refine ⟨ad, cap', by rw [HL.out]; rfl, ?_, hB⟩
      have := hrow'.out
      rw [List.take_of_length_le (by rw [HL.out]; omega)] at this
      rw [HL.out]
      exact this
    | succ g =>
      have hlt : (k : Int) < W := by omega
      have k0 : (0 : Int) ≤ k := Int.natCast_nonneg _
      have hW := hB.size
      obtain ⟨x, hx⟩ : ∃ x, xs.getD k 0 = x := ⟨_, rfl⟩
      have hbx : bitV zs k = x := by rw [HG.out k (by omega)]; exact hx
      have hpu := take_push xs k (by rw [HL.out]; omega)
      rw [hx] at hpu
      have HP := Lib.hid hpu
      have HX := Lib.hid hbx
      clear hpu hbx hx
      have HR := Lib.hid hrow; clear hrow
      go_wp2_with (first
        | (go_at_call 91; refine (refBit_any _ _ _ zs _ (by omega) _ (HB.out.below hB)).mono ?_; rw [HX.out]; rintro e w5 ⟨rfl, rfl⟩)
        | (at_builtin; refine wpList_append_own _ rfl _ _ 69 rfl w.heap.size 3 i0 (.int .i64 0) 1 8 Try.underlying69 hi hz0 hz1 hz2 rfl (by decide) _ k _ rfl (HR.out.alloc _) ⟨wr.heap.size, 0, none⟩ 1 1 [.int .i64 x] rfl rfl (cell_one_new _ _ _) (by simp [Value.oneCell']) (by unfold maxLen; omega) (by omega) (by simp; omega) ?_; intro v' w4 hown' hgrow _; have HO := Lib.hid hown'; have hB4 := ((hB.alloc hW _).grown hgrow (by simp; omega) (fun j ej => (HR.out.lt j ej).1)); clear hown' hgrow))
      go_roundg g
      case measure => omega
      case rel =>
        have := HO.out
        rw [HP.out] at this
        exact ⟨k + 1, by omega, by go_num, this, hB4⟩
theorem refUnpack_any (a : Option Addr) (len cap : Nat) (zs : List Int) (W : Int) (w : World) (h : Bs w a len cap zs) :
    Calls Try.prog 61 #[.slice a len cap, .int .i64 W] w (UnpR (unpackV zs W) (rowE len W) w) := by
  have hl : zs.length = len := h.1.1
  by_cases h0 : rowE len W = 0
  · obtain ⟨N, P, rfl, hN, h1, h2, h3, h4, h5⟩ := bytesV_pos h0
    have := refUnpack_yes a len cap zs N P w h hN h1 h2 h3 h4
    unfold unpackV
    rw [hl, if_pos h0, h0]
    exact this
  · refine (refUnpack_no a len cap W (by have := h.2; omega) h0 w).mono ?_
    rintro e w' ⟨rfl, rfl⟩
    unfold unpackV
    rw [hl, if_neg h0]
    exact ⟨none, 0, rfl, World.ownsRow_nil _ _ _ _, Below.refl _ _⟩
end Bt
end Go.Proofs.Ytflpocnbmpdhiaa
