/- A row from its end on, over any memory, of bits. Condition: numbers fit their kinds. -/
import Derived.Test.YtjjpnipcpnkakaaBtL
import Derived.Test.YtjjpnipcpnkakaaRevI
namespace Go.Proofs.Ytjjpnipcpnkakaa
open Go.RowKit Go.Shelf
set_option linter.unusedVariables false
namespace Bt
theorem owns_caps {A : World} {base n cap : Nat} {e : TypeId} {ad : Option Addr} {xs : List Value} (h : A.ownsRow base e 1 (.slice ad n cap) n xs) : n ≤ cap ∧ cap ≤ 9223372036854775807 := by
  rcases h.2 with ⟨h2, h3⟩ | ⟨g', cap', cur, h2, hg, hc, h4, h5, hs, _⟩
  · cases h2; omega
  · cases h2; unfold maxLen at h5; omega
theorem unpackV_len {zs : List Int} {W : Int} (h : rowE zs.length W = 0) : ∃ P : Nat, W = P ∧ (unpackV zs W).length = P ∧ 1 ≤ P ∧ P ≤ 4096 := by
  obtain ⟨N, P, rfl, hN, h1, h2, h3, h4, h5⟩ := bytesV_pos h
  refine ⟨P, rfl, ?_, ?_, ?_⟩
  · unfold unpackV; rw [if_pos h, List.length_take, bitsOf_len]; omega
  · omega
  · unfold bytesV at hN
    by_cases hq : (P : Int) < 1 ∨ 4096 < (P : Int)
    · rw [if_pos hq] at hN; omega
    · omega
theorem unpackV_01 (zs : List Int) (W : Int) : Ones (unpackV zs W) := by
  unfold unpackV
  split
  · exact fun x hx => bitsOf_01 zs x (List.mem_of_mem_take hx)
  · intro x hx; simp at hx
theorem ones_rev {l : List Int} (h : Ones l) : Ones l.reverse := fun x hx => h x (List.mem_reverse.1 hx)
theorem turned_no (a : Option Addr) (len cap : Nat) (zs : List Int) (W : Int) (w : World) (h : Bs w a len cap zs) (h0 : rowE len W ≠ 0) :
    Calls Try.prog 63 #[.slice a len cap, .int .i64 W] w fun e w' => e = .returned (.tuple #[.slice none 0 0, .int .i64 (rowE len W)]) ∧ Below w.heap.size w w' := by
  have hk : (rowE len W != 0) = true := by simpa using h0
  have HB := Lib.hid h; clear h
  obtain ⟨r, hr⟩ : ∃ r, rowE len W = r := ⟨_, rfl⟩
  have HR := Lib.hid hr
  rw [hr] at hk ⊢
  clear hr h0
  go_enter Try.func63, Try.ntmps63
  go_wp2_with (first | (go_at_call 45; refine (unpack_any _ _ _ zs _ _ HB.out).mono ?_; rw [HR.out]; rintro e w1 ⟨ad, c1, rfl, hrow, hb⟩; clear hrow))
  go_ret2
  exact ⟨rfl, hb⟩
set_option maxHeartbeats 1000000 in
theorem turned_yes (a : Option Addr) (len cap : Nat) (zs : List Int) (W : Int) (w : World) (h : Bs w a len cap zs) (h0 : rowE len W = 0) :
    Calls Try.prog 63 #[.slice a len cap, .int .i64 W] w (PackR (unpackV zs W).reverse w) := by
  obtain ⟨P, -, hP, h1, h9⟩ := unpackV_len (zs := zs) (W := W) (by rw [h.1.1]; exact h0)
  have ho := ones_rev (unpackV_01 zs W)
  have hu := unpack_any a len cap zs W w h
  clear h
  obtain ⟨xs, hxs⟩ : ∃ xs, unpackV zs W = xs := ⟨_, rfl⟩
  rw [hxs] at hP ho ⊢
  rw [h0, hxs] at hu
  have HU := Lib.hid (show Calls Try.prog 45 #[.slice a len cap, .int .i64 W] w fun e w' => ∃ ad c, e = .returned (.tuple #[.slice ad P c, .int .i64 0]) ∧ w'.ownsRow w.heap.size 3 1 (.slice ad P c) P (xs.map (Value.int .i64)) ∧ Below w.heap.size w w' from hu.mono fun e w' ⟨ad, c, h1, h2, h3⟩ => ⟨ad, c, by rw [h1, hP], by rw [hP] at h2; exact h2, h3⟩)
  have HP := Lib.hid hP
  have HV := Lib.hid (fun v w1 (hr : World.ownsRow w1 w.heap.size 3 1 v P (xs.map (Value.int .i64))) => Ri.reverse_own w.heap.size v P xs w1 hr (by omega) (by omega))
  clear hxs hP hu h0
  go_enter Try.func63, Try.ntmps63
  go_wp2_with (first
    | (go_at_call 45; ((with_reducible refine HU.out.mono ?_)); rintro e w1 ⟨ad, c1, rfl, hrow, hb⟩; have HR := Lib.hid hrow; clear hrow)
    | (go_at_call 93; ((with_reducible refine (HV.out _ _ HR.out).mono ?_)); rintro e w3 ⟨rfl, hr3, hB3, hk3⟩; have hb3 := hB3 w.heap.size w hb (Nat.le_refl _); have hcap := owns_caps hr3; have HS := Lib.hid (show SlK .i64 w3 ad P xs.reverse from (by obtain ⟨ad', cap', e, hown, _⟩ := ownK_row (zs := xs.reverse) (n := P) (by rw [List.length_reverse]; exact HP.out) hr3; cases e; have := hown.sl; rw [List.length_reverse, HP.out] at this; exact this)); clear hk3 hB3 hr3)
    | (go_at_call 55; refine (pack_any _ _ _ xs.reverse _ hcap.1 hcap.2 HS.out).mono ?_; rintro e w4 ⟨ad4, cap4, rfl, hr4, hb4⟩; have HR4 := Lib.hid hr4; clear hr4))
  go_ret2
  exact ⟨ad4, cap4, rfl, ownsRow_base HR4.out hb3.size, hb3.trans (hb4.mono hb3.size)⟩
end Bt
end Go.Proofs.Ytjjpnipcpnkakaa
