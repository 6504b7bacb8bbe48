/- Where something stood, by the code's From; a turn's name is not empty; over any memory. Condition: the place lies in what is laid. -/
import Derived.Test.YtlihkdbbcnmbmaaTurL
namespace Go.Proofs.Ytlihkdbbcnmbmaa
open Go.RowKit
set_option linter.unusedVariables false

set_option maxHeartbeats 2000000 in
theorem from_any (W H g x y : Nat) (hg : g < 8) (hW : W ≤ 65536) (hH : H ≤ 65536) (hx : x < Tu.sw g W H) (hy : y < Tu.sw g H W) (w : World) :
    Calls Try.prog 45 #[.int .i64 W, .int .i64 H, .int .i64 g, .int .i64 x, .int .i64 y] w fun e w' => e = .returned (.tuple #[.int .i64 (Tu.sx g W H x y), .int .i64 (Tu.sy g W H x y)]) ∧ Below w.heap.size w w' := by
  have HT := Lib.hid (show Tu.isT (g : Int) = true by rw [Tu.isT_iff]; omega)
  have hS := Lib.hid (fun W2 => source_any W H g hg hW hH W2)
  have HX := Lib.hid hx
  have HY := Lib.hid hy
  clear hg hW hH hx hy
  go_enter Try.func45, Try.ntmps45
  go_wp2_with (go_at_call 43; refine (turnMay_any _ _).mono ?_; rw [HT.out]; rintro e w1 ⟨rfl, rfl⟩)
  refine (hS.out _).mono ?_
  rintro e w4 ⟨v, rfl, hv, hb⟩
  obtain ⟨fn, lb, rfl, hen, hcall⟩ := hv
  have hC := Lib.hid (hcall w4 x y (Keep.refl _ _) HX.out HY.out)
  clear hcall
  go_wp2_with (go_at_fn fn; refine hC.out.mono ?_; rintro e w9 ⟨rfl, hb9⟩)
  go_ret2
  exact ⟨rfl, bel_step hb hb9⟩
theorem ne_of_beq {l : List UInt8} (h : (l == []) = false) : ¬ l = [] := fun k => by rw [k] at h; exact absurd h (by decide)
theorem name_ne (n : Int) (hn : Tu.isT n = true) (w : World) :
    Calls Try.prog 44 #[.int .i64 n] w fun e w' => ∃ s : ByteArray, e = .returned (.string s) ∧ ¬ s.toList = [] ∧ (s.toList == []) = false ∧ w = w' := by
  obtain ⟨k, hk, rfl⟩ := Tu.isT_nat hn
  rcases Tu.turn8 hk with rfl | rfl | rfl | rfl | rfl | rfl | rfl | rfl
  · exact (name_0 w).mono (fun _ _ ⟨h, h2⟩ => ⟨_, h, ne_of_beq (by kernel_rfl), by kernel_rfl, h2⟩)
  · exact (name_1 w).mono (fun _ _ ⟨h, h2⟩ => ⟨_, h, ne_of_beq (by kernel_rfl), by kernel_rfl, h2⟩)
  · exact (name_2 w).mono (fun _ _ ⟨h, h2⟩ => ⟨_, h, ne_of_beq (by kernel_rfl), by kernel_rfl, h2⟩)
  · exact (name_3 w).mono (fun _ _ ⟨h, h2⟩ => ⟨_, h, ne_of_beq (by kernel_rfl), by kernel_rfl, h2⟩)
  · exact (name_4 w).mono (fun _ _ ⟨h, h2⟩ => ⟨_, h, ne_of_beq (by kernel_rfl), by kernel_rfl, h2⟩)
  · exact (name_5 w).mono (fun _ _ ⟨h, h2⟩ => ⟨_, h, ne_of_beq (by kernel_rfl), by kernel_rfl, h2⟩)
  · exact (name_6 w).mono (fun _ _ ⟨h, h2⟩ => ⟨_, h, ne_of_beq (by kernel_rfl), by kernel_rfl, h2⟩)
  · exact (name_7 w).mono (fun _ _ ⟨h, h2⟩ => ⟨_, h, ne_of_beq (by kernel_rfl), by kernel_rfl, h2⟩)
namespace Tu
/-- number i of what is laid stood where it is told -/
theorem lay_get {g W H i : Nat} {L : List Int} (hg : g < 8) (hi : i < W * H) :
    i % sw g W H < sw g W H ∧ i / sw g W H < sw g H W ∧ (layL g W H L).getD i 0 = atL L W (sx g W H (i % sw g W H) (i / sw g W H)) (sy g W H (i % sw g W H) (i / sw g W H)) := by
  have hpq : sw g H W * sw g W H = W * H := by
    unfold sw; split
    · rfl
    · exact Nat.mul_comm _ _
  have hp0 : 0 < sw g W H := by
    rcases Nat.eq_zero_or_pos (sw g W H) with h | h
    · rw [h] at hpq; omega
    · exact h
  have h1 := Nat.mod_lt i hp0
  have h2 : i / sw g W H < sw g H W := Nat.div_lt_of_lt_mul (by rw [Nat.mul_comm, hpq]; exact hi)
  refine ⟨h1, h2, ?_⟩
  have := at_grid (f := fun x y => atL L W (sx g W H x y) (sy g W H x y)) h1 h2
  rw [← this]
  show _ = (grid (sw g W H) (sw g H W) _).getD (i / sw g W H * sw g W H + i % sw g W H) 0
  rw [Nat.mul_comm, Nat.div_add_mod]
  rfl
end Tu
end Go.Proofs.Ytlihkdbbcnmbmaa
