/- NumChecks: two numbers together, and one times another one, are the document's, or told as none: the walk of the law. No condition. -/
import Derived.Test.YthikjjcoejdjiaaNumR
import Derived.Test.YthikjjcoejdjiaaNumL
import Derived.Test.YthikjjcoejdjiaaIn
import Derived.Deep.QuietTactic
import Derived.BigQuiet
namespace Go.Proofs.Ythikjjcoejdjiaa
open Go.RowKit
set_option linter.unusedVariables false

theorem quiet_one {P : Program} {f : FuncId} {args : Array Value} {w : World} {n : Nat} {v : Value} (h : ∀ W : World, Calls P f args W fun e w' => e = .returned v ∧ W = w') :
    Calls P f args (w.drewN n) fun e w'' => e = .returned v ∧ ∃ m, w'' = w.drewN m := (h _).mono fun _ _ ⟨he, hw⟩ => ⟨he, n, hw.symm⟩
theorem quiet_more {P : Program} {f : FuncId} {args : Array Value} {w : World} {a n : Nat} {v : Value} (h : ∀ W : World, Calls P f args W fun e w' => e = .returned v ∧ W = w') :
    Calls P f args (w.drewN (a + n)) fun e w'' => e = .returned v ∧ ∃ m, w'' = w.drewN (a + m) := (h _).mono fun _ _ ⟨he, hw⟩ => ⟨he, n, hw.symm⟩
theorem ok_two {P : Program} {f : FuncId} {args : Array Value} {n : Int} (h : ∀ W : World, Calls P f args W (OkR n W)) (a : Int) (b : Bool) (e : Nu.okV n = (a, b)) :
    ∀ W : World, Calls P f args W fun e w' => e = .returned (.tuple #[.int .i64 a, .bool b]) ∧ W = w' := fun W => (h W).mono fun _ _ ⟨he, hw⟩ => ⟨by rw [he, e], hw⟩
theorem below_drewN {B : Nat} {a w : World} (h : Below B a w) (n : Nat) : Below B a (w.drewN n) := ⟨h.os, h.tape, h.output, h.size, h.block⟩

set_option maxRecDepth 100000 in
set_option maxHeartbeats 8000000 in
theorem numChecks_walk (a0 a1 : Int) (w : World) (w0 : (Lit.int .i64 a0).wf = true) (w1 : (Lit.int .i64 a1).wf = true) :
    Calls Try.prog 8 #[.int .i64 a0, .int .i64 a1] w fun e w' => e = .returned (.bool true) ∧ Below w.heap.size w w' := by
  have h0 := Lib.hid (wfI w0)
  have h1 := Lib.hid (wfI w1)
  clear w0 w1
  obtain ⟨k0, k1⟩ := Ar.around_lt a1 9 (by omega)
  obtain ⟨k, hk⟩ : ∃ k, Hid (Ar.around a1 9 = k) := ⟨_, rfl⟩
  rw [hk.out] at k0 k1
  go_enter Try.func8, Try.ntmps8
  go_wp2_with (go_at_call 15; refine (aroundOf a1 9 h1.out.1 h1.out.2 (by omega) (by omega) _).mono ?_; rw [hk.out]; rintro e w1 ⟨rfl, rfl⟩)
  have hxs : Hid (∀ x ∈ ([a0, a0, 9223372036854775807, -9223372036854775808, 3074457345618258602] : List Int), Nu.I x) := by
    intro x hx
    have := h0.out
    simp only [List.mem_cons, List.not_mem_nil, or_false] at hx
    unfold Nu.I
    rcases hx with rfl | rfl | rfl | rfl | rfl <;> omega
  have hys : Hid (∀ x ∈ ([a1, -9223372036854775808, a1, a1, k - 4] : List Int), Nu.I x) := by
    intro x hx
    have := h1.out
    simp only [List.mem_cons, List.not_mem_nil, or_false] at hx
    unfold Nu.I
    rcases hx with rfl | rfl | rfl | rfl | rfl <;> omega
  have hX : Hid (∀ i, i < 5 → ((w.alloc (.cells #[.int .i64 a0, .int .i64 a0, .int .i64 9223372036854775807, .int .i64 (-9223372036854775808), .int .i64 3074457345618258602] 3)).alloc (.cells #[.int .i64 a1, .int .i64 (-9223372036854775808), .int .i64 a1, .int .i64 a1, .int .i64 (k - 4)] 3)).cell? ⟨w.heap.size, i, none⟩ = some (.int .i64 (([a0, a0, 9223372036854775807, -9223372036854775808, 3074457345618258602] : List Int).getD i 0))) := by
    intro i hi
    obtain rfl | rfl | rfl | rfl | rfl : i = 0 ∨ i = 1 ∨ i = 2 ∨ i = 3 ∨ i = 4 := by omega
    all_goals simp [go_sem]
  have hY : Hid (∀ i, i < 5 → ((w.alloc (.cells #[.int .i64 a0, .int .i64 a0, .int .i64 9223372036854775807, .int .i64 (-9223372036854775808), .int .i64 3074457345618258602] 3)).alloc (.cells #[.int .i64 a1, .int .i64 (-9223372036854775808), .int .i64 a1, .int .i64 a1, .int .i64 (k - 4)] 3)).cell? ⟨w.heap.size + 1, i, none⟩ = some (.int .i64 (([a1, -9223372036854775808, a1, a1, k - 4] : List Int).getD i 0))) := by
    intro i hi
    obtain rfl | rfl | rfl | rfl | rfl : i = 0 ∨ i = 1 ∨ i = 2 ∨ i = 3 ∨ i = 4 := by omega
    all_goals simp [go_sem]
  have hB0 : Below w.heap.size w ((w.alloc (.cells #[.int .i64 a0, .int .i64 a0, .int .i64 9223372036854775807, .int .i64 (-9223372036854775808), .int .i64 3074457345618258602] 3)).alloc (.cells #[.int .i64 a1, .int .i64 (-9223372036854775808), .int .i64 a1, .int .i64 a1, .int .i64 (k - 4)] 3)) := ((Below.refl _ w).alloc (Nat.le_refl _) _).alloc (by simp) _
  generalize ([a0, a0, 9223372036854775807, -9223372036854775808, 3074457345618258602] : List Int) = xs at hX hxs
  generalize ([a1, -9223372036854775808, a1, a1, k - 4] : List Int) = ys at hY hys
  go_loopw [8] (fun u8 wr => ∃ i : Nat, i ≤ 5 ∧ u8 = .int .i64 i ∧ Below w.heap.size w wr ∧ Hid (∀ i, i < 5 → wr.cell? ⟨w.heap.size, i, none⟩ = some (.int .i64 (xs.getD i 0))) ∧ Hid (∀ i, i < 5 → wr.cell? ⟨w.heap.size + 1, i, none⟩ = some (.int .i64 (ys.getD i 0)))) (fun u8 _ => 5 - (intOf u8).toNat)
  case atStart => exact ⟨0, by omega, rfl, hB0, hX, hY⟩
  case round =>
    obtain ⟨i, hi, rfl, hB, HX, HY⟩ := hrel
    clear hX hY hB0
    by_cases hlt : i < 5
    · have cx := HX.out i hlt
      have cy := HY.out i hlt
      have ix : Hid (Nu.I (xs.getD i 0)) := by
        show Nu.I _
        rw [List.getD_eq_getElem?_getD]
        cases h : xs[i]? with
        | none => simp [Nu.I]
        | some v => exact hxs.out v (List.mem_of_getElem? h)
      have iy : Hid (Nu.I (ys.getD i 0)) := by
        show Nu.I _
        rw [List.getD_eq_getElem?_getD]
        cases h : ys[i]? with
        | none => simp [Nu.I]
        | some v => exact hys.out v (List.mem_of_getElem? h)
      obtain ⟨x, hx⟩ : ∃ x, Hid (xs.getD i 0 = x) := ⟨_, rfl⟩
      obtain ⟨y, hy⟩ : ∃ y, Hid (ys.getD i 0 = y) := ⟨_, rfl⟩
      rw [hx.out] at cx ix
      rw [hy.out] at cy iy
      obtain ⟨s, t, hst⟩ : ∃ s t, Hid (Nu.okV (x + y) = (s, t)) := ⟨_, _, rfl⟩
      obtain ⟨p, q, hpq⟩ : ∃ p q, Hid (Nu.okV (x * y) = (p, q)) := ⟨_, _, rfl⟩
      have A1 := Lib.hid (ok_two (fun W => add_any x y ix.out iy.out W) s t hst.out)
      have A2 := Lib.hid (ok_two (fun W => refAdd_any x y ix.out iy.out W) s t hst.out)
      have A3 := Lib.hid (ok_two (fun W => mul_any x y ix.out iy.out W) p q hpq.out)
      have A4 := Lib.hid (ok_two (fun W => refMul_any x y ix.out iy.out W) p q hpq.out)
      go_wp2
      go_quiet ((first
        | (go_at_call 24; first | exact quiet_one A1.out | exact quiet_more A1.out)
        | (go_at_call 25; first | exact quiet_one A2.out | exact quiet_more A2.out)
        | (go_at_call 26; first | exact quiet_one A3.out | exact quiet_more A3.out)
        | (go_at_call 27; first | exact quiet_one A4.out | exact quiet_more A4.out)))
      go_wp2
      go_quiet ((first
        | (go_at_call 24; first | exact quiet_one A1.out | exact quiet_more A1.out)
        | (go_at_call 25; first | exact quiet_one A2.out | exact quiet_more A2.out)
        | (go_at_call 26; first | exact quiet_one A3.out | exact quiet_more A3.out)
        | (go_at_call 27; first | exact quiet_one A4.out | exact quiet_more A4.out)))
      go_wp2
      go_quiet ((first
        | (go_at_call 24; first | exact quiet_one A1.out | exact quiet_more A1.out)
        | (go_at_call 25; first | exact quiet_one A2.out | exact quiet_more A2.out)
        | (go_at_call 26; first | exact quiet_one A3.out | exact quiet_more A3.out)
        | (go_at_call 27; first | exact quiet_one A4.out | exact quiet_more A4.out)))
      go_wp2
      go_quiet ((first
        | (go_at_call 24; first | exact quiet_one A1.out | exact quiet_more A1.out)
        | (go_at_call 25; first | exact quiet_one A2.out | exact quiet_more A2.out)
        | (go_at_call 26; first | exact quiet_one A3.out | exact quiet_more A3.out)
        | (go_at_call 27; first | exact quiet_one A4.out | exact quiet_more A4.out)))
      go_wp2
      go_roundw
      case rel => exact ⟨i + 1, by omega, by go_num, below_drewN hB _, HX, HY⟩
      case measure => simp [intOf]; omega
    · go_wp2_with (go_at_call 14; refine (lives_any _).mono ?_; rintro e w8 ⟨rfl, hb8⟩)
      go_ret
      exact ⟨rfl, bel_step hB hb8⟩
end Go.Proofs.Ythikjjcoejdjiaa
