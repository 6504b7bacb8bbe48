/- The bytes of a number by the document, over any memory. Condition: the number fits its kind. -/
import Derived.Test.YthikjjcoejdjiaaNumC
namespace Go.Proofs.Ythikjjcoejdjiaa
open Go.RowKit Go.Shelf
set_option linter.unusedVariables false

theorem Nu.mark_cons (d : Int) {l : List Int} (h : l ≠ []) : Nu.mark (d :: l) = (128 + d) :: Nu.mark l := by
  cases l with
  | nil => exact absurd rfl h
  | cons e ds => simp [Nu.mark, Int.add_comm]
theorem Nu.mark_dig {q : Int} (h : 128 ≤ q) : Nu.mark (Nu.dig 128 q) = (128 + q % 128) :: Nu.mark (Nu.dig 128 (q / 128)) := by
  rw [Nu.dig_more (by omega) h, Nu.mark_cons _ (Nu.dig_ne _ _)]

set_option maxRecDepth 100000 in
theorem refPut_no (n : Int) (hn : Nu.I n) (h : Nu.putOk n = false) (w : World) : Calls Try.prog 21 #[.int .i64 n] w fun e w' => e = .returned (.tuple #[.slice none 0 0, .int .i64 1]) ∧ w = w' := by
  have h' : n < 0 ∨ 4611686018427387903 < n := by simp [Nu.putOk] at h; omega
  clear h
  rcases h' with h | h
  · go_enter Try.func21, Try.ntmps21
    go_wp2
    go_ret2
    exact ⟨rfl, rfl⟩
  · have h0 : ¬ n < 0 := by omega
    go_enter Try.func21, Try.ntmps21
    go_wp2
    go_ret2
    exact ⟨rfl, rfl⟩

set_option maxRecDepth 100000 in
set_option maxHeartbeats 2000000 in
theorem refPut_yes (n : Int) (hn : Nu.I n) (h : Nu.putOk n = true) (w : World) : Calls Try.prog 21 #[.int .i64 n] w (PutR n w) := by
  have X := Lib.hid h
  obtain ⟨h0, h1⟩ : 0 ≤ n ∧ n ≤ 4611686018427387903 := by simpa [Nu.putOk] using h
  clear h
  have hlen : (Nu.mark (Nu.dig 128 n)).length ≤ 65 := by rw [Nu.mark_len]; exact Nu.dig_len64 (b := 128) (n := n) (by omega) (by omega)
  have HV := Lib.hid (show (Nu.putV n) = Nu.mark (Nu.dig 128 n) by unfold Nu.putV; rw [if_pos X.out])
  obtain ⟨i0, hi, hz0, hz1, hz2⟩ := info_parts Try.info_u8
  go_enter Try.func21, Try.ntmps21
  go_wp2
  go_loopw [0, 4] (fun u0 u4 wr => ∃ (pre : List Int) (q : Int), 0 ≤ q ∧ q ≤ 4611686018427387903 ∧ u0 = .int .i64 q ∧ Nu.mark (Nu.dig 128 n) = pre ++ Nu.mark (Nu.dig 128 q) ∧ wr.ownsRow w.heap.size 5 1 u4 pre.length (pre.map (Value.int .u8)) ∧ Below w.heap.size w wr)
    (fun u0 _ _ => (intOf u0).toNat)
  case atStart => exact ⟨[], n, h0, h1, rfl, rfl, World.ownsRow_nil _ _ _ _, Below.refl _ _⟩
  case round =>
    obtain ⟨pre, q, q0, q1, rfl, hx, hrow, hB⟩ := hrel
    have hW := hB.size
    by_cases hle : 128 ≤ q
    · have hx2 := hx
      rw [Nu.mark_dig hle] at hx2
      have hp : pre.length ≤ 64 := by have := congrArg List.length hx2; simp at this; omega
      have HX := Lib.hid hx2
      clear hx hx2
      have m0 : 0 ≤ q % 128 := by omega
      have m1 : q % 128 < 128 := by omega
      go_wp2_with (at_builtin; refine wpList_append_own _ rfl _ _ 33 rfl w.heap.size 5 i0 (.int .u8 0) 1 1 Try.underlying33 hi hz0 hz1 hz2 rfl (by decide) _ _ _ rfl (hrow.alloc _) ⟨wr.heap.size, 0, none⟩ 1 1 [.int .u8 (128 + q % 128)] rfl rfl (cell_one_new _ _ _) (by simp [Value.oneCell']) (by unfold maxLen; omega) (by omega) (by simp; omega) ?_; intro v' w1 hown' hgrow _)
      go_roundw
      case rel =>
        refine ⟨pre ++ [128 + q % 128], q / 128, by omega, by omega, rfl, by rw [HX.out]; simp, by simpa using hown', ?_⟩
        exact (hB.alloc hW _).grown hgrow (by simp; omega) (fun j ej => (hrow.lt j ej).1)
      case measure => simp [intOf]; omega
    · have hx2 : Nu.mark (Nu.dig 128 n) = pre ++ [q] := by rw [hx, Nu.dig_last (by omega), show q % 128 = q by omega]; rfl
      have hp : pre.length ≤ 64 := by have := congrArg List.length hx2; simp at this; omega
      have HX := Lib.hid hx2
      clear hx hx2
      go_wp2_with (at_builtin; refine wpList_append_own _ rfl _ _ 33 rfl w.heap.size 5 i0 (.int .u8 0) 1 1 Try.underlying33 hi hz0 hz1 hz2 rfl (by decide) _ _ _ rfl (hrow.alloc _) ⟨wr.heap.size, 0, none⟩ 1 1 [.int .u8 q] rfl rfl (cell_one_new _ _ _) (by simp [Value.oneCell']) (by unfold maxLen; omega) (by omega) (by simp; omega) ?_; intro v' w1 hown' hgrow _)
      go_ret2
      obtain ⟨ad, cap, hv, ho, hcap⟩ := ownK_row (zs := Nu.putV n) (by rw [HV.out, HX.out]; simp) (show w1.ownsRow _ _ 1 _ (pre.length + 1) _ by rw [HV.out, HX.out]; simpa using hown')
      refine ⟨ad, cap, ?_, ho, (hB.alloc hW _).grown hgrow (by simp; omega) (fun j ej => (hrow.lt j ej).1), by rw [HV.out, HX.out]; simpa using hcap⟩
      rw [if_pos X.out, HV.out, HX.out]
      simp [← hv]
end Go.Proofs.Ythikjjcoejdjiaa
