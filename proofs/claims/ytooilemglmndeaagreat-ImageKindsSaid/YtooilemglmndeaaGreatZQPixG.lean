/- What Good of the document's own answer comes to: a pixel of a format, made of any numbers, over any memory. Condition: the format may be; numbers fit their kinds. -/
import Derived.Test.YtooilemglmndeaaGreatZgAC
import Derived.Test.YtooilemglmndeaaGreatZQPixC
namespace Go.Proofs.YtooilemglmndeaaGreat
open Go.RowKit
set_option linter.unusedVariables false
attribute [local go_sem ↓] Go.wp_at_zero Go.wp_at_succ
namespace Pq
set_option maxHeartbeats 2000000 in
theorem good33 (b o cap n : Nat) (x y z m : Int) (hn : 3 ≤ n) (hn' : n ≤ 9223372036854775807) (hx : Px.I x) (hy : Px.I y) (hz : Px.I z) (m0 : 0 ≤ m) (m1 : m ≤ 65535) (w : World) (c0 : w.cell? ⟨b, o, none⟩ = some (.int .i64 x)) (c1 : w.cell? ⟨b, o + 1, none⟩ = some (.int .i64 y)) (c2 : w.cell? ⟨b, o + 2, none⟩ = some (.int .i64 z)) :
    Calls Tryz.prog 56 #[.slice (some ⟨b, o, none⟩) n cap, .agg #[.int .i64 3, .int .i64 m]] w fun e w' => e = .returned (.int .u64 (Px.packV [Px.aroundV x (m + 1), Px.aroundV y (m + 1), Px.aroundV z (m + 1)]).1) ∧ Below w.heap.size w w' := by
  have hmk : ∀ w, (Instr.makeSlice 25 (.int .i64 3) (.int .i64 3)).run Tryz.prog w = .ok (.slice (some ⟨w.heap.size, 0, none⟩) 3 3) (w.alloc (.cells #[.int .i64 0, .int .i64 0, .int .i64 0] 3)) := fun _ => by kernel_rfl
  have hwr : IntKind.i64.wrap (m + 1) = m + 1 := IntWalk.i64_in _ (by omega)
  have n0 : (0 : Int) < n := by omega
  have n1 : (1 : Int) < n := by omega
  have n2 : (2 : Int) < n := by omega
  have hb : b < w.heap.size := block_lt_of_cell c0
  obtain ⟨x', hx'⟩ : ∃ v, Px.aroundV x (m + 1) = v := ⟨_, rfl⟩
  have HX := Lib.hid hx'; clear hx'
  obtain ⟨y', hy'⟩ : ∃ v, Px.aroundV y (m + 1) = v := ⟨_, rfl⟩
  have HY := Lib.hid hy'; clear hy'
  obtain ⟨z', hz'⟩ : ∃ v, Px.aroundV z (m + 1) = v := ⟨_, rfl⟩
  have HZ := Lib.hid hz'; clear hz'
  rw [HX.out, HY.out, HZ.out]
  go_enter Tryz.func56, Tryz.ntmps56
  go_wp2
  refine wp_loop_rounds 4 ?_
  rw [rounds_succ]
  go_wp2
  go_region_held3 (fun w' => w'.cell? ⟨b, o, none⟩ = some (.int .i64 x) ∧ w'.cell? ⟨b, o + 1, none⟩ = some (.int .i64 y) ∧ w'.cell? ⟨b, o + 2, none⟩ = some (.int .i64 z) ∧ w'.cell? ⟨w.heap.size, 1, none⟩ = some (.int .i64 m)) (go_keep)
    (first | (go_at_call 17; refine (around_any _ _ hx (by omega) (by omega) _).mono ?_; rw [HX.out]; rintro e w9 ⟨rfl, rfl⟩))
  go_wp2
  rw [rounds_succ]
  go_wp2
  go_region_held3 (fun w' => w'.cell? ⟨b, o, none⟩ = some (.int .i64 x) ∧ w'.cell? ⟨b, o + 1, none⟩ = some (.int .i64 y) ∧ w'.cell? ⟨b, o + 2, none⟩ = some (.int .i64 z) ∧ w'.cell? ⟨w.heap.size, 1, none⟩ = some (.int .i64 m)) (go_keep)
    (first | (go_at_call 17; refine (around_any _ _ hy (by omega) (by omega) _).mono ?_; rw [HY.out]; rintro e w9 ⟨rfl, rfl⟩))
  go_wp2
  rw [rounds_succ]
  go_wp2
  go_region_held3 (fun w' => w'.cell? ⟨b, o, none⟩ = some (.int .i64 x) ∧ w'.cell? ⟨b, o + 1, none⟩ = some (.int .i64 y) ∧ w'.cell? ⟨b, o + 2, none⟩ = some (.int .i64 z) ∧ w'.cell? ⟨w.heap.size, 1, none⟩ = some (.int .i64 m)) (go_keep)
    (first | (go_at_call 17; refine (around_any _ _ hz (by omega) (by omega) _).mono ?_; rw [HZ.out]; rintro e w9 ⟨rfl, rfl⟩))
  go_wp2
  rw [rounds_succ]
  go_wp2_with (go_at_call 82; refine (refPack_any _ _ _ [x', y', z'] _ (by omega) ?_).mono ?_; (exact sl3 (by simp [go_sem]) (by simp [go_sem]) (by simp [go_sem])); rintro e w9 ⟨rfl, rfl⟩)
  go_ret
  exact ⟨rfl, by go_grown⟩

set_option maxHeartbeats 2000000 in
theorem good32 (b o cap : Nat) (x y m : Int) (hx : Px.I x) (hy : Px.I y) (m0 : 0 ≤ m) (m1 : m ≤ 65535) (w : World) (c0 : w.cell? ⟨b, o, none⟩ = some (.int .i64 x)) (c1 : w.cell? ⟨b, o + 1, none⟩ = some (.int .i64 y)) :
    Calls Tryz.prog 56 #[.slice (some ⟨b, o, none⟩) 2 cap, .agg #[.int .i64 3, .int .i64 m]] w fun e w' => e = .returned (.int .u64 (Px.packV [Px.aroundV x (m + 1), Px.aroundV y (m + 1), 0]).1) ∧ Below w.heap.size w w' := by
  have hmk : ∀ w, (Instr.makeSlice 25 (.int .i64 3) (.int .i64 3)).run Tryz.prog w = .ok (.slice (some ⟨w.heap.size, 0, none⟩) 3 3) (w.alloc (.cells #[.int .i64 0, .int .i64 0, .int .i64 0] 3)) := fun _ => by kernel_rfl
  have hwr : IntKind.i64.wrap (m + 1) = m + 1 := IntWalk.i64_in _ (by omega)
  have hb : b < w.heap.size := block_lt_of_cell c0
  obtain ⟨x', hx'⟩ : ∃ v, Px.aroundV x (m + 1) = v := ⟨_, rfl⟩
  have HX := Lib.hid hx'; clear hx'
  obtain ⟨y', hy'⟩ : ∃ v, Px.aroundV y (m + 1) = v := ⟨_, rfl⟩
  have HY := Lib.hid hy'; clear hy'
  rw [HX.out, HY.out]
  go_enter Tryz.func56, Tryz.ntmps56
  go_wp2
  refine wp_loop_rounds 3 ?_
  rw [rounds_succ]
  go_wp2
  go_region_held3 (fun w' => w'.cell? ⟨b, o, none⟩ = some (.int .i64 x) ∧ w'.cell? ⟨b, o + 1, none⟩ = some (.int .i64 y) ∧ w'.cell? ⟨w.heap.size, 1, none⟩ = some (.int .i64 m)) (go_keep)
    (first | (go_at_call 17; refine (around_any _ _ hx (by omega) (by omega) _).mono ?_; rw [HX.out]; rintro e w9 ⟨rfl, rfl⟩))
  go_wp2
  rw [rounds_succ]
  go_wp2
  go_region_held3 (fun w' => w'.cell? ⟨b, o, none⟩ = some (.int .i64 x) ∧ w'.cell? ⟨b, o + 1, none⟩ = some (.int .i64 y) ∧ w'.cell? ⟨w.heap.size, 1, none⟩ = some (.int .i64 m)) (go_keep)
    (first | (go_at_call 17; refine (around_any _ _ hy (by omega) (by omega) _).mono ?_; rw [HY.out]; rintro e w9 ⟨rfl, rfl⟩))
  go_wp2
  rw [rounds_succ]
  go_wp2_with (go_at_call 82; refine (refPack_any _ _ _ [x', y', 0] _ (by omega) ?_).mono ?_; (exact sl3 (by simp [go_sem]) (by simp [go_sem]) (by simp [go_sem])); rintro e w9 ⟨rfl, rfl⟩)
  go_ret
  exact ⟨rfl, by go_grown⟩

set_option maxHeartbeats 2000000 in
theorem good31 (b o cap : Nat) (x m : Int) (hx : Px.I x) (m0 : 0 ≤ m) (m1 : m ≤ 65535) (w : World) (c0 : w.cell? ⟨b, o, none⟩ = some (.int .i64 x)) :
    Calls Tryz.prog 56 #[.slice (some ⟨b, o, none⟩) 1 cap, .agg #[.int .i64 3, .int .i64 m]] w fun e w' => e = .returned (.int .u64 (Px.packV [Px.aroundV x (m + 1), 0, 0]).1) ∧ Below w.heap.size w w' := by
  have hmk : ∀ w, (Instr.makeSlice 25 (.int .i64 3) (.int .i64 3)).run Tryz.prog w = .ok (.slice (some ⟨w.heap.size, 0, none⟩) 3 3) (w.alloc (.cells #[.int .i64 0, .int .i64 0, .int .i64 0] 3)) := fun _ => by kernel_rfl
  have hwr : IntKind.i64.wrap (m + 1) = m + 1 := IntWalk.i64_in _ (by omega)
  have hb : b < w.heap.size := block_lt_of_cell c0
  obtain ⟨x', hx'⟩ : ∃ v, Px.aroundV x (m + 1) = v := ⟨_, rfl⟩
  have HX := Lib.hid hx'; clear hx'
  rw [HX.out]
  go_enter Tryz.func56, Tryz.ntmps56
  go_wp2
  refine wp_loop_rounds 2 ?_
  rw [rounds_succ]
  go_wp2
  go_region_held3 (fun w' => w'.cell? ⟨b, o, none⟩ = some (.int .i64 x) ∧ w'.cell? ⟨w.heap.size, 1, none⟩ = some (.int .i64 m)) (go_keep)
    (first | (go_at_call 17; refine (around_any _ _ hx (by omega) (by omega) _).mono ?_; rw [HX.out]; rintro e w9 ⟨rfl, rfl⟩))
  go_wp2
  rw [rounds_succ]
  go_wp2_with (go_at_call 82; refine (refPack_any _ _ _ [x', 0, 0] _ (by omega) ?_).mono ?_; (exact sl3 (by simp [go_sem]) (by simp [go_sem]) (by simp [go_sem])); rintro e w9 ⟨rfl, rfl⟩)
  go_ret
  exact ⟨rfl, by go_grown⟩

set_option maxHeartbeats 2000000 in
theorem good30 (ao : Option Addr) (cap : Nat) (m : Int)  (m0 : 0 ≤ m) (m1 : m ≤ 65535) (w : World)  :
    Calls Tryz.prog 56 #[.slice ao 0 cap, .agg #[.int .i64 3, .int .i64 m]] w fun e w' => e = .returned (.int .u64 (Px.packV [0, 0, 0]).1) ∧ Below w.heap.size w w' := by
  have hmk : ∀ w, (Instr.makeSlice 25 (.int .i64 3) (.int .i64 3)).run Tryz.prog w = .ok (.slice (some ⟨w.heap.size, 0, none⟩) 3 3) (w.alloc (.cells #[.int .i64 0, .int .i64 0, .int .i64 0] 3)) := fun _ => by kernel_rfl
  have hwr : IntKind.i64.wrap (m + 1) = m + 1 := IntWalk.i64_in _ (by omega)
  go_enter Tryz.func56, Tryz.ntmps56
  go_wp2
  refine wp_loop_rounds 1 ?_
  rw [rounds_succ]
  go_wp2_with (go_at_call 82; refine (refPack_any _ _ _ [0, 0, 0] _ (by omega) ?_).mono ?_; (exact sl3 (by simp [go_sem]) (by simp [go_sem]) (by simp [go_sem])); rintro e w9 ⟨rfl, rfl⟩)
  go_ret
  exact ⟨rfl, by go_grown⟩

set_option maxHeartbeats 2000000 in
theorem good11 (b o cap n : Nat) (x m : Int) (hn : 1 ≤ n) (hn' : n ≤ 9223372036854775807) (hx : Px.I x) (m0 : 0 ≤ m) (m1 : m ≤ 65535) (w : World) (c0 : w.cell? ⟨b, o, none⟩ = some (.int .i64 x)) :
    Calls Tryz.prog 56 #[.slice (some ⟨b, o, none⟩) n cap, .agg #[.int .i64 1, .int .i64 m]] w fun e w' => e = .returned (.int .u64 (Px.packV [Px.aroundV x (m + 1)]).1) ∧ Below w.heap.size w w' := by
  have hmk : ∀ w, (Instr.makeSlice 25 (.int .i64 1) (.int .i64 1)).run Tryz.prog w = .ok (.slice (some ⟨w.heap.size, 0, none⟩) 1 1) (w.alloc (.cells #[.int .i64 0] 3)) := fun _ => by kernel_rfl
  have hwr : IntKind.i64.wrap (m + 1) = m + 1 := IntWalk.i64_in _ (by omega)
  have n0 : (0 : Int) < n := by omega
  have hb : b < w.heap.size := block_lt_of_cell c0
  obtain ⟨x', hx'⟩ : ∃ v, Px.aroundV x (m + 1) = v := ⟨_, rfl⟩
  have HX := Lib.hid hx'; clear hx'
  rw [HX.out]
  go_enter Tryz.func56, Tryz.ntmps56
  go_wp2
  refine wp_loop_rounds 2 ?_
  rw [rounds_succ]
  go_wp2
  go_region_held3 (fun w' => w'.cell? ⟨b, o, none⟩ = some (.int .i64 x) ∧ w'.cell? ⟨w.heap.size, 1, none⟩ = some (.int .i64 m)) (go_keep)
    (first | (go_at_call 17; refine (around_any _ _ hx (by omega) (by omega) _).mono ?_; rw [HX.out]; rintro e w9 ⟨rfl, rfl⟩))
  go_wp2
  rw [rounds_succ]
  go_wp2_with (go_at_call 82; refine (refPack_any _ _ _ [x'] _ (by omega) ?_).mono ?_; (exact sl1 (by simp [go_sem])); rintro e w9 ⟨rfl, rfl⟩)
  go_ret
  exact ⟨rfl, by go_grown⟩

set_option maxHeartbeats 2000000 in
theorem good10 (ao : Option Addr) (cap : Nat) (m : Int)  (m0 : 0 ≤ m) (m1 : m ≤ 65535) (w : World)  :
    Calls Tryz.prog 56 #[.slice ao 0 cap, .agg #[.int .i64 1, .int .i64 m]] w fun e w' => e = .returned (.int .u64 (Px.packV [0]).1) ∧ Below w.heap.size w w' := by
  have hmk : ∀ w, (Instr.makeSlice 25 (.int .i64 1) (.int .i64 1)).run Tryz.prog w = .ok (.slice (some ⟨w.heap.size, 0, none⟩) 1 1) (w.alloc (.cells #[.int .i64 0] 3)) := fun _ => by kernel_rfl
  have hwr : IntKind.i64.wrap (m + 1) = m + 1 := IntWalk.i64_in _ (by omega)
  go_enter Tryz.func56, Tryz.ntmps56
  go_wp2
  refine wp_loop_rounds 1 ?_
  rw [rounds_succ]
  go_wp2_with (go_at_call 82; refine (refPack_any _ _ _ [0] _ (by omega) ?_).mono ?_; (exact sl1 (by simp [go_sem])); rintro e w9 ⟨rfl, rfl⟩)
  go_ret
  exact ⟨rfl, by go_grown⟩

end Pq
end Go.Proofs.YtooilemglmndeaaGreat
