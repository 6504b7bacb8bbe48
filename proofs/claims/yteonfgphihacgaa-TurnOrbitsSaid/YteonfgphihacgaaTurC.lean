/- What turn's source hands back: the function of each turn, over any memory. Condition: what is laid is as wide and high as a matrix may be. -/
import Derived.Test.YteonfgphihacgaaTurB
namespace Go.Proofs.Yteonfgphihacgaa
open Go.RowKit
set_option linter.unusedVariables false

theorem index4_0 (f0 f1 f2 f3 : Value) (w : World) : (Instr.index 134 (.agg #[f0, f1, f2, f3]) (.int .i64 0)).run Try.prog w = .ok f0 w := by kernel_rfl
theorem index4_1 (f0 f1 f2 f3 : Value) (w : World) : (Instr.index 134 (.agg #[f0, f1, f2, f3]) (.int .i64 1)).run Try.prog w = .ok f1 w := by kernel_rfl
theorem index4_2 (f0 f1 f2 f3 : Value) (w : World) : (Instr.index 134 (.agg #[f0, f1, f2, f3]) (.int .i64 2)).run Try.prog w = .ok f2 w := by kernel_rfl
theorem index4_3 (f0 f1 f2 f3 : Value) (w : World) : (Instr.index 134 (.agg #[f0, f1, f2, f3]) (.int .i64 3)).run Try.prog w = .ok f3 w := by kernel_rfl
theorem give0 (s : Nat) (w : World) (W H : Nat) : Src s w (.func (.func 107) #[] #[]) W H 0 :=
  ⟨_, _, rfl, enters_of Try.func107 (by kernel_rfl) rfl, fun w2 x y hk hx hy => (src0_any x y w2).mono (fun _ _ h => h)⟩
theorem give1 (s : Nat) (w : World) (W H : Nat) (hH : H ≤ 65536) (c : Nat) (hcb : s ≤ c) (hcs : c < w.heap.size) (hc : w.cell? ⟨c, 0, none⟩ = some (.int .i64 H)) : Src s w (.func (.func 108) #[] #[.pointer (some ⟨c, 0, none⟩)]) W H 1 :=
  ⟨_, _, rfl, enters_of Try.func108 (by kernel_rfl) rfl, fun w2 x y hk hx hy => by
    have hx' : x < H := hx
    exact (src1_any x y c H ((H - 1 - x : Nat) : Int) (by omega) (by omega) (by omega) (by omega) w2 ((hk.cell hcb hcs).trans hc)).mono (fun _ _ h => h)⟩
theorem give2 (s : Nat) (w : World) (W H : Nat) (hW : W ≤ 65536) (hH : H ≤ 65536) (b c : Nat) (hbb : s ≤ b) (hbs : b < w.heap.size) (hb : w.cell? ⟨b, 0, none⟩ = some (.int .i64 W)) (hcb : s ≤ c) (hcs : c < w.heap.size) (hc : w.cell? ⟨c, 0, none⟩ = some (.int .i64 H)) : Src s w (.func (.func 109) #[] #[.pointer (some ⟨b, 0, none⟩), .pointer (some ⟨c, 0, none⟩)]) W H 2 :=
  ⟨_, _, rfl, enters_of Try.func109 (by kernel_rfl) rfl, fun w2 x y hk hx hy => by
    have hx' : x < W := hx
    have hy' : y < H := hy
    exact (src2_any x y b c W H ((W - 1 - x : Nat) : Int) ((H - 1 - y : Nat) : Int) (by omega) (by omega) (by omega) (by omega) (by omega) (by omega) (by omega) (by omega) w2 ((hk.cell hbb hbs).trans hb) ((hk.cell hcb hcs).trans hc)).mono (fun _ _ h => h)⟩
theorem give3 (s : Nat) (w : World) (W H : Nat) (hW : W ≤ 65536) (b : Nat) (hbb : s ≤ b) (hbs : b < w.heap.size) (hb : w.cell? ⟨b, 0, none⟩ = some (.int .i64 W)) : Src s w (.func (.func 110) #[] #[.pointer (some ⟨b, 0, none⟩)]) W H 3 :=
  ⟨_, _, rfl, enters_of Try.func110 (by kernel_rfl) rfl, fun w2 x y hk hx hy => by
    have hy' : y < W := hy
    exact (src3_any x y b W ((W - 1 - y : Nat) : Int) (by omega) (by omega) (by omega) (by omega) w2 ((hk.cell hbb hbs).trans hb)).mono (fun _ _ h => h)⟩
theorem give_m (s : Nat) (w : World) (W H r : Nat) (hr : r < 4) (hW : W ≤ 65536) (v : Value) (h : Src s w v W H r) (b c : Nat) (hbb : s ≤ b) (hbs : b < w.heap.size) (hb : w.cell? ⟨b, 0, none⟩ = some v) (hcb : s ≤ c) (hcs : c < w.heap.size) (hc : w.cell? ⟨c, 0, none⟩ = some (.int .i64 W)) :
    Src s w (.func (.func 112) #[] #[.pointer (some ⟨b, 0, none⟩), .pointer (some ⟨c, 0, none⟩)]) W H (4 + r) := by
  obtain ⟨n, lb, rfl, hn, hcall⟩ := h
  refine ⟨_, _, rfl, enters_of Try.func112 (by kernel_rfl) rfl, fun w2 x y hk hx hy => ?_⟩
  have e1 : ∀ p q, Tu.sw (4 + r) p q = Tu.sw r p q := fun p q => by unfold Tu.sw; rw [show (4 + r) % 2 = r % 2 by omega]
  rw [e1] at hx hy
  have hs := Tu.src_in (by omega : r < 8) hx hy
  have e2 : Tu.sx (4 + r) W H x y = W - 1 - Tu.sx r W H x y := by unfold Tu.sx; rw [if_neg (by omega), if_pos hr, show (4 + r) % 4 = r % 4 by omega]
  have e3 : Tu.sy (4 + r) W H x y = Tu.sy r W H x y := by unfold Tu.sy; rw [show (4 + r) % 4 = r % 4 by omega]
  rw [e2, e3]
  exact (srcM_any n lb x y b c W (Tu.sx r W H x y : Nat) ((W - 1 - Tu.sx r W H x y : Nat) : Int) 0 (Tu.sy r W H x y : Nat) (by omega) (by omega) (by omega) (by omega) (by omega) w2 ((hk.cell hbb hbs).trans hb) ((hk.cell hcb hcs).trans hc) hn (Nat.lt_of_lt_of_le hbs hk.1) (Nat.lt_of_lt_of_le hcs hk.1) (fun w3 hb3 => hcall w3 x y (hk.below hb3) hx hy)).mono (fun _ _ h => h)
set_option maxHeartbeats 2000000 in
theorem source0 (W H : Nat) (hW : W ≤ 65536) (hH : H ≤ 65536) (w : World) :
    Calls Try.prog 101 #[.int .i64 W, .int .i64 H, .int .i64 (0 : Nat)] w fun e w' => ∃ v, e = .returned v ∧ Src w.heap.size w' v W H 0 ∧ Below w.heap.size w w' := by
  have HWW := Lib.hid hW
  have HHH := Lib.hid hH
  clear hW hH
  rw [show ((0 : Nat) : Int) = 0 from rfl]
  have hix := index4_0
  go_enter Try.func101, Try.ntmps101
  go_wp2_with (go_at_call 111; refine (mirrors_any _ _).mono ?_; rw [show decide ((4 : Int) ≤ 0) = false from by decide]; rintro e w1 ⟨rfl, rfl⟩)
  go_ret
  exact ⟨_, rfl, give0 _ _ W H, by go_grown⟩
set_option maxHeartbeats 2000000 in
theorem source1 (W H : Nat) (hW : W ≤ 65536) (hH : H ≤ 65536) (w : World) :
    Calls Try.prog 101 #[.int .i64 W, .int .i64 H, .int .i64 (1 : Nat)] w fun e w' => ∃ v, e = .returned v ∧ Src w.heap.size w' v W H 1 ∧ Below w.heap.size w w' := by
  have HWW := Lib.hid hW
  have HHH := Lib.hid hH
  clear hW hH
  rw [show ((1 : Nat) : Int) = 1 from rfl]
  have hix := index4_1
  go_enter Try.func101, Try.ntmps101
  go_wp2_with (go_at_call 111; refine (mirrors_any _ _).mono ?_; rw [show decide ((4 : Int) ≤ 1) = false from by decide]; rintro e w1 ⟨rfl, rfl⟩)
  go_ret
  refine ⟨_, rfl, ?_, by go_grown⟩
  refine give1 _ _ W H HHH.out _ ?_ ?_ ?_ <;> first | omega | simp [go_sem]
set_option maxHeartbeats 2000000 in
theorem source2 (W H : Nat) (hW : W ≤ 65536) (hH : H ≤ 65536) (w : World) :
    Calls Try.prog 101 #[.int .i64 W, .int .i64 H, .int .i64 (2 : Nat)] w fun e w' => ∃ v, e = .returned v ∧ Src w.heap.size w' v W H 2 ∧ Below w.heap.size w w' := by
  have HWW := Lib.hid hW
  have HHH := Lib.hid hH
  clear hW hH
  rw [show ((2 : Nat) : Int) = 2 from rfl]
  have hix := index4_2
  go_enter Try.func101, Try.ntmps101
  go_wp2_with (go_at_call 111; refine (mirrors_any _ _).mono ?_; rw [show decide ((4 : Int) ≤ 2) = false from by decide]; rintro e w1 ⟨rfl, rfl⟩)
  go_ret
  refine ⟨_, rfl, ?_, by go_grown⟩
  refine give2 _ _ W H HWW.out HHH.out _ _ ?_ ?_ ?_ ?_ ?_ ?_ <;> first | omega | simp [go_sem]
set_option maxHeartbeats 2000000 in
theorem source3 (W H : Nat) (hW : W ≤ 65536) (hH : H ≤ 65536) (w : World) :
    Calls Try.prog 101 #[.int .i64 W, .int .i64 H, .int .i64 (3 : Nat)] w fun e w' => ∃ v, e = .returned v ∧ Src w.heap.size w' v W H 3 ∧ Below w.heap.size w w' := by
  have HWW := Lib.hid hW
  have HHH := Lib.hid hH
  clear hW hH
  rw [show ((3 : Nat) : Int) = 3 from rfl]
  have hix := index4_3
  go_enter Try.func101, Try.ntmps101
  go_wp2_with (go_at_call 111; refine (mirrors_any _ _).mono ?_; rw [show decide ((4 : Int) ≤ 3) = false from by decide]; rintro e w1 ⟨rfl, rfl⟩)
  go_ret
  refine ⟨_, rfl, ?_, by go_grown⟩
  refine give3 _ _ W H HWW.out _ ?_ ?_ ?_ <;> first | omega | simp [go_sem]
set_option maxHeartbeats 2000000 in
theorem source4 (W H : Nat) (hW : W ≤ 65536) (hH : H ≤ 65536) (w : World) :
    Calls Try.prog 101 #[.int .i64 W, .int .i64 H, .int .i64 (4 : Nat)] w fun e w' => ∃ v, e = .returned v ∧ Src w.heap.size w' v W H 4 ∧ Below w.heap.size w w' := by
  have HWW := Lib.hid hW
  have HHH := Lib.hid hH
  clear hW hH
  rw [show ((4 : Nat) : Int) = 4 from rfl]
  have hix := index4_0
  go_enter Try.func101, Try.ntmps101
  go_wp2_with (go_at_call 111; refine (mirrors_any _ _).mono ?_; rw [show decide ((4 : Int) ≤ 4) = true from by decide]; rintro e w1 ⟨rfl, rfl⟩)
  go_ret
  refine ⟨_, rfl, ?_, by go_grown⟩
  refine give_m _ _ W H 0 (by omega) HWW.out _ (give0 _ _ W H) _ _ ?_ ?_ ?_ ?_ ?_ ?_ <;> first | omega | simp [go_sem]
set_option maxHeartbeats 2000000 in
theorem source5 (W H : Nat) (hW : W ≤ 65536) (hH : H ≤ 65536) (w : World) :
    Calls Try.prog 101 #[.int .i64 W, .int .i64 H, .int .i64 (5 : Nat)] w fun e w' => ∃ v, e = .returned v ∧ Src w.heap.size w' v W H 5 ∧ Below w.heap.size w w' := by
  have HWW := Lib.hid hW
  have HHH := Lib.hid hH
  clear hW hH
  rw [show ((5 : Nat) : Int) = 5 from rfl]
  have hix := index4_1
  go_enter Try.func101, Try.ntmps101
  go_wp2_with (go_at_call 111; refine (mirrors_any _ _).mono ?_; rw [show decide ((4 : Int) ≤ 5) = true from by decide]; rintro e w1 ⟨rfl, rfl⟩)
  go_ret
  refine ⟨_, rfl, ?_, by go_grown⟩
  refine give_m _ _ W H 1 (by omega) HWW.out _ (give1 _ _ W H HHH.out (w.heap.size + 1) (by simp [go_sem]) (by simp [go_sem]) (by simp [go_sem])) _ _ ?_ ?_ ?_ ?_ ?_ ?_ <;> first | omega | simp [go_sem]
set_option maxHeartbeats 2000000 in
theorem source6 (W H : Nat) (hW : W ≤ 65536) (hH : H ≤ 65536) (w : World) :
    Calls Try.prog 101 #[.int .i64 W, .int .i64 H, .int .i64 (6 : Nat)] w fun e w' => ∃ v, e = .returned v ∧ Src w.heap.size w' v W H 6 ∧ Below w.heap.size w w' := by
  have HWW := Lib.hid hW
  have HHH := Lib.hid hH
  clear hW hH
  rw [show ((6 : Nat) : Int) = 6 from rfl]
  have hix := index4_2
  go_enter Try.func101, Try.ntmps101
  go_wp2_with (go_at_call 111; refine (mirrors_any _ _).mono ?_; rw [show decide ((4 : Int) ≤ 6) = true from by decide]; rintro e w1 ⟨rfl, rfl⟩)
  go_ret
  refine ⟨_, rfl, ?_, by go_grown⟩
  refine give_m _ _ W H 2 (by omega) HWW.out _ (give2 _ _ W H HWW.out HHH.out w.heap.size (w.heap.size + 1) (by simp [go_sem]) (by simp [go_sem]) (by simp [go_sem]) (by simp [go_sem]) (by simp [go_sem]) (by simp [go_sem])) _ _ ?_ ?_ ?_ ?_ ?_ ?_ <;> first | omega | simp [go_sem]
set_option maxHeartbeats 2000000 in
theorem source7 (W H : Nat) (hW : W ≤ 65536) (hH : H ≤ 65536) (w : World) :
    Calls Try.prog 101 #[.int .i64 W, .int .i64 H, .int .i64 (7 : Nat)] w fun e w' => ∃ v, e = .returned v ∧ Src w.heap.size w' v W H 7 ∧ Below w.heap.size w w' := by
  have HWW := Lib.hid hW
  have HHH := Lib.hid hH
  clear hW hH
  rw [show ((7 : Nat) : Int) = 7 from rfl]
  have hix := index4_3
  go_enter Try.func101, Try.ntmps101
  go_wp2_with (go_at_call 111; refine (mirrors_any _ _).mono ?_; rw [show decide ((4 : Int) ≤ 7) = true from by decide]; rintro e w1 ⟨rfl, rfl⟩)
  go_ret
  refine ⟨_, rfl, ?_, by go_grown⟩
  refine give_m _ _ W H 3 (by omega) HWW.out _ (give3 _ _ W H HWW.out w.heap.size (by simp [go_sem]) (by simp [go_sem]) (by simp [go_sem])) _ _ ?_ ?_ ?_ ?_ ?_ ?_ <;> first | omega | simp [go_sem]
theorem source_any (W H g : Nat) (hg : g < 8) (hW : W ≤ 65536) (hH : H ≤ 65536) (w : World) :
    Calls Try.prog 101 #[.int .i64 W, .int .i64 H, .int .i64 g] w fun e w' => ∃ v, e = .returned v ∧ Src w.heap.size w' v W H g ∧ Below w.heap.size w w' := by
  rcases Tu.turn8 hg with rfl | rfl | rfl | rfl | rfl | rfl | rfl | rfl
  · exact source0 W H hW hH w
  · exact source1 W H hW hH w
  · exact source2 W H hW hH w
  · exact source3 W H hW hH w
  · exact source4 W H hW hH w
  · exact source5 W H hW hH w
  · exact source6 W H hW hH w
  · exact source7 W H hW hH w
end Go.Proofs.Yteonfgphihacgaa
