/- What is made of every sample of a pixel, dark for light, or of another greatest sample, over any memory. Condition: the samples are of the format. -/
import Derived.Test.YtdlmcdeddlccpaaPixC
namespace Go.Proofs.Ytdlmcdeddlccpaa
open Go.RowKit
set_option linter.unusedVariables false

theorem turnedC (s m : Int) (b : Nat) (h0 : 0 ≤ s) (h1 : s ≤ m) (h2 : m ≤ 65535) (w : World) (h : w.cell? ⟨b, 1, none⟩ = some (.int .i64 m)) :
    Calls Try.prog 40 #[.int .i64 s, .pointer (some ⟨b, 0, none⟩)] w fun e w' => e = .returned (.int .i64 (m - s)) ∧ w = w' := by
  go_enter Try.func40, Try.ntmps40
  go_wp2
  go_ret
  exact ⟨rfl, rfl⟩
/-- a sample of another greatest one -/
def scl (s x y : Int) : Int := (s * y + x / 2) / x
theorem mul_bound {s x y : Int} (h0 : 0 ≤ s) (h1 : s ≤ x) (hx1 : x ≤ 65535) (hy0 : 1 ≤ y) (hy1 : y ≤ 65535) : 0 ≤ s * y ∧ s * y ≤ x * y ∧ x * y ≤ 4294836225 ∧ 0 ≤ x * y := by
  refine ⟨Int.mul_nonneg h0 (by omega), Int.mul_le_mul_of_nonneg_right h1 (by omega), ?_, Int.mul_nonneg (by omega) (by omega)⟩
  calc x * y ≤ 65535 * y := Int.mul_le_mul_of_nonneg_right hx1 (by omega)
    _ ≤ 65535 * 65535 := Int.mul_le_mul_of_nonneg_left hy1 (by omega)
theorem scl_bound {s x y : Int} (h0 : 0 ≤ s) (h1 : s ≤ x) (hx0 : 1 ≤ x) (hx1 : x ≤ 65535) (hy0 : 1 ≤ y) (hy1 : y ≤ 65535) : 0 ≤ scl s x y ∧ scl s x y ≤ y := by
  obtain ⟨m0, m1, m2, m3⟩ := mul_bound h0 h1 hx1 hy0 hy1
  unfold scl
  refine ⟨Int.ediv_nonneg (by omega) (by omega), ?_⟩
  have : (s * y + x / 2) / x < y + 1 := Int.ediv_lt_of_lt_mul (by omega) (by rw [Int.add_mul, Int.one_mul, Int.mul_comm y x]; omega)
  omega
theorem scaledC (s x y : Int) (bx by' : Nat) (h0 : 0 ≤ s) (h1 : s ≤ x) (hx0 : 1 ≤ x) (hx1 : x ≤ 65535) (hy0 : 1 ≤ y) (hy1 : y ≤ 65535) (w : World) (hx : w.cell? ⟨bx, 0, none⟩ = some (.int .i64 x)) (hy : w.cell? ⟨by', 0, none⟩ = some (.int .i64 y)) :
    Calls Try.prog 41 #[.int .i64 s, .pointer (some ⟨by', 0, none⟩), .pointer (some ⟨bx, 0, none⟩)] w fun e w' => e = .returned (.int .i64 (scl s x y)) ∧ w = w' := by
  obtain ⟨m0, m1, m2, m3⟩ := mul_bound h0 h1 hx1 hy0 hy1
  have hz : (x == 0) = false := by simp; omega
  have X := Lib.hid (show scl s x y = (s * y + x / 2) / x from rfl)
  go_enter Try.func41, Try.ntmps41
  go_wp2
  go_ret
  exact ⟨ret_i X.out.symm, rfl⟩

set_option maxHeartbeats 2000000 in
theorem each_turned3 (p a b d m : Int) (tb : Nat) (h : Px.Is3 p a b d) (a0 : 0 ≤ a) (b0 : 0 ≤ b) (d0 : 0 ≤ d) (la : a ≤ m) (lb : b ≤ m) (ld : d ≤ m) (hm : m ≤ 65535) (w : World) (hc : w.cell? ⟨tb, 1, none⟩ = some (.int .i64 m)) :
    Calls Try.prog 39 #[.int .u64 p, .func (.func 40) #[] #[.pointer (some ⟨tb, 0, none⟩)]] w fun e w' => e = .returned (.int .u64 (844424930131968 + (m - a) * 4294967296 + (m - b) * 65536 + (m - d))) ∧ Below w.heap.size w w' := by
  go_enter Try.func39, Try.ntmps39
  go_wp2_with (go_at_call 35; refine (split3 p a b d h _).mono ?_; rintro e w1 ⟨rfl, hb1⟩)
  have hc1 : w1.cell? ⟨tb, 1, none⟩ = some (.int .i64 m) := cell_later hb1 hc
  have ht : tb < w1.heap.size := block_lt_of_cell hc1
  refine wp_loop_rounds 4 ?_
  rw [rounds_succ]
  go_wp2_with (go_at_call 40; refine (turnedC a m _ (by omega) (by omega) hm _ ?_).mono ?_; (simp [go_sem, hc1, ht]); rintro e w9 ⟨rfl, rfl⟩)
  rw [rounds_succ]
  go_wp2_with (go_at_call 40; refine (turnedC b m _ (by omega) (by omega) hm _ ?_).mono ?_; (simp [go_sem, hc1, ht]); rintro e w9 ⟨rfl, rfl⟩)
  rw [rounds_succ]
  go_wp2_with (go_at_call 40; refine (turnedC d m _ (by omega) (by omega) hm _ ?_).mono ?_; (simp [go_sem, hc1, ht]); rintro e w9 ⟨rfl, rfl⟩)
  rw [rounds_succ]
  go_wp2_with (go_at_call 33; refine (join3 _ _ _ (m - a) (m - b) (m - d) ?_ ?_ ?_ ?_ ?_ ?_ _ ?_ ?_ ?_).mono ?_; omega; omega; omega; omega; omega; omega; (simp [go_sem]); (simp [go_sem]); (simp [go_sem]); rintro e w9 ⟨rfl, rfl⟩)
  go_ret
  exact ⟨rfl, hb1.alloc hb1.size _⟩
set_option maxHeartbeats 2000000 in
theorem each_turned1 (p a m : Int) (tb : Nat) (h : Px.Is1 p a) (a0 : 0 ≤ a) (la : a ≤ m) (hm : m ≤ 65535) (w : World) (hc : w.cell? ⟨tb, 1, none⟩ = some (.int .i64 m)) :
    Calls Try.prog 39 #[.int .u64 p, .func (.func 40) #[] #[.pointer (some ⟨tb, 0, none⟩)]] w fun e w' => e = .returned (.int .u64 (281474976710656 + (m - a))) ∧ Below w.heap.size w w' := by
  go_enter Try.func39, Try.ntmps39
  go_wp2_with (go_at_call 35; refine (split1 p a h _).mono ?_; rintro e w1 ⟨rfl, hb1⟩)
  have hc1 : w1.cell? ⟨tb, 1, none⟩ = some (.int .i64 m) := cell_later hb1 hc
  have ht : tb < w1.heap.size := block_lt_of_cell hc1
  refine wp_loop_rounds 2 ?_
  rw [rounds_succ]
  go_wp2_with (go_at_call 40; refine (turnedC a m _ (by omega) (by omega) hm _ ?_).mono ?_; (simp [go_sem, hc1, ht]); rintro e w9 ⟨rfl, rfl⟩)
  rw [rounds_succ]
  go_wp2_with (go_at_call 33; refine (join1 _ _ _ (m - a) ?_ ?_ _ ?_).mono ?_; omega; omega; (simp [go_sem]); rintro e w9 ⟨rfl, rfl⟩)
  go_ret
  exact ⟨rfl, hb1.alloc hb1.size _⟩
set_option maxHeartbeats 2000000 in
theorem each_scaled3 (p a b d x y : Int) (tb fb : Nat) (h : Px.Is3 p a b d) (a0 : 0 ≤ a) (b0 : 0 ≤ b) (d0 : 0 ≤ d) (la : a ≤ x) (lb : b ≤ x) (ld : d ≤ x) (hx0 : 1 ≤ x) (hx1 : x ≤ 65535) (hy0 : 1 ≤ y) (hy1 : y ≤ 65535) (w : World) (hc : w.cell? ⟨fb, 0, none⟩ = some (.int .i64 x)) (hd : w.cell? ⟨tb, 0, none⟩ = some (.int .i64 y)) :
    Calls Try.prog 39 #[.int .u64 p, .func (.func 41) #[] #[.pointer (some ⟨tb, 0, none⟩), .pointer (some ⟨fb, 0, none⟩)]] w fun e w' => e = .returned (.int .u64 (844424930131968 + scl a x y * 4294967296 + scl b x y * 65536 + scl d x y)) ∧ Below w.heap.size w w' := by
  obtain ⟨a', ea⟩ : ∃ v, scl a x y = v := ⟨_, rfl⟩
  have Sa := Lib.hid ea
  have Ba := scl_bound (s := a) (by omega) la hx0 hx1 hy0 hy1
  rw [ea] at Ba
  obtain ⟨Ba0, Ba1⟩ := Ba
  clear ea
  obtain ⟨b', eb⟩ : ∃ v, scl b x y = v := ⟨_, rfl⟩
  have Sb := Lib.hid eb
  have Bb := scl_bound (s := b) (by omega) lb hx0 hx1 hy0 hy1
  rw [eb] at Bb
  obtain ⟨Bb0, Bb1⟩ := Bb
  clear eb
  obtain ⟨d', ed⟩ : ∃ v, scl d x y = v := ⟨_, rfl⟩
  have Sd := Lib.hid ed
  have Bd := scl_bound (s := d) (by omega) ld hx0 hx1 hy0 hy1
  rw [ed] at Bd
  obtain ⟨Bd0, Bd1⟩ := Bd
  clear ed
  rw [Sa.out, Sb.out, Sd.out]
  go_enter Try.func39, Try.ntmps39
  go_wp2_with (go_at_call 35; refine (split3 p a b d h _).mono ?_; rintro e w1 ⟨rfl, hb1⟩)
  have hc1 : w1.cell? ⟨fb, 0, none⟩ = some (.int .i64 x) := cell_later hb1 hc
  have ht : fb < w1.heap.size := block_lt_of_cell hc1
  have hd1 : w1.cell? ⟨tb, 0, none⟩ = some (.int .i64 y) := cell_later hb1 hd
  have ht2 : tb < w1.heap.size := block_lt_of_cell hd1
  refine wp_loop_rounds 4 ?_
  rw [rounds_succ]
  go_wp2_with (go_at_call 41; refine (scaledC a x y _ _ (by omega) (by omega) hx0 hx1 hy0 hy1 _ ?_ ?_).mono ?_; (simp [go_sem, hc1, ht]); (simp [go_sem, hd1, ht2]); rw [Sa.out]; rintro e w9 ⟨rfl, rfl⟩)
  rw [rounds_succ]
  go_wp2_with (go_at_call 41; refine (scaledC b x y _ _ (by omega) (by omega) hx0 hx1 hy0 hy1 _ ?_ ?_).mono ?_; (simp [go_sem, hc1, ht]); (simp [go_sem, hd1, ht2]); rw [Sb.out]; rintro e w9 ⟨rfl, rfl⟩)
  rw [rounds_succ]
  go_wp2_with (go_at_call 41; refine (scaledC d x y _ _ (by omega) (by omega) hx0 hx1 hy0 hy1 _ ?_ ?_).mono ?_; (simp [go_sem, hc1, ht]); (simp [go_sem, hd1, ht2]); rw [Sd.out]; rintro e w9 ⟨rfl, rfl⟩)
  rw [rounds_succ]
  go_wp2_with (go_at_call 33; refine (join3 _ _ _ a' b' d' ?_ ?_ ?_ ?_ ?_ ?_ _ ?_ ?_ ?_).mono ?_; omega; omega; omega; omega; omega; omega; (simp [go_sem]); (simp [go_sem]); (simp [go_sem]); rintro e w9 ⟨rfl, rfl⟩)
  go_ret
  exact ⟨rfl, hb1.alloc hb1.size _⟩
set_option maxHeartbeats 2000000 in
theorem each_scaled1 (p a x y : Int) (tb fb : Nat) (h : Px.Is1 p a) (a0 : 0 ≤ a) (la : a ≤ x) (hx0 : 1 ≤ x) (hx1 : x ≤ 65535) (hy0 : 1 ≤ y) (hy1 : y ≤ 65535) (w : World) (hc : w.cell? ⟨fb, 0, none⟩ = some (.int .i64 x)) (hd : w.cell? ⟨tb, 0, none⟩ = some (.int .i64 y)) :
    Calls Try.prog 39 #[.int .u64 p, .func (.func 41) #[] #[.pointer (some ⟨tb, 0, none⟩), .pointer (some ⟨fb, 0, none⟩)]] w fun e w' => e = .returned (.int .u64 (281474976710656 + scl a x y)) ∧ Below w.heap.size w w' := by
  obtain ⟨a', ea⟩ : ∃ v, scl a x y = v := ⟨_, rfl⟩
  have Sa := Lib.hid ea
  have Ba := scl_bound (s := a) (by omega) la hx0 hx1 hy0 hy1
  rw [ea] at Ba
  obtain ⟨Ba0, Ba1⟩ := Ba
  clear ea
  rw [Sa.out]
  go_enter Try.func39, Try.ntmps39
  go_wp2_with (go_at_call 35; refine (split1 p a h _).mono ?_; rintro e w1 ⟨rfl, hb1⟩)
  have hc1 : w1.cell? ⟨fb, 0, none⟩ = some (.int .i64 x) := cell_later hb1 hc
  have ht : fb < w1.heap.size := block_lt_of_cell hc1
  have hd1 : w1.cell? ⟨tb, 0, none⟩ = some (.int .i64 y) := cell_later hb1 hd
  have ht2 : tb < w1.heap.size := block_lt_of_cell hd1
  refine wp_loop_rounds 2 ?_
  rw [rounds_succ]
  go_wp2_with (go_at_call 41; refine (scaledC a x y _ _ (by omega) (by omega) hx0 hx1 hy0 hy1 _ ?_ ?_).mono ?_; (simp [go_sem, hc1, ht]); (simp [go_sem, hd1, ht2]); rw [Sa.out]; rintro e w9 ⟨rfl, rfl⟩)
  rw [rounds_succ]
  go_wp2_with (go_at_call 33; refine (join1 _ _ _ a' ?_ ?_ _ ?_).mono ?_; omega; omega; (simp [go_sem]); rintro e w9 ⟨rfl, rfl⟩)
  go_ret
  exact ⟨rfl, hb1.alloc hb1.size _⟩
end Go.Proofs.Ytdlmcdeddlccpaa
