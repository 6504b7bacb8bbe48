/- What Format, Fits, Form, Good, Gray, Turned and Scaled come to, over any memory, of pix and of the document's own answer. Condition: numbers fit their kinds. -/
import Derived.Test.YtldhhhmihfcalaaZgAB
import Derived.Deep.RegionHeld3
import Derived.Deep.DrawnRows
import Derived.Deep.QuietTactic
import Derived.BigQuiet
import Derived.Deep.RegionWith
namespace Go.Proofs.Ytldhhhmihfcalaa
open Go.RowKit
set_option linter.unusedVariables false
namespace Pq
theorem format_any (c m : Int) (w : World) :
    Calls Try.prog 129 #[.agg #[.int .i64 c, .int .i64 m]] w fun e w' => e = .returned (.bool (Px.formatV c m)) ∧ Below w.heap.size w w' := by
  by_cases hc : c = 1 ∨ c = 3
  · by_cases h1 : 1 ≤ m
    · by_cases h2 : m ≤ 65535
      · rcases hc with rfl | rfl
        · have X := Lib.hid (show true = Px.formatV 1 m by simp [Px.formatV, h1, h2])
          go_enter Try.func129, Try.ntmps129
          go_wp2
          go_ret
          exact ⟨ret_b X.out, (Below.refl _ _).alloc (Nat.le_refl _) _⟩
        · have X := Lib.hid (show true = Px.formatV 3 m by simp [Px.formatV, h1, h2])
          go_enter Try.func129, Try.ntmps129
          go_wp2
          go_ret
          exact ⟨ret_b X.out, (Below.refl _ _).alloc (Nat.le_refl _) _⟩
      · rcases hc with rfl | rfl
        · have X := Lib.hid (show false = Px.formatV 1 m by simp [Px.formatV, h2])
          go_enter Try.func129, Try.ntmps129
          go_wp2
          go_ret
          exact ⟨ret_b X.out, (Below.refl _ _).alloc (Nat.le_refl _) _⟩
        · have X := Lib.hid (show false = Px.formatV 3 m by simp [Px.formatV, h2])
          go_enter Try.func129, Try.ntmps129
          go_wp2
          go_ret
          exact ⟨ret_b X.out, (Below.refl _ _).alloc (Nat.le_refl _) _⟩
    · rcases hc with rfl | rfl
      · have X := Lib.hid (show false = Px.formatV 1 m by simp [Px.formatV, h1])
        go_enter Try.func129, Try.ntmps129
        go_wp2
        go_ret
        exact ⟨ret_b X.out, (Below.refl _ _).alloc (Nat.le_refl _) _⟩
      · have X := Lib.hid (show false = Px.formatV 3 m by simp [Px.formatV, h1])
        go_enter Try.func129, Try.ntmps129
        go_wp2
        go_ret
        exact ⟨ret_b X.out, (Below.refl _ _).alloc (Nat.le_refl _) _⟩
  · have k1 : (c == 1) = false := by simp; omega
    have k3 : (c == 3) = false := by simp; omega
    clear hc
    have X := Lib.hid (show false = Px.formatV c m by simp only [Px.formatV, k1, k3]; rfl)
    go_enter Try.func129, Try.ntmps129
    go_wp2
    go_ret
    exact ⟨ret_b X.out, (Below.refl _ _).alloc (Nat.le_refl _) _⟩

theorem refFormat_any (c m : Int) (w : World) :
    Calls Try.prog 118 #[.agg #[.int .i64 c, .int .i64 m]] w fun e w' => e = .returned (.bool (Px.formatV c m)) ∧ Below w.heap.size w w' := by
  by_cases hc : c = 1 ∨ c = 3
  · by_cases h1 : 1 ≤ m
    · by_cases h2 : m < 65536
      · rcases hc with rfl | rfl
        · have X := Lib.hid (show true = Px.formatV 1 m by simp [Px.formatV, h1]; omega)
          go_enter Try.func118, Try.ntmps118
          go_wp2
          go_ret
          exact ⟨ret_b X.out, (Below.refl _ _).alloc (Nat.le_refl _) _⟩
        · have X := Lib.hid (show true = Px.formatV 3 m by simp [Px.formatV, h1]; omega)
          go_enter Try.func118, Try.ntmps118
          go_wp2
          go_ret
          exact ⟨ret_b X.out, (Below.refl _ _).alloc (Nat.le_refl _) _⟩
      · rcases hc with rfl | rfl
        · have X := Lib.hid (show false = Px.formatV 1 m by simp [Px.formatV]; omega)
          go_enter Try.func118, Try.ntmps118
          go_wp2
          go_ret
          exact ⟨ret_b X.out, (Below.refl _ _).alloc (Nat.le_refl _) _⟩
        · have X := Lib.hid (show false = Px.formatV 3 m by simp [Px.formatV]; omega)
          go_enter Try.func118, Try.ntmps118
          go_wp2
          go_ret
          exact ⟨ret_b X.out, (Below.refl _ _).alloc (Nat.le_refl _) _⟩
    · rcases hc with rfl | rfl
      · have X := Lib.hid (show false = Px.formatV 1 m by simp [Px.formatV, h1])
        go_enter Try.func118, Try.ntmps118
        go_wp2
        go_ret
        exact ⟨ret_b X.out, (Below.refl _ _).alloc (Nat.le_refl _) _⟩
      · have X := Lib.hid (show false = Px.formatV 3 m by simp [Px.formatV, h1])
        go_enter Try.func118, Try.ntmps118
        go_wp2
        go_ret
        exact ⟨ret_b X.out, (Below.refl _ _).alloc (Nat.le_refl _) _⟩
  · have k1 : (c == 1) = false := by simp; omega
    have k3 : (c == 3) = false := by simp; omega
    clear hc
    have X := Lib.hid (show false = Px.formatV c m by simp only [Px.formatV, k1, k3]; rfl)
    go_enter Try.func118, Try.ntmps118
    go_wp2
    go_ret
    exact ⟨ret_b X.out, (Below.refl _ _).alloc (Nat.le_refl _) _⟩


theorem bcell {W w1 : World} (hb : Below W.heap.size W w1) : (∀ b o, b < W.heap.size → w1.cell? ⟨b, o, none⟩ = W.cell? ⟨b, o, none⟩) ∧ (∀ b o, b < W.heap.size → w1.frozen? ⟨b, o, none⟩ = W.frozen? ⟨b, o, none⟩) :=
  ⟨fun b o h => hb.cell (p := ⟨b, o, none⟩) h, fun b o h => hb.frozen (p := ⟨b, o, none⟩) h⟩
theorem max3 (blk off cap : Nat) (a b c : Int) (w : World)
    (c0 : w.cell? ⟨blk, off, none⟩ = some (.int .i64 a)) (c1 : w.cell? ⟨blk, off + 1, none⟩ = some (.int .i64 b)) (c2 : w.cell? ⟨blk, off + 2, none⟩ = some (.int .i64 c)) :
    Calls Try.prog 130 #[.slice (some ⟨blk, off, none⟩) 3 cap] w fun e w' => e = .returned (.int .i64 (max (max a b) c)) ∧ w = w' := by
  go_enter Try.func130, Try.ntmps130
  go_wp2
  go_rounds 3
  all_goals (go_ret; exact ⟨ret_i (by omega), rfl⟩)

theorem max3M (blk off cap : Nat) (a b c M : Int) (hM : Hid (max (max a b) c = M)) (w : World)
    (c0 : w.cell? ⟨blk, off, none⟩ = some (.int .i64 a)) (c1 : w.cell? ⟨blk, off + 1, none⟩ = some (.int .i64 b)) (c2 : w.cell? ⟨blk, off + 2, none⟩ = some (.int .i64 c)) :
    Calls Try.prog 130 #[.slice (some ⟨blk, off, none⟩) 3 cap] w fun e w' => e = .returned (.int .i64 M) ∧ w = w' :=
  (max3 blk off cap a b c w c0 c1 c2).mono fun _ _ h => by rw [← hM.out]; exact h

theorem max1 (blk off cap : Nat) (a : Int) (w : World)
    (c0 : w.cell? ⟨blk, off, none⟩ = some (.int .i64 a)) :
    Calls Try.prog 130 #[.slice (some ⟨blk, off, none⟩) 1 cap] w fun e w' => e = .returned (.int .i64 a) ∧ w = w' := by
  go_enter Try.func130, Try.ntmps130
  go_wp2
  go_rounds 1
  go_ret
  exact ⟨rfl, rfl⟩


theorem box_below (w : World) (cs : Array Value) (t : TypeId) {w1 : World} (hb1 : Below (w.alloc (.cells cs t)).heap.size (w.alloc (.cells cs t)) w1) : Below w.heap.size w w1 :=
  ((Below.refl _ _).alloc (Nat.le_refl _) _).trans (hb1.mono (by simp))

theorem fits3_no (p c m a b d : Int) (h : Px.Is3 p a b d) (k : ((3 : Int) == c) = false) (w : World) :
    Calls Try.prog 113 #[.int .u64 p, .agg #[.int .i64 c, .int .i64 m]] w fun e w' => e = .returned (.bool false) ∧ Below w.heap.size w w' := by
  go_enter Try.func113, Try.ntmps113
  go_wp2_with (go_at_call 119; refine (split3 p a b d h _).mono ?_; rintro e w1 ⟨rfl, hb1⟩)
  have d0 : w1.cell? ⟨w.heap.size, 0, none⟩ = some (.int .i64 c) := cell_later hb1 (by simp [go_sem])
  have d1 : w1.cell? ⟨w.heap.size, 1, none⟩ = some (.int .i64 m) := cell_later hb1 (by simp [go_sem])
  have hz : w.heap.size < w1.heap.size := by have := hb1.size; simp at this; omega
  go_quiet (fail)
  go_wp2
  go_ret
  exact ⟨rfl, below_drewN ((box_below w _ _ hb1).alloc (Nat.le_of_lt hz) _) _⟩
theorem fits1_no (p c m a : Int) (h : Px.Is1 p a) (k : ((1 : Int) == c) = false) (w : World) :
    Calls Try.prog 113 #[.int .u64 p, .agg #[.int .i64 c, .int .i64 m]] w fun e w' => e = .returned (.bool false) ∧ Below w.heap.size w w' := by
  go_enter Try.func113, Try.ntmps113
  go_wp2_with (go_at_call 119; refine (split1 p a h _).mono ?_; rintro e w1 ⟨rfl, hb1⟩)
  have d0 : w1.cell? ⟨w.heap.size, 0, none⟩ = some (.int .i64 c) := cell_later hb1 (by simp [go_sem])
  have d1 : w1.cell? ⟨w.heap.size, 1, none⟩ = some (.int .i64 m) := cell_later hb1 (by simp [go_sem])
  have hz : w.heap.size < w1.heap.size := by have := hb1.size; simp at this; omega
  go_quiet (fail)
  go_wp2
  go_ret
  exact ⟨rfl, below_drewN ((box_below w _ _ hb1).alloc (Nat.le_of_lt hz) _) _⟩
theorem fits0_no (p c m : Int) (hU : Px.U p) (h : Px.Is0 p) (k : ((0 : Int) == c) = false) (w : World) :
    Calls Try.prog 113 #[.int .u64 p, .agg #[.int .i64 c, .int .i64 m]] w fun e w' => e = .returned (.bool false) ∧ Below w.heap.size w w' := by
  go_enter Try.func113, Try.ntmps113
  go_wp2_with (go_at_call 119; refine (split0 p hU h _).mono ?_; rintro e w1 ⟨rfl, hb1⟩)
  have d0 : w1.cell? ⟨w.heap.size, 0, none⟩ = some (.int .i64 c) := cell_later hb1 (by simp [go_sem])
  have d1 : w1.cell? ⟨w.heap.size, 1, none⟩ = some (.int .i64 m) := cell_later hb1 (by simp [go_sem])
  have hz : w.heap.size < w1.heap.size := by have := hb1.size; simp at this; omega
  go_quiet (fail)
  go_wp2
  go_ret
  exact ⟨rfl, below_drewN ((box_below w _ _ hb1).alloc (Nat.le_of_lt hz) _) _⟩
end Pq
end Go.Proofs.Ytldhhhmihfcalaa
