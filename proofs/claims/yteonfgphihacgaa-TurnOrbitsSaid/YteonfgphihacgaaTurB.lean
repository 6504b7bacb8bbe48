/- Where something stood, as a function made for a turn: the closures of turn's source, over any memory. Condition: the place lies in what is laid. -/
import Derived.Test.YteonfgphihacgaaTurA
import Derived.Laws.EntriesVeiled
namespace Go.Proofs.Yteonfgphihacgaa
open Go.RowKit
set_option linter.unusedVariables false

/-- the blocks from base on lie in w2 as they lay in w -/
def Keep (base : Nat) (w w2 : World) : Prop := w.heap.size ≤ w2.heap.size ∧ ∀ j, base ≤ j → j < w.heap.size → w2.heap[j]? = w.heap[j]?
theorem Keep.refl (base : Nat) (w : World) : Keep base w w := ⟨Nat.le_refl _, fun _ _ _ => rfl⟩
theorem Keep.cell {base b : Nat} {w w2 : World} (h : Keep base w w2) (h1 : base ≤ b) (h2 : b < w.heap.size) : w2.cell? ⟨b, 0, none⟩ = w.cell? ⟨b, 0, none⟩ := by simp [World.cell?, h.2 b h1 h2]
theorem Keep.below {base : Nat} {w w2 w3 : World} (h : Keep base w w2) (hb : Below w2.heap.size w2 w3) : Keep base w w3 :=
  ⟨Nat.le_trans h.1 hb.size, fun j h1 h2 => (hb.block j (Nat.lt_of_lt_of_le h2 h.1)).trans (h.2 j h1 h2)⟩
theorem Keep.set {base : Nat} {w w2 : World} (h : Keep base w w2) {a : Addr} (ha : a.block < base) (v : Value) : Keep base w (w2.setCell a v) :=
  ⟨by simpa using h.1, fun j h1 h2 => by rw [Below.heap_setCell w2 a v j (by omega)]; exact h.2 j h1 h2⟩
/-- a function that tells where what stands at x, y then stood, made in the world w -/
def Src (base : Nat) (w : World) (v : Value) (W H g : Nat) : Prop :=
  ∃ n lb, v = .func (.func n) #[] lb ∧ (∀ args w, (callFunc n args).run Try.prog w = .ok (.enter n args) w) ∧
    ∀ (w2 : World) (x y : Nat), Keep base w w2 → x < Tu.sw g W H → y < Tu.sw g H W →
      Calls Try.prog n (#[.int .i64 x, .int .i64 y] ++ lb) w2 fun e w' => e = .returned (.tuple #[.int .i64 (Tu.sx g W H x y), .int .i64 (Tu.sy g W H x y)]) ∧ Below w2.heap.size w2 w'
theorem ret_2 {a b c d : Int} (h : a = c) (k : b = d) : Ending.returned (.tuple #[.int .i64 a, .int .i64 b]) = .returned (.tuple #[.int .i64 c, .int .i64 d]) := by rw [h, k]
set_option maxHeartbeats 1000000 in
theorem src0_any (x y : Int) (w : World) :
    Calls Try.prog 107 #[.int .i64 x, .int .i64 y] w fun e w' => e = .returned (.tuple #[.int .i64 x, .int .i64 y]) ∧ Below w.heap.size w w' := by
  go_enter Try.func107, Try.ntmps107
  go_wp2
  go_ret2
  exact ⟨rfl, by go_grown⟩
set_option maxHeartbeats 1000000 in
theorem src1_any (x y b : Nat) (H z : Int) (h0 : 0 ≤ H) (h1 : H ≤ 65536) (hz : H - 1 - x = z) (hx : x ≤ 65536) (w : World) (hc : w.cell? ⟨b, 0, none⟩ = some (.int .i64 H)) :
    Calls Try.prog 108 #[.int .i64 x, .int .i64 y, .pointer (some ⟨b, 0, none⟩)] w fun e w' => e = .returned (.tuple #[.int .i64 y, .int .i64 z]) ∧ Below w.heap.size w w' := by
  obtain ⟨p, hp⟩ : ∃ p, H - 1 = p := ⟨_, rfl⟩
  rw [hp] at hz
  have e1 : wrap64 (H - 1) = p := by rw [IntWalk.wrap64_in] <;> omega
  have e2 : wrap64 (p - x) = z := by rw [IntWalk.wrap64_in] <;> omega
  have f1 : IntKind.i64.wrap (H - 1) = p := by rw [IntWalk.i64_in] <;> omega
  have f2 : IntKind.i64.wrap (p - x) = z := by rw [IntWalk.i64_in] <;> omega
  clear hp hz hx h0 h1
  go_enter Try.func108, Try.ntmps108
  go_wp2_with (go_quiet (fail))
  go_ret2
  exact ⟨rfl, ⟨rfl, rfl, rfl, Nat.le_refl _, fun _ _ => rfl⟩⟩
set_option maxHeartbeats 1000000 in
theorem src2_any (x y b c : Nat) (W H z u : Int) (h0 : 0 ≤ H) (h1 : H ≤ 65536) (w0 : 0 ≤ W) (w1 : W ≤ 65536) (hz : W - 1 - x = z) (hu : H - 1 - y = u) (hx : x ≤ 65536) (hy : y ≤ 65536) (w : World) (hb : w.cell? ⟨b, 0, none⟩ = some (.int .i64 W)) (hc : w.cell? ⟨c, 0, none⟩ = some (.int .i64 H)) :
    Calls Try.prog 109 #[.int .i64 x, .int .i64 y, .pointer (some ⟨b, 0, none⟩), .pointer (some ⟨c, 0, none⟩)] w fun e w' => e = .returned (.tuple #[.int .i64 z, .int .i64 u]) ∧ Below w.heap.size w w' := by
  obtain ⟨p, hp⟩ : ∃ p, H - 1 = p := ⟨_, rfl⟩
  obtain ⟨q, hq⟩ : ∃ q, W - 1 = q := ⟨_, rfl⟩
  rw [hq] at hz
  rw [hp] at hu
  have e1 : wrap64 (H - 1) = p := by rw [IntWalk.wrap64_in] <;> omega
  have e2 : wrap64 (q - x) = z := by rw [IntWalk.wrap64_in] <;> omega
  have e3 : wrap64 (W - 1) = q := by rw [IntWalk.wrap64_in] <;> omega
  have e4 : wrap64 (p - y) = u := by rw [IntWalk.wrap64_in] <;> omega
  clear hp hq hz hu hx hy h0 h1 w0 w1
  go_enter Try.func109, Try.ntmps109
  go_wp2_with (go_quiet (fail))
  go_ret2
  exact ⟨ret_2 e2 e4, ⟨rfl, rfl, rfl, Nat.le_refl _, fun _ _ => rfl⟩⟩
set_option maxHeartbeats 1000000 in
theorem src3_any (x y b : Nat) (W z : Int) (w0 : 0 ≤ W) (w1 : W ≤ 65536) (hz : W - 1 - y = z) (hy : y ≤ 65536) (w : World) (hb : w.cell? ⟨b, 0, none⟩ = some (.int .i64 W)) :
    Calls Try.prog 110 #[.int .i64 x, .int .i64 y, .pointer (some ⟨b, 0, none⟩)] w fun e w' => e = .returned (.tuple #[.int .i64 z, .int .i64 x]) ∧ Below w.heap.size w w' := by
  obtain ⟨q, hq⟩ : ∃ q, W - 1 = q := ⟨_, rfl⟩
  rw [hq] at hz
  have e2 : wrap64 (q - y) = z := by rw [IntWalk.wrap64_in] <;> omega
  have e3 : wrap64 (W - 1) = q := by rw [IntWalk.wrap64_in] <;> omega
  clear hq hz hy w0 w1
  go_enter Try.func110, Try.ntmps110
  go_wp2_with (go_quiet (fail))
  go_ret2
  exact ⟨ret_2 e2 rfl, by go_grown⟩
set_option maxHeartbeats 1000000 in
/-- mirrored first: the first number counted from the last column -/
theorem srcM_any (n : Nat) (lb : Array Value) (x y b c : Nat) (W q z p s : Int) (w0 : 0 ≤ W) (w1 : W ≤ 65536) (q0 : 0 ≤ q) (q1 : q ≤ 65536) (hz : W - 1 - q = z) (w : World) (hb : w.cell? ⟨b, 0, none⟩ = some (.func (.func n) #[] lb)) (hc : w.cell? ⟨c, 0, none⟩ = some (.int .i64 W))
    (hn : ∀ args w, (callFunc n args).run Try.prog w = .ok (.enter n args) w) (hbc : b < w.heap.size) (hcc : c < w.heap.size)
    (hcall : ∀ w2, Below w.heap.size w w2 → Calls Try.prog n (#[.int .i64 x, .int .i64 y] ++ lb) w2 fun e w' => e = .returned (.tuple #[.int .i64 q, .int .i64 s]) ∧ Below w2.heap.size w2 w') :
    Calls Try.prog 112 #[.int .i64 x, .int .i64 y, .pointer (some ⟨b, 0, none⟩), .pointer (some ⟨c, 0, none⟩)] w fun e w' => e = .returned (.tuple #[.int .i64 z, .int .i64 s]) ∧ Below w.heap.size w w' := by
  obtain ⟨r, hr⟩ : ∃ r, W - 1 = r := ⟨_, rfl⟩
  rw [hr] at hz
  have e2 : wrap64 (r - q) = z := by rw [IntWalk.wrap64_in] <;> omega
  have e3 : wrap64 (W - 1) = r := by rw [IntWalk.wrap64_in] <;> omega
  clear hr hz w0 w1 q0 q1
  have HC := Lib.hid hc
  clear hc
  go_enter Try.func112, Try.ntmps112
  go_wp2_with (go_at_fn n; refine (hcall _ (Below.refl _ _)).mono ?_; rintro e w3 ⟨rfl, hb3⟩; have hc := (hb3.cell (p := ⟨c, 0, none⟩) hcc).trans HC.out)
  go_ret2
  exact ⟨ret_2 e2 rfl, hb3⟩
end Go.Proofs.Yteonfgphihacgaa
