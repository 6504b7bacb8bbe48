/- What may be, what lies inside a matrix, and a matrix as the document, and the program, has it, over any memory. Condition: numbers fit their kinds. -/
import Derived.Test.YtldhhhmihfcalaaRecA
namespace Go.Proofs.Ytldhhhmihfcalaa
open Go.RowKit
set_option linter.unusedVariables false

theorem box1 (w : World) (o : Obj) : Below w.heap.size w (w.alloc o) := (Below.refl w.heap.size w).alloc (Nat.le_refl _) o
theorem box2 (w : World) (o p : Obj) : Below w.heap.size w ((w.alloc o).alloc p) := (box1 w o).alloc (by simp) p
/-- a matrix in a cell of its own -/
def Mb (w : World) (b : Nat) (W H : Int) (a : Option Addr) (n c : Nat) : Prop :=
  w.cell? ⟨b, 0, none⟩ = some (.int .i64 W) ∧ w.cell? ⟨b, 1, none⟩ = some (.int .i64 H) ∧ w.cell? ⟨b, 2, none⟩ = some (.slice a n c)
theorem Mb.later {w w' : World} {b : Nat} {W H : Int} {a : Option Addr} {n c : Nat} (h : Mb w b W H a n c) (hb : Below w.heap.size w w') : Mb w' b W H a n c :=
  ⟨cell_later hb h.1, cell_later hb h.2.1, cell_later hb h.2.2⟩
/-- two numbers in cells of their own -/
def Pb (w : World) (b : Nat) (x y : Int) : Prop := w.cell? ⟨b, 0, none⟩ = some (.int .i64 x) ∧ w.cell? ⟨b, 1, none⟩ = some (.int .i64 y)
theorem Pb.later {w w' : World} {b : Nat} {x y : Int} (h : Pb w b x y) (hb : Below w.heap.size w w') : Pb w' b x y := ⟨cell_later hb h.1, cell_later hb h.2⟩

set_option maxHeartbeats 1000000 in
theorem may_any (W H : Int) (a : Option Addr) (n c : Nat) (hn : n ≤ 9223372036854775807) (w : World) :
    Calls Try.prog 57 #[.agg #[.int .i64 W, .int .i64 H, .slice a n c]] w fun e w' => e = .returned (.bool (Rc.mayV W H n)) ∧ Below w.heap.size w w' := by
  have B := box1 w (.cells #[.int .i64 W, .int .i64 H, .slice a n c] 27)
  cases h : Rc.sized W H
  · have X := Lib.hid (show Rc.mayV W H n = false by simp [Rc.mayV, h])
    go_enter Try.func57, Try.ntmps57
    go_wp2_with (go_at_call 95; refine (mayMeasure_any W H _).mono ?_; rw [h]; rintro e w1 ⟨rfl, rfl⟩)
    go_ret
    exact ⟨ret_b X.out.symm, B⟩
  · have X := Lib.hid (show ((n : Int) == W * H) = Rc.mayV W H n by simp [Rc.mayV, h]; rfl)
    have hm : wrap64 (W * H) = W * H := by
      obtain ⟨h1, h2, h3, h4, h5⟩ := Rc.sized_iff.1 h
      have q1 : 0 ≤ W * H := Int.mul_nonneg (by omega) (by omega)
      rw [IntWalk.wrap64_in] <;> omega
    go_enter Try.func57, Try.ntmps57
    go_wp2_with (go_at_call 95; refine (mayMeasure_any W H _).mono ?_; rw [h]; rintro e w1 ⟨rfl, rfl⟩)
    go_ret
    exact ⟨ret_b X.out, B⟩
set_option maxHeartbeats 1000000 in
theorem refMay_any (W H : Int) (a : Option Addr) (n c : Nat) (hn : n ≤ 9223372036854775807) (w : World) :
    Calls Try.prog 59 #[.agg #[.int .i64 W, .int .i64 H, .slice a n c]] w fun e w' => e = .returned (.bool (Rc.mayV W H n)) ∧ Below w.heap.size w w' := by
  have B := box1 w (.cells #[.int .i64 W, .int .i64 H, .slice a n c] 24)
  cases h : Rc.sized W H
  · have X := Lib.hid (show Rc.mayV W H n = false by simp [Rc.mayV, h])
    go_enter Try.func59, Try.ntmps59
    go_wp2_with (go_at_call 60; refine (refSized_any W H _).mono ?_; rw [h]; rintro e w1 ⟨rfl, rfl⟩)
    go_ret
    exact ⟨ret_b X.out.symm, B⟩
  · have X := Lib.hid (show ((n : Int) == W * H) = Rc.mayV W H n by simp [Rc.mayV, h]; rfl)
    have hm : wrap64 (W * H) = W * H := by
      obtain ⟨h1, h2, h3, h4, h5⟩ := Rc.sized_iff.1 h
      have q1 : 0 ≤ W * H := Int.mul_nonneg (by omega) (by omega)
      rw [IntWalk.wrap64_in] <;> omega
    go_enter Try.func59, Try.ntmps59
    go_wp2_with (go_at_call 60; refine (refSized_any W H _).mono ?_; rw [h]; rintro e w1 ⟨rfl, rfl⟩)
    go_ret
    exact ⟨ret_b X.out, B⟩
theorem as_any (W H : Int) (a : Option Addr) (n c : Nat) (w : World) :
    Calls Try.prog 20 #[.agg #[.int .i64 W, .int .i64 H, .slice a n c]] w fun e w' => e = .returned (.agg #[.int .i64 W, .int .i64 H, .slice a n c]) ∧ Below w.heap.size w w' := by
  go_enter Try.func20, Try.ntmps20
  go_wp2
  go_returns
  exact ⟨rfl, by go_grown⟩
theorem of_any (W H : Int) (a : Option Addr) (n c : Nat) (w : World) :
    Calls Try.prog 15 #[.agg #[.int .i64 W, .int .i64 H, .slice a n c]] w fun e w' => e = .returned (.agg #[.int .i64 W, .int .i64 H, .slice a n c]) ∧ Below w.heap.size w w' := by
  go_enter Try.func15, Try.ntmps15
  go_wp2
  go_returns
  exact ⟨rfl, by go_grown⟩
set_option maxHeartbeats 2000000 in
theorem covers_any (W H : Int) (a : Option Addr) (n c : Nat) (x y p q : Int) (hm : Rc.mayV W H n = true) (w : World) :
    Calls Try.prog 62 #[.agg #[.int .i64 W, .int .i64 H, .slice a n c], .agg #[.int .i64 x, .int .i64 y], .int .i64 p, .int .i64 q] w fun e w' => e = .returned (.bool (Rc.insV x p W && Rc.insV y q H)) ∧ Below w.heap.size w w' := by
  obtain ⟨⟨h1, h2, h3, h4, h5⟩, h6⟩ := Rc.mayV_iff.1 hm
  have B := (box2 w (.cells #[.int .i64 W, .int .i64 H, .slice a n c] 27) (.cells #[.int .i64 x, .int .i64 y] 101))
  have D : Mb ((w.alloc (.cells #[.int .i64 W, .int .i64 H, .slice a n c] 27)).alloc (.cells #[.int .i64 x, .int .i64 y] 101)) w.heap.size W H a n c := by refine ⟨?_, ?_, ?_⟩ <;> simp [go_sem]
  have E : Pb ((w.alloc (.cells #[.int .i64 W, .int .i64 H, .slice a n c] 27)).alloc (.cells #[.int .i64 x, .int .i64 y] 101)) (w.heap.size + 1) x y := by refine ⟨?_, ?_⟩ <;> simp [go_sem]
  have HD := Lib.hid D
  have HE := Lib.hid E
  have hn : n ≤ 9223372036854775807 := by omega
  have iW : I64 W := by unfold I64; omega
  have iH : I64 H := by unfold I64; omega
  clear h6 h5 D E
  cases k1 : Rc.insV x p W
  · have X := Lib.hid (show (false && Rc.insV y q H) = false from rfl)
    go_enter Try.func62, Try.ntmps62
    go_wp2_with (first
      | (go_at_call 57; refine (may_any W H a n c hn _).mono ?_; rw [hm]; rintro e w1 ⟨rfl, hb⟩; replace B := bel_step B hb; obtain ⟨d0, d1, d2⟩ := HD.out.later hb; obtain ⟨e0, e1⟩ := HE.out.later hb)
      | (go_at_call 99; refine (inside_any x p W iW _).mono ?_; rw [k1]; rintro e w1 ⟨rfl, rfl⟩))
    go_ret
    exact ⟨ret_b X.out.symm, B⟩
  · have X := Lib.hid (show (true && Rc.insV y q H) = Rc.insV y q H from rfl)
    go_enter Try.func62, Try.ntmps62
    go_wp2_with (first
      | (go_at_call 57; refine (may_any W H a n c hn _).mono ?_; rw [hm]; rintro e w1 ⟨rfl, hb⟩; replace B := bel_step B hb; obtain ⟨d0, d1, d2⟩ := HD.out.later hb; obtain ⟨e0, e1⟩ := HE.out.later hb)
      | (go_at_call 99; first
        | ((with_reducible refine (inside_any x p W iW _).mono ?_); rw [k1]; rintro e w1 ⟨rfl, rfl⟩)
        | ((with_reducible refine (inside_any y q H iH _).mono ?_); rintro e w1 ⟨rfl, rfl⟩)))
    go_ret
    exact ⟨ret_b X.out.symm, B⟩
end Go.Proofs.Ytldhhhmihfcalaa
