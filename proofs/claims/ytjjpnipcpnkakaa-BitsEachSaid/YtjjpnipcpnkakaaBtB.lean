/- A byte's bits, over any memory. Condition: the byte fits its kind. -/
import Derived.Test.YtjjpnipcpnkakaaBtA
import Derived.Laws.BitsAllLaws
namespace Go.Proofs.Ytjjpnipcpnkakaa
open Go.RowKit
set_option linter.unusedVariables false
namespace Bt
theorem and1 (d : Int) (h : 0 ≤ d) (h2 : d ≤ 255) : Go.bits BinOp.and IntKind.u8 d 1 = d % 2 := by
  obtain ⟨n, rfl⟩ : ∃ n : Nat, d = n := ⟨d.toNat, by omega⟩
  have := u8_and_nat n 1 (by omega) (by omega)
  rw [show ((1 : Nat) : Int) = 1 from rfl] at this
  rw [this, Nat.and_one_is_mod]
  omega
set_option maxRecDepth 100000 in
theorem split_any (c : Int) (h0 : 0 ≤ c) (h1 : c ≤ 255) (w : World) : Calls Try.prog 92 #[.int .u8 c] w fun e w' => e = .returned (.agg #[.int .i64 (c / 128 % 2), .int .i64 (c / 64 % 2), .int .i64 (c / 32 % 2), .int .i64 (c / 16 % 2), .int .i64 (c / 8 % 2), .int .i64 (c / 4 % 2), .int .i64 (c / 2 % 2), .int .i64 (c % 2)]) ∧ Below w.heap.size w w' := by
  have N : ∀ d, 0 ≤ d → d ≤ 255 → ∃ x, Go.bits BinOp.and IntKind.u8 d 1 = x ∧ 0 ≤ x ∧ x ≤ 1 ∧ Hid (d % 2 = x) := fun d h k => ⟨d % 2, and1 d h k, by omega, by omega, Lib.hid rfl⟩
  obtain ⟨x0, e0, p0, q0, H0⟩ := N c (by omega) (by omega)
  obtain ⟨x1, e1, p1, q1, H1⟩ := N (c / 2) (by omega) (by omega)
  obtain ⟨x2, e2, p2, q2, H2⟩ := N (c / 4) (by omega) (by omega)
  obtain ⟨x3, e3, p3, q3, H3⟩ := N (c / 8) (by omega) (by omega)
  obtain ⟨x4, e4, p4, q4, H4⟩ := N (c / 16) (by omega) (by omega)
  obtain ⟨x5, e5, p5, q5, H5⟩ := N (c / 32) (by omega) (by omega)
  obtain ⟨x6, e6, p6, q6, H6⟩ := N (c / 64) (by omega) (by omega)
  obtain ⟨x7, e7, p7, q7, H7⟩ := N (c / 128) (by omega) (by omega)
  rw [H0.out, H1.out, H2.out, H3.out, H4.out, H5.out, H6.out, H7.out]
  clear N
  go_enter Try.func92, Try.ntmps92
  go_wp2
  go_rounds 9
  exact bodyPost_ret (v := .agg #[.int .i64 x7, .int .i64 x6, .int .i64 x5, .int .i64 x4, .int .i64 x3, .int .i64 x2, .int .i64 x1, .int .i64 x0]) (by simp [results, Try.results92, go_sem]) rfl ⟨rfl, by go_grown⟩
end Bt
end Go.Proofs.Ytjjpnipcpnkakaa
