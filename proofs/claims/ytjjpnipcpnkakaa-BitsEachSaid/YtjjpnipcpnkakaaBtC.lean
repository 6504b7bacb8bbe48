/- The byte of eight bits, over any memory. Condition: bits are 0 or 1. -/
import Derived.Test.YtjjpnipcpnkakaaBtA
import Derived.Laws.BitsAllLaws
namespace Go.Proofs.Ytjjpnipcpnkakaa
open Go.RowKit
set_option linter.unusedVariables false
namespace Bt
theorem or1 (n x : Int) (h : 0 ≤ n) (h2 : n ≤ 127) (a : 0 ≤ x) (b : x ≤ 1) : Go.bits BinOp.or IntKind.u8 (n * 2) x = n * 2 + x := by
  obtain ⟨n, rfl⟩ : ∃ m : Nat, n = m := ⟨n.toNat, by omega⟩
  obtain ⟨x, rfl⟩ : ∃ m : Nat, x = m := ⟨x.toNat, by omega⟩
  have := u8_or_nat (n * 2) x (by omega) (by omega)
  rw [Int.natCast_mul] at this
  rw [show ((2 : Nat) : Int) = 2 from rfl] at this
  rw [this]
  have e : n * 2 ||| x = n * 2 + x := by
    rw [show n * 2 = 2 ^ 1 * n by omega]
    exact (Nat.two_pow_add_eq_or_of_lt (i := 1) (by omega) n).symm
  rw [e]; omega
set_option maxRecDepth 100000 in
theorem join_any (x7 x6 x5 x4 x3 x2 x1 x0 : Int) (a7 : 0 ≤ x7) (b7 : x7 ≤ 1) (a6 : 0 ≤ x6) (b6 : x6 ≤ 1) (a5 : 0 ≤ x5) (b5 : x5 ≤ 1) (a4 : 0 ≤ x4) (b4 : x4 ≤ 1) (a3 : 0 ≤ x3) (b3 : x3 ≤ 1) (a2 : 0 ≤ x2) (b2 : x2 ≤ 1) (a1 : 0 ≤ x1) (b1 : x1 ≤ 1) (a0 : 0 ≤ x0) (b0 : x0 ≤ 1) (w : World) :
    Calls Try.prog 91 #[.agg #[.int .i64 x7, .int .i64 x6, .int .i64 x5, .int .i64 x4, .int .i64 x3, .int .i64 x2, .int .i64 x1, .int .i64 x0]] w fun e w' => e = .returned (.int .u8 (num [x7, x6, x5, x4, x3, x2, x1, x0] 0)) ∧ Below w.heap.size w w' := by
  have N : ∀ n m x : Int, 0 ≤ n → n ≤ m → 0 ≤ x → x ≤ 1 → m ≤ 127 → ∃ r, Go.bits BinOp.or IntKind.u8 (n * 2) x = r ∧ 0 ≤ r ∧ r ≤ m * 2 + 1 ∧ Hid (n * 2 + x = r) := fun n m x h k a b c => ⟨n * 2 + x, or1 n x h (by omega) a b, by omega, by omega, Lib.hid rfl⟩
  have i0 : ∀ w, (Instr.index 127 (.agg #[.int .i64 x7, .int .i64 x6, .int .i64 x5, .int .i64 x4, .int .i64 x3, .int .i64 x2, .int .i64 x1, .int .i64 x0]) (.int .i64 0)).run Try.prog w = .ok (.int .i64 x7) w := fun _ => by kernel_rfl
  have i1 : ∀ w, (Instr.index 127 (.agg #[.int .i64 x7, .int .i64 x6, .int .i64 x5, .int .i64 x4, .int .i64 x3, .int .i64 x2, .int .i64 x1, .int .i64 x0]) (.int .i64 1)).run Try.prog w = .ok (.int .i64 x6) w := fun _ => by kernel_rfl
  have i2 : ∀ w, (Instr.index 127 (.agg #[.int .i64 x7, .int .i64 x6, .int .i64 x5, .int .i64 x4, .int .i64 x3, .int .i64 x2, .int .i64 x1, .int .i64 x0]) (.int .i64 2)).run Try.prog w = .ok (.int .i64 x5) w := fun _ => by kernel_rfl
  have i3 : ∀ w, (Instr.index 127 (.agg #[.int .i64 x7, .int .i64 x6, .int .i64 x5, .int .i64 x4, .int .i64 x3, .int .i64 x2, .int .i64 x1, .int .i64 x0]) (.int .i64 3)).run Try.prog w = .ok (.int .i64 x4) w := fun _ => by kernel_rfl
  have i4 : ∀ w, (Instr.index 127 (.agg #[.int .i64 x7, .int .i64 x6, .int .i64 x5, .int .i64 x4, .int .i64 x3, .int .i64 x2, .int .i64 x1, .int .i64 x0]) (.int .i64 4)).run Try.prog w = .ok (.int .i64 x3) w := fun _ => by kernel_rfl
  have i5 : ∀ w, (Instr.index 127 (.agg #[.int .i64 x7, .int .i64 x6, .int .i64 x5, .int .i64 x4, .int .i64 x3, .int .i64 x2, .int .i64 x1, .int .i64 x0]) (.int .i64 5)).run Try.prog w = .ok (.int .i64 x2) w := fun _ => by kernel_rfl
  have i6 : ∀ w, (Instr.index 127 (.agg #[.int .i64 x7, .int .i64 x6, .int .i64 x5, .int .i64 x4, .int .i64 x3, .int .i64 x2, .int .i64 x1, .int .i64 x0]) (.int .i64 6)).run Try.prog w = .ok (.int .i64 x1) w := fun _ => by kernel_rfl
  have i7 : ∀ w, (Instr.index 127 (.agg #[.int .i64 x7, .int .i64 x6, .int .i64 x5, .int .i64 x4, .int .i64 x3, .int .i64 x2, .int .i64 x1, .int .i64 x0]) (.int .i64 7)).run Try.prog w = .ok (.int .i64 x0) w := fun _ => by kernel_rfl
  obtain ⟨n1, e1, l1, u1, H1⟩ := N 0 0 x7 (by omega) (by omega) a7 b7 (by omega)
  rw [Int.zero_mul] at e1
  obtain ⟨n2, e2, l2, u2, H2⟩ := N n1 1 x6 (by omega) (by omega) a6 b6 (by omega)
  obtain ⟨n3, e3, l3, u3, H3⟩ := N n2 3 x5 (by omega) (by omega) a5 b5 (by omega)
  obtain ⟨n4, e4, l4, u4, H4⟩ := N n3 7 x4 (by omega) (by omega) a4 b4 (by omega)
  obtain ⟨n5, e5, l5, u5, H5⟩ := N n4 15 x3 (by omega) (by omega) a3 b3 (by omega)
  obtain ⟨n6, e6, l6, u6, H6⟩ := N n5 31 x2 (by omega) (by omega) a2 b2 (by omega)
  obtain ⟨n7, e7, l7, u7, H7⟩ := N n6 63 x1 (by omega) (by omega) a1 b1 (by omega)
  obtain ⟨n8, e8, l8, u8, H8⟩ := N n7 127 x0 (by omega) (by omega) a0 b0 (by omega)
  have X := Lib.hid (show n8 = num [x7, x6, x5, x4, x3, x2, x1, x0] 0 by simp only [num]; rw [H1.out, H2.out, H3.out, H4.out, H5.out, H6.out, H7.out, H8.out])
  clear N
  go_enter Try.func91, Try.ntmps91
  go_wp2
  go_rounds 9
  go_ret
  exact ⟨ret_i X.out, by go_grown⟩
end Bt
end Go.Proofs.Ytjjpnipcpnkakaa
