/- TurnGroup: turns one behind the other may be put together in any way; the first one changes nothing: the walk of the law. No condition. -/
import Derived.Test.YtlihkdbbcnmbmaaTurE
import Derived.Test.YtlihkdbbcnmbmaaTurG
namespace Go.Proofs.Ytlihkdbbcnmbmaa
open Go.RowKit
set_option linter.unusedVariables false

namespace Tu
theorem then_assoc {a b c : Nat} (ha : a < 8) (hb : b < 8) (hc : c < 8) : thenN (thenN a b) c = thenN a (thenN b c) := by
  have h : ∀ a, a < 8 → ∀ b, b < 8 → ∀ c, c < 8 → thenN (thenN a b) c = thenN a (thenN b c) := by decide
  exact h a ha b hb c hc
theorem then_one {a : Nat} (ha : a < 8) : thenN a 0 = a ∧ thenN 0 a = a ∧ thenN a (backN a) = 0 ∧ thenN (backN a) a = 0 ∧ backN (backN a) = a := by
  have h : ∀ a, a < 8 → thenN a 0 = a ∧ thenN 0 a = a ∧ thenN a (backN a) = 0 ∧ thenN (backN a) a = 0 ∧ backN (backN a) = a := by decide
  exact h a ha
theorem group_facts {A B C : Int} (hA : isT A = true) (hB : isT B = true) (hC : isT C = true) : ∃ X Y Z K, thenI A B = X ∧ thenI B C = Y ∧ thenI X C = Z ∧ thenI A Y = Z ∧ thenI A 0 = A ∧ thenI 0 A = A ∧ backI A = K ∧ thenI A K = 0 ∧ thenI K A = 0 ∧ backI K = A := by
  obtain ⟨a, ha, rfl⟩ := isT_nat hA
  obtain ⟨b, hb, rfl⟩ := isT_nat hB
  obtain ⟨c, hc, rfl⟩ := isT_nat hC
  obtain ⟨h1, h2, h3, h4, h5⟩ := then_one ha
  have h0 : (0 : Nat) < 8 := by omega
  have q1 := thenN_lt ha hb
  have q2 := thenN_lt hb hc
  have q3 := backN_lt ha
  refine ⟨_, _, _, _, thenI_nat ha hb, thenI_nat hb hc, rfl, ?_, ?_, ?_, backI_nat ha, ?_, ?_, ?_⟩
  · rw [thenI_nat ha q2, thenI_nat q1 hc, then_assoc ha hb hc]
  · have := thenI_nat ha h0; rw [h1] at this; exact this
  · have := thenI_nat h0 ha; rw [h2] at this; exact this
  · rw [thenI_nat ha q3, h3]; rfl
  · rw [thenI_nat q3 ha, h4]; rfl
  · rw [backI_nat q3, h5]
theorem around_turn (n : Int) : isT (Ar.around n 8) = true := by
  obtain ⟨h1, h2⟩ := Ar.around_lt n 8 (by omega)
  exact isT_iff.2 ⟨h1, h2⟩
end Tu
set_option maxHeartbeats 2000000 in
theorem turnGroup_walk (a0 : Int) (a1 : Int) (a2 : Int) (w : World) (w0 : (Lit.int .i64 a0).wf = true) (w1 : (Lit.int .i64 a1).wf = true) (w2 : (Lit.int .i64 a2).wf = true) :
    Calls Try.prog 8 #[.int .i64 a0, .int .i64 a1, .int .i64 a2] w fun e w' => e = .returned (.bool true) ∧ Below w.heap.size w w' := by
  have R0 := Lib.hid (fun W2 => aroundOf a0 8 (wfI w0).1 (wfI w0).2 (by omega) (by omega) W2)
  have R1 := Lib.hid (fun W2 => aroundOf a1 8 (wfI w1).1 (wfI w1).2 (by omega) (by omega) W2)
  have R2 := Lib.hid (fun W2 => aroundOf a2 8 (wfI w2).1 (wfI w2).2 (by omega) (by omega) W2)
  obtain ⟨X, Y, Z, K, f1, f2, f3, f4, f5, f6, f7, f8, f9, f10⟩ := Tu.group_facts (Tu.around_turn a0) (Tu.around_turn a1) (Tu.around_turn a2)
  obtain ⟨A, hA⟩ : ∃ A, Ar.around a0 8 = A := ⟨_, rfl⟩
  obtain ⟨B, hB⟩ : ∃ B, Ar.around a1 8 = B := ⟨_, rfl⟩
  obtain ⟨C, hC⟩ : ∃ C, Ar.around a2 8 = C := ⟨_, rfl⟩
  rw [hA] at R0 f1 f4 f5 f6 f7 f8 f9 f10
  rw [hB] at R1 f1 f2
  rw [hC] at R2 f2 f3
  have F1 := Lib.hid f1
  have F2 := Lib.hid f2
  have F3 := Lib.hid f3
  have F4 := Lib.hid f4
  have F5 := Lib.hid f5
  have F6 := Lib.hid f6
  have F7 := Lib.hid f7
  have F8 := Lib.hid f8
  have F9 := Lib.hid f9
  have F10 := Lib.hid f10
  clear f1 f2 f3 f4 f5 f6 f7 f8 f9 f10 hA hB hC w0 w1 w2
  go_enter Try.func8, Try.ntmps8
  go_wp2_with (first
    | (go_at_call 37; first | (with_reducible refine (R0.out _).mono ?_; rintro e w9 ⟨rfl, rfl⟩) | (with_reducible refine (R1.out _).mono ?_; rintro e w9 ⟨rfl, rfl⟩) | (with_reducible refine (R2.out _).mono ?_; rintro e w9 ⟨rfl, rfl⟩))
    | (go_at_call 48; refine (then_any _ _ _).mono ?_; (first | rw [F1.out] | rw [F2.out] | rw [F3.out] | rw [F4.out] | rw [F5.out] | rw [F6.out] | rw [F8.out] | rw [F9.out]); rintro e w9 ⟨rfl, rfl⟩)
    | (go_at_call 49; refine (back_any _ _).mono ?_; (first | rw [F7.out] | rw [F10.out]); rintro e w9 ⟨rfl, rfl⟩)
    | (go_at_call 47; refine (lives4_any _).mono ?_; rintro e w9 ⟨rfl, hb⟩))
  go_ret
  exact ⟨rfl, by assumption⟩
end Go.Proofs.Ytlihkdbbcnmbmaa
