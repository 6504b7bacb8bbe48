/- The number of a text, over any memory, by the document. Condition: numbers fit their kinds. -/
import Derived.Test.YthikjjcoejdjiaaNumH
namespace Go.Proofs.Ythikjjcoejdjiaa
open Go.RowKit
set_option linter.unusedVariables false
set_option maxRecDepth 100000 in
set_option maxHeartbeats 2000000 in
theorem refParse_any (s : ByteArray) (most : Int) (m0 : 0 ≤ most) (m1 : most ≤ 4611686018427387903) (hs : s.size ≤ maxLen) (w : World) :
    Calls Try.prog 12 #[.string s, .int .i64 most] w (ParseR s most w) := by
  unfold maxLen at hs
  by_cases h0 : s.size = 0
  · have X := Lib.hid (show Nu.parseV (bytesOf s) most = (0, 3) by unfold Nu.parseV; rw [if_pos (List.eq_nil_of_length_eq_zero (by rw [bytesOf_length]; exact h0))])
    have e1 := isEmpty_of h0
    have e2 : s.toList = [] := List.isEmpty_iff.1 e1
    go_enter Try.func12, Try.ntmps12
    go_wp2
    go_loop [7] (fun ub => ub = .int .i64 0) (fun _ => 0)
    case atStart => exact rfl
    case round =>
      obtain rfl := hrel
      have HS := Lib.hid h0
      have hz : decide ((0 : Int) < (s.size : Int)) = false := decide_eq_false (by omega)
      have hz2 : ¬ (0 : Int) < (s.size : Int) := by omega
      clear h0
      go_wp2
      go_ret2
      exact ⟨ret_step X.out, rfl⟩
  · have X := Lib.hid (show Nu.parseV (bytesOf s) most = Nu.parseF most 0 (bytesOf s) by unfold Nu.parseV; rw [if_neg (fun h => h0 (by rw [← bytesOf_length, h]; rfl))])
    have e1 : (!s.toList.isEmpty) = true := by simp only [not_empty_of h0]; rfl
    have e2 := not_empty_of h0
    clear h0
    go_enter Try.func12, Try.ntmps12
    go_wp2
    go_loop [6, 7] (fun ua ub => ∃ (k : Nat) (n : Int), k ≤ s.size ∧ ua = .int .i64 n ∧ ub = .int .i64 k ∧ 0 ≤ n ∧ n ≤ most ∧ Nu.parseF most 0 (bytesOf s) = Nu.parseF most n ((bytesOf s).drop k)) (fun _ ub => s.size - (intOf ub).toNat)
    case atStart => exact ⟨0, 0, Nat.zero_le _, rfl, rfl, by omega, m0, rfl⟩
    case round =>
      obtain ⟨k, n, hk, rfl, rfl, n0, n1, hx⟩ := hrel
      by_cases hlt : k < s.size
      · rw [bytesOf_drop s k hlt] at hx
        have c0 : (0 : Int) ≤ (s[k].toNat : Int) := by omega
        have c1 : (s[k].toNat : Int) ≤ 255 := by have := s[k].toNat_lt; omega
        obtain ⟨t, ht⟩ : ∃ t, Nu.stepV n (s[k].toNat : Int) most = t := ⟨_, rfl⟩
        obtain ⟨m, er⟩ := t
        have HX := Lib.hid hx
        have HT := Lib.hid ht
        clear hx ht
        by_cases he : er = 0
        · have hm := Nu.stepV_le n (s[k].toNat : Int) most n0 n1 (by rw [HT.out]; exact he)
          rw [HT.out] at hm
          obtain ⟨q0, q1⟩ := hm
          subst he
          have HN : Hid (Nu.parseF most n ((s[k].toNat : Int) :: (bytesOf s).drop (k + 1)) = Nu.parseF most m ((bytesOf s).drop (k + 1))) := by show _ = _; rw [Nu.parseF, HT.out, if_pos rfl]
          have HC : Hid (∀ W, Calls Try.prog 17 #[.int .i64 n, .int .u8 (s[k].toNat : Int), .int .i64 most] W fun r w' => r = .returned (.tuple #[.int .i64 m, .int .i64 0]) ∧ W = w') := fun W => refStep_two n _ most n0 n1 m1 c0 c1 m 0 HT.out W
          go_wp2_with (go_at_call 17; refine (HC.out _).mono ?_; rintro e w1 ⟨rfl, rfl⟩)
          go_round
          case rel => exact ⟨k + 1, m, by omega, rfl, by go_num, q0, q1, by rw [HX.out, HN.out]⟩
          case measure => simp [intOf]; omega
        · have HN : Hid (Nu.parseF most n ((s[k].toNat : Int) :: (bytesOf s).drop (k + 1)) = (0, er)) := by show _ = _; rw [Nu.parseF, HT.out, if_neg he]
          have HC : Hid (∀ W, Calls Try.prog 17 #[.int .i64 n, .int .u8 (s[k].toNat : Int), .int .i64 most] W fun r w' => r = .returned (.tuple #[.int .i64 m, .int .i64 er]) ∧ W = w') := fun W => refStep_two n _ most n0 n1 m1 c0 c1 m er HT.out W
          have ke : (er != 0) = true := by simpa using he
          clear he
          go_wp2_with (go_at_call 17; refine (HC.out _).mono ?_; rintro e w1 ⟨rfl, rfl⟩)
          go_ret2
          exact ⟨ret_step (by rw [X.out, HX.out, HN.out]), rfl⟩
      · have HX := Lib.hid hx
        have HD : Hid ((bytesOf s).drop k = []) := List.drop_eq_nil_of_le (by rw [bytesOf_length]; omega)
        clear hx
        go_wp2
        go_ret2
        exact ⟨ret_step (by rw [X.out, HX.out, HD.out]; rfl), rfl⟩
end Go.Proofs.Ythikjjcoejdjiaa
