/- Two turns in one, and the turn back, of any numbers, by the code, over any memory. Condition: numbers fit their kinds. -/
import Derived.Test.YtlihkdbbcnmbmaaTurF
namespace Go.Proofs.Ytlihkdbbcnmbmaa
open Go.RowKit
set_option linter.unusedVariables false

set_option maxHeartbeats 2000000 in
theorem then_any (g h : Int) (w : World) :
    Calls Try.prog 48 #[.int .i64 g, .int .i64 h] w fun e w' => e = .returned (.int .i64 (Tu.thenI g h)) ∧ w = w' := by
  cases hg : Tu.isT g with
  | false =>
    have T1 := Lib.hid hg
    rw [Tu.thenI_no1 hg]
    clear hg
    go_enter Try.func48, Try.ntmps48
    go_wp2_with (go_at_call 43; refine (turnMay_any _ _).mono ?_; rw [T1.out]; rintro e w1 ⟨rfl, rfl⟩)
    go_ret
    exact ⟨rfl, rfl⟩
  | true =>
    cases hh : Tu.isT h with
    | false =>
      have T1 := Lib.hid hg
      have T2 := Lib.hid hh
      rw [Tu.thenI_no2 hh]
      clear hg hh
      go_enter Try.func48, Try.ntmps48
      go_wp2_with (go_at_call 43; refine (turnMay_any _ _).mono ?_; (first | rw [T1.out] | rw [T2.out]); rintro e w1 ⟨rfl, rfl⟩)
      go_ret
      exact ⟨rfl, rfl⟩
    | true =>
      obtain ⟨m, hm, rfl⟩ := Tu.isT_nat hg
      obtain ⟨n, hn, rfl⟩ := Tu.isT_nat hh
      rw [Tu.thenI_nat hm hn]
      exact then_yes m n hm hn w
set_option maxHeartbeats 2000000 in
theorem back_any (g : Int) (w : World) :
    Calls Try.prog 49 #[.int .i64 g] w fun e w' => e = .returned (.int .i64 (Tu.backI g)) ∧ w = w' := by
  go_enter Try.func49, Try.ntmps49
  go_wp2
  go_loop [4] (fun i => ∃ k : Nat, k ≤ 8 ∧ i = .int .i64 k ∧ Hid (∀ j, j < k → Tu.thenI g (j : Nat) ≠ 0)) (fun i => 8 - (intOf i).toNat)
  case atStart => exact ⟨0, by omega, rfl, fun j hj => absurd hj (Nat.not_lt_zero _)⟩
  case round =>
    obtain ⟨k, hk, rfl, hA⟩ := hrel
    by_cases hlt : k < 8
    · have hltI : (k : Int) < 8 := by omega
      by_cases hq : Tu.thenI g (k : Nat) = 0
      · have HQ := Lib.hid hq
        have HR := Lib.hid (Tu.backI_hit hlt hq)
        clear hq
        go_wp2_with (go_at_call 48; refine (then_any _ _ _).mono ?_; rw [HQ.out]; rintro e w1 ⟨rfl, rfl⟩)
        go_ret
        exact ⟨Ar.ret_i HR.out.symm, rfl⟩
      · obtain ⟨t, ht⟩ : ∃ t, Tu.thenI g (k : Nat) = t := ⟨_, rfl⟩
        rw [ht] at hq
        have HQ := Lib.hid ht
        clear ht
        go_wp2_with (go_at_call 48; refine (then_any _ _ _).mono ?_; rw [HQ.out]; rintro e w1 ⟨rfl, rfl⟩)
        go_round
        case rel =>
          refine ⟨k + 1, by omega, by go_num, fun j hj => ?_⟩
          by_cases e : j = k
          · subst e; rw [HQ.out]; exact hq
          · exact hA.out j (by omega)
        case measure => simp [intOf]; omega
    · have hltI : ¬ (k : Int) < 8 := by omega
      obtain rfl : k = 8 := by omega
      have HR := Lib.hid (Tu.backI_miss hA.out)
      go_wp2
      go_ret
      exact ⟨Ar.ret_i HR.out.symm, rfl⟩
theorem name_no (g : Int) (hg : Tu.isT g = false) (w : World) :
    Calls Try.prog 44 #[.int .i64 g] w fun e w' => e = .returned (.string ⟨#[]⟩) ∧ w = w' := by
  have T1 := Lib.hid hg
  clear hg
  go_enter Try.func44, Try.ntmps44
  go_wp2_with (go_at_call 43; refine (turnMay_any _ _).mono ?_; rw [T1.out]; rintro e w1 ⟨rfl, rfl⟩)
  go_ret
  exact ⟨rfl, rfl⟩
theorem name_0 (w : World) :
    Calls Try.prog 44 #[.int .i64 0] w fun e w' => e = .returned (.string ⟨#[114, 48]⟩) ∧ w = w' := by
  go_enter Try.func44, Try.ntmps44
  go_wp2_with (first
    | (go_at_call 43; refine (turnMay_any _ _).mono ?_; rw [show Tu.isT 0 = true from rfl]; rintro e w1 ⟨rfl, rfl⟩)
    | (go_at_call 77; refine (mirrors_any _ _).mono ?_; rw [show decide ((4 : Int) ≤ 0) = false from rfl]; rintro e w1 ⟨rfl, rfl⟩))
  go_ret
  exact ⟨rfl, rfl⟩
theorem name_1 (w : World) :
    Calls Try.prog 44 #[.int .i64 1] w fun e w' => e = .returned (.string ⟨#[114, 49]⟩) ∧ w = w' := by
  go_enter Try.func44, Try.ntmps44
  go_wp2_with (first
    | (go_at_call 43; refine (turnMay_any _ _).mono ?_; rw [show Tu.isT 1 = true from rfl]; rintro e w1 ⟨rfl, rfl⟩)
    | (go_at_call 77; refine (mirrors_any _ _).mono ?_; rw [show decide ((4 : Int) ≤ 1) = false from rfl]; rintro e w1 ⟨rfl, rfl⟩))
  go_ret
  exact ⟨rfl, rfl⟩
theorem name_2 (w : World) :
    Calls Try.prog 44 #[.int .i64 2] w fun e w' => e = .returned (.string ⟨#[114, 50]⟩) ∧ w = w' := by
  go_enter Try.func44, Try.ntmps44
  go_wp2_with (first
    | (go_at_call 43; refine (turnMay_any _ _).mono ?_; rw [show Tu.isT 2 = true from rfl]; rintro e w1 ⟨rfl, rfl⟩)
    | (go_at_call 77; refine (mirrors_any _ _).mono ?_; rw [show decide ((4 : Int) ≤ 2) = false from rfl]; rintro e w1 ⟨rfl, rfl⟩))
  go_ret
  exact ⟨rfl, rfl⟩
theorem name_3 (w : World) :
    Calls Try.prog 44 #[.int .i64 3] w fun e w' => e = .returned (.string ⟨#[114, 51]⟩) ∧ w = w' := by
  go_enter Try.func44, Try.ntmps44
  go_wp2_with (first
    | (go_at_call 43; refine (turnMay_any _ _).mono ?_; rw [show Tu.isT 3 = true from rfl]; rintro e w1 ⟨rfl, rfl⟩)
    | (go_at_call 77; refine (mirrors_any _ _).mono ?_; rw [show decide ((4 : Int) ≤ 3) = false from rfl]; rintro e w1 ⟨rfl, rfl⟩))
  go_ret
  exact ⟨rfl, rfl⟩
theorem name_4 (w : World) :
    Calls Try.prog 44 #[.int .i64 4] w fun e w' => e = .returned (.string ⟨#[115, 48]⟩) ∧ w = w' := by
  go_enter Try.func44, Try.ntmps44
  go_wp2_with (first
    | (go_at_call 43; refine (turnMay_any _ _).mono ?_; rw [show Tu.isT 4 = true from rfl]; rintro e w1 ⟨rfl, rfl⟩)
    | (go_at_call 77; refine (mirrors_any _ _).mono ?_; rw [show decide ((4 : Int) ≤ 4) = true from rfl]; rintro e w1 ⟨rfl, rfl⟩))
  go_ret
  exact ⟨rfl, rfl⟩
theorem name_5 (w : World) :
    Calls Try.prog 44 #[.int .i64 5] w fun e w' => e = .returned (.string ⟨#[115, 49]⟩) ∧ w = w' := by
  go_enter Try.func44, Try.ntmps44
  go_wp2_with (first
    | (go_at_call 43; refine (turnMay_any _ _).mono ?_; rw [show Tu.isT 5 = true from rfl]; rintro e w1 ⟨rfl, rfl⟩)
    | (go_at_call 77; refine (mirrors_any _ _).mono ?_; rw [show decide ((4 : Int) ≤ 5) = true from rfl]; rintro e w1 ⟨rfl, rfl⟩))
  go_ret
  exact ⟨rfl, rfl⟩
theorem name_6 (w : World) :
    Calls Try.prog 44 #[.int .i64 6] w fun e w' => e = .returned (.string ⟨#[115, 50]⟩) ∧ w = w' := by
  go_enter Try.func44, Try.ntmps44
  go_wp2_with (first
    | (go_at_call 43; refine (turnMay_any _ _).mono ?_; rw [show Tu.isT 6 = true from rfl]; rintro e w1 ⟨rfl, rfl⟩)
    | (go_at_call 77; refine (mirrors_any _ _).mono ?_; rw [show decide ((4 : Int) ≤ 6) = true from rfl]; rintro e w1 ⟨rfl, rfl⟩))
  go_ret
  exact ⟨rfl, rfl⟩
theorem name_7 (w : World) :
    Calls Try.prog 44 #[.int .i64 7] w fun e w' => e = .returned (.string ⟨#[115, 51]⟩) ∧ w = w' := by
  go_enter Try.func44, Try.ntmps44
  go_wp2_with (first
    | (go_at_call 43; refine (turnMay_any _ _).mono ?_; rw [show Tu.isT 7 = true from rfl]; rintro e w1 ⟨rfl, rfl⟩)
    | (go_at_call 77; refine (mirrors_any _ _).mono ?_; rw [show decide ((4 : Int) ≤ 7) = true from rfl]; rintro e w1 ⟨rfl, rfl⟩))
  go_ret
  exact ⟨rfl, rfl⟩
end Go.Proofs.Ytlihkdbbcnmbmaa
