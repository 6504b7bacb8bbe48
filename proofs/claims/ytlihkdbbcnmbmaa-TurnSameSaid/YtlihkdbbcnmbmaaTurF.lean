/- Two turns in one, and the turn back, by the code, over any memory. Condition: numbers fit their kinds. -/
import Derived.Test.YtlihkdbbcnmbmaaTurA
namespace Go.Proofs.Ytlihkdbbcnmbmaa
open Go.RowKit
set_option linter.unusedVariables false

namespace Tu
def thenI (g h : Int) : Int := if isT g = true ∧ isT h = true then (thenN g.toNat h.toNat : Nat) else -1
def backN (g : Nat) : Nat := if g < 4 then (4 - g) % 4 else g
def backI (g : Int) : Int := if isT g = true then (backN g.toNat : Nat) else -1
theorem backN_lt {g : Nat} (hg : g < 8) : backN g < 8 := by
  rcases turn8 hg with rfl | rfl | rfl | rfl | rfl | rfl | rfl | rfl <;> decide
theorem then_zero {g h : Nat} (hg : g < 8) (hh : h < 8) : thenN g h = 0 ↔ h = backN g := by
  rcases turn8 hg with rfl | rfl | rfl | rfl | rfl | rfl | rfl | rfl <;> rcases turn8 hh with rfl | rfl | rfl | rfl | rfl | rfl | rfl | rfl <;> decide
theorem thenI_nat {g h : Nat} (hg : g < 8) (hh : h < 8) : thenI g h = (thenN g h : Nat) := by
  unfold thenI
  rw [if_pos ⟨isT_iff.2 (by omega), isT_iff.2 (by omega)⟩]; rfl
theorem thenI_no1 {g h : Int} (hg : isT g = false) : thenI g h = -1 := by
  unfold thenI
  rw [if_neg (fun k => by rw [hg] at k; exact Bool.false_ne_true k.1)]
theorem thenI_no2 {g h : Int} (hg : isT h = false) : thenI g h = -1 := by
  unfold thenI
  rw [if_neg (fun k => by rw [hg] at k; exact Bool.false_ne_true k.2)]
theorem backI_nat {g : Nat} (hg : g < 8) : backI g = (backN g : Nat) := by
  unfold backI
  rw [if_pos (isT_iff.2 (by omega))]; rfl
/-- the first one that is a turn back -/
theorem backI_hit {g : Int} {k : Nat} (hk : k < 8) (h : thenI g k = 0) : backI g = k := by
  cases hg : isT g with
  | false => rw [thenI_no1 hg] at h; omega
  | true =>
    obtain ⟨n, hn, rfl⟩ := isT_nat hg
    rw [thenI_nat hn hk] at h
    rw [backI_nat hn, (then_zero hn hk).1 (by omega)]
theorem backI_miss {g : Int} (h : ∀ k, k < 8 → thenI g (k : Nat) ≠ 0) : backI g = -1 := by
  cases hg : isT g with
  | false => unfold backI; rw [hg]; rfl
  | true =>
    obtain ⟨n, hn, rfl⟩ := isT_nat hg
    exfalso
    refine h _ (backN_lt hn) ?_
    rw [thenI_nat hn (backN_lt hn), (then_zero hn (backN_lt hn)).2 rfl]; rfl
theorem then_parts {g h a b c r : Nat} (ha : g % 4 = a) (hb : h % 4 = b) (hc : (if 4 ≤ h then 4 - a else a) = c) (hr : (c + b) % 4 = r) : thenN g h = if (4 ≤ g) = (4 ≤ h) then r else 4 + r := by
  unfold thenN
  rw [ha, hb, hc, hr]
end Tu
theorem tmod4 (a : Nat) : (a : Int).tmod 4 = ((a % 4 : Nat) : Int) := by rw [Int.tmod_eq_emod_of_nonneg (by omega)]; rfl
set_option maxHeartbeats 2000000 in
theorem then_yes (g h : Nat) (hg : g < 8) (hh : h < 8) (w : World) :
    Calls Try.prog 48 #[.int .i64 g, .int .i64 h] w fun e w' => e = .returned (.int .i64 (Tu.thenN g h : Nat)) ∧ w = w' := by
  obtain ⟨a, ha⟩ : ∃ a, g % 4 = a := ⟨_, rfl⟩
  obtain ⟨b, hb⟩ : ∃ b, h % 4 = b := ⟨_, rfl⟩
  have X := fun c r => Tu.then_parts (c := c) (r := r) ha hb
  have hm1 := tmod4 g
  have hm2 := tmod4 h
  have T1 := Lib.hid (show Tu.isT (g : Int) = true by rw [Tu.isT_iff]; omega)
  have T2 := Lib.hid (show Tu.isT (h : Int) = true by rw [Tu.isT_iff]; omega)
  rw [ha] at hm1
  rw [hb] at hm2
  have ha3 : a < 4 := by omega
  have hb3 : b < 4 := by omega
  by_cases q1 : 4 ≤ g <;> by_cases q2 : 4 ≤ h
  · obtain ⟨r, hr⟩ : ∃ r, (4 - a + b) % 4 = r := ⟨_, rfl⟩
    have R := Lib.hid (show Tu.thenN g h = r by rw [X (4 - a) r (by rw [if_pos q2]) hr]; simp [q1, q2])
    have M1 := Lib.hid (show decide ((4 : Int) ≤ (g : Int)) = true from decide_eq_true (by omega))
    have M2 := Lib.hid (show decide ((4 : Int) ≤ (h : Int)) = true from decide_eq_true (by omega))
    obtain ⟨c, hc⟩ : ∃ c : Nat, 4 - a = c := ⟨_, rfl⟩
    have hc2 : (4 : Int) - a = c := by omega
    rw [hc] at hr
    have hm3 := tmod4 (c + b)
    rw [hr] at hm3
    have hm4 : ((c : Int) + b).tmod 4 = r := by rw [← hm3]; simp
    have hr3 : r < 4 := by omega
    clear X hr hm3 q1 q2 hg hh ha hb
    
    rw [R.out]
    go_enter Try.func48, Try.ntmps48
    go_wp2_with (first
      | (go_at_call 43; refine (turnMay_any _ _).mono ?_; (first | rw [T1.out] | rw [T2.out]); rintro e w1 ⟨rfl, rfl⟩)
      | (go_at_call 77; refine (mirrors_any _ _).mono ?_; (first | rw [M1.out] | rw [M2.out]); rintro e w1 ⟨rfl, rfl⟩))
    go_ret
    exact ⟨rfl, rfl⟩
  · obtain ⟨r, hr⟩ : ∃ r, (a + b) % 4 = r := ⟨_, rfl⟩
    have R := Lib.hid (show Tu.thenN g h = 4 + r by rw [X (a) r (by rw [if_neg q2]) hr]; simp [q1, q2])
    have M1 := Lib.hid (show decide ((4 : Int) ≤ (g : Int)) = true from decide_eq_true (by omega))
    have M2 := Lib.hid (show decide ((4 : Int) ≤ (h : Int)) = false from decide_eq_false (by omega))
    obtain ⟨c, hc⟩ : ∃ c : Nat, a = c := ⟨_, rfl⟩
    have hc2 : (a : Int) = c := by omega
    rw [hc] at hr
    have hm3 := tmod4 (c + b)
    rw [hr] at hm3
    have hm4 : ((c : Int) + b).tmod 4 = r := by rw [← hm3]; simp
    have hr3 : r < 4 := by omega
    clear X hr hm3 q1 q2 hg hh ha hb
    subst hc
    rw [R.out]
    go_enter Try.func48, Try.ntmps48
    go_wp2_with (first
      | (go_at_call 43; refine (turnMay_any _ _).mono ?_; (first | rw [T1.out] | rw [T2.out]); rintro e w1 ⟨rfl, rfl⟩)
      | (go_at_call 77; refine (mirrors_any _ _).mono ?_; (first | rw [M1.out] | rw [M2.out]); rintro e w1 ⟨rfl, rfl⟩))
    go_ret
    exact ⟨rfl, rfl⟩
  · obtain ⟨r, hr⟩ : ∃ r, (4 - a + b) % 4 = r := ⟨_, rfl⟩
    have R := Lib.hid (show Tu.thenN g h = 4 + r by rw [X (4 - a) r (by rw [if_pos q2]) hr]; simp [q1, q2])
    have M1 := Lib.hid (show decide ((4 : Int) ≤ (g : Int)) = false from decide_eq_false (by omega))
    have M2 := Lib.hid (show decide ((4 : Int) ≤ (h : Int)) = true from decide_eq_true (by omega))
    obtain ⟨c, hc⟩ : ∃ c : Nat, 4 - a = c := ⟨_, rfl⟩
    have hc2 : (4 : Int) - a = c := by omega
    rw [hc] at hr
    have hm3 := tmod4 (c + b)
    rw [hr] at hm3
    have hm4 : ((c : Int) + b).tmod 4 = r := by rw [← hm3]; simp
    have hr3 : r < 4 := by omega
    clear X hr hm3 q1 q2 hg hh ha hb
    
    rw [R.out]
    go_enter Try.func48, Try.ntmps48
    go_wp2_with (first
      | (go_at_call 43; refine (turnMay_any _ _).mono ?_; (first | rw [T1.out] | rw [T2.out]); rintro e w1 ⟨rfl, rfl⟩)
      | (go_at_call 77; refine (mirrors_any _ _).mono ?_; (first | rw [M1.out] | rw [M2.out]); rintro e w1 ⟨rfl, rfl⟩))
    go_ret
    exact ⟨rfl, rfl⟩
  · obtain ⟨r, hr⟩ : ∃ r, (a + b) % 4 = r := ⟨_, rfl⟩
    have R := Lib.hid (show Tu.thenN g h = r by rw [X (a) r (by rw [if_neg q2]) hr]; simp [q1, q2])
    have M1 := Lib.hid (show decide ((4 : Int) ≤ (g : Int)) = false from decide_eq_false (by omega))
    have M2 := Lib.hid (show decide ((4 : Int) ≤ (h : Int)) = false from decide_eq_false (by omega))
    obtain ⟨c, hc⟩ : ∃ c : Nat, a = c := ⟨_, rfl⟩
    have hc2 : (a : Int) = c := by omega
    rw [hc] at hr
    have hm3 := tmod4 (c + b)
    rw [hr] at hm3
    have hm4 : ((c : Int) + b).tmod 4 = r := by rw [← hm3]; simp
    have hr3 : r < 4 := by omega
    clear X hr hm3 q1 q2 hg hh ha hb
    subst hc
    rw [R.out]
    go_enter Try.func48, Try.ntmps48
    go_wp2_with (first
      | (go_at_call 43; refine (turnMay_any _ _).mono ?_; (first | rw [T1.out] | rw [T2.out]); rintro e w1 ⟨rfl, rfl⟩)
      | (go_at_call 77; refine (mirrors_any _ _).mono ?_; (first | rw [M1.out] | rw [M2.out]); rintro e w1 ⟨rfl, rfl⟩))
    go_ret
    exact ⟨rfl, rfl⟩
end Go.Proofs.Ytlihkdbbcnmbmaa
