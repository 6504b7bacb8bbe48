/- Sums and products that are ints, over any memory, of num and of the document's own answer. Condition: numbers fit their kinds. -/
import Derived.Test.YthikjjcoejdjiaaNumG
namespace Go.Proofs.Ythikjjcoejdjiaa
open Go.RowKit
set_option linter.unusedVariables false

def Nu.inI (n : Int) : Bool := decide (-9223372036854775808 ≤ n) && decide (n ≤ 9223372036854775807)
theorem Nu.inI_of {n : Int} (h : Nu.inI n = true) : Nu.I n := by simpa [Nu.inI, Nu.I] using h
theorem Nu.not_inI {n : Int} (h : Nu.inI n = false) : ¬ Nu.I n := by
  intro h'; obtain ⟨h0, h1⟩ := h'; simp [Nu.inI, h0, h1] at h
def Nu.okV (n : Int) : Int × Bool := if Nu.inI n then (n, true) else (0, false)
theorem Nu.wrap_in {n : Int} (h : Nu.I n) : wrap64 n = n := IntWalk.wrap64_in _ h
theorem Nu.wrap_mod (n : Int) : (-9223372036854775808 ≤ wrap64 n ∧ wrap64 n ≤ 9223372036854775807) ∧ (wrap64 n - n) % 18446744073709551616 = 0 := by
  unfold wrap64; omega
def OkR (n : Int) (w : World) (e : Ending) (w' : World) : Prop := e = .returned (.tuple #[.int .i64 (Nu.okV n).1, .bool (Nu.okV n).2]) ∧ w = w'
theorem ret_ok {a : Int} {b : Bool} {t : Int × Bool} (h : t = (a, b)) : Ending.returned (.tuple #[.int .i64 a, .bool b]) = .returned (.tuple #[.int .i64 t.1, .bool t.2]) := by rw [h]
theorem Nu.okV_yes {n : Int} (h : Nu.inI n = true) : Nu.okV n = (n, true) := by unfold Nu.okV; rw [if_pos h]
theorem Nu.okV_no {n : Int} (h : Nu.inI n = false) : Nu.okV n = (0, false) := by unfold Nu.okV; rw [if_neg (by simp [h])]

theorem Nu.tdiv_exact {a b : Int} (hb : b ≠ 0) : (a * b).tdiv b = a ∧ (a * b).tmod b = 0 := ⟨Int.mul_tdiv_cancel a hb, Int.mul_tmod_left a b⟩
theorem Nu.tdiv_wrong {a b p : Int} (ha : Nu.I a) (hb : Nu.I b) (hb0 : b ≠ 0) (hn : Nu.inI (a * b) = false) (hp : wrap64 (a * b) = p) (hq : wrap64 (p.tdiv b) = a) : a = -9223372036854775808 ∧ b = -1 := by
  have hI := Nu.not_inI hn
  obtain ⟨⟨p0, p1⟩, pm⟩ := Nu.wrap_mod (a * b)
  rw [hp] at p0 p1 pm
  obtain ⟨⟨q0, q1⟩, qm⟩ := Nu.wrap_mod (p.tdiv b)
  rw [hq] at q0 q1 qm
  have hn1 : (p.tdiv b).natAbs = p.natAbs / b.natAbs := Int.natAbs_tdiv p b
  have hle : (p.tdiv b).natAbs ≤ p.natAbs := by rw [hn1]; exact Nat.div_le_self _ _
  have he : b * p.tdiv b + p.tmod b = p := Int.mul_tdiv_add_tmod p b
  have hr : (p.tmod b).natAbs < b.natAbs := by rw [Int.natAbs_tmod]; exact Nat.mod_lt _ (by omega)
  obtain ⟨b0, b1⟩ := hb
  by_cases hd : p.tdiv b = a
  · exfalso
    rw [hd, Int.mul_comm] at he
    generalize a * b = m at *
    have : p = m := by omega
    subst this
    exact hI ⟨p0, p1⟩
  · have h63 : p.tdiv b = 9223372036854775808 := by omega
    have hpa : p = -9223372036854775808 := by omega
    have hba : b.natAbs = 1 := by
      rw [h63, hpa] at hn1
      have : (9223372036854775808 : Int).natAbs = 9223372036854775808 := rfl
      have h2 : (-9223372036854775808 : Int).natAbs = 9223372036854775808 := rfl
      rw [this, h2] at hn1
      rcases Nat.lt_or_ge b.natAbs 2 with h | h
      · omega
      · have : 9223372036854775808 / b.natAbs ≤ 9223372036854775808 / 2 := Nat.div_le_div_left h (by omega)
        omega
    refine ⟨by omega, ?_⟩
    rcases (by omega : b = 1 ∨ b = -1) with rfl | h
    · rw [hpa] at h63; simp at h63
    · exact h

theorem Nu.sgn {a b : Int} (ha : a ≠ 0) (hb : b ≠ 0) : decide (a * b < 0) = (decide (a < 0) != decide (b < 0)) := by
  rcases Int.lt_or_gt_of_ne ha with h1 | h1 <;> rcases Int.lt_or_gt_of_ne hb with h2 | h2
  · have := Int.mul_pos_of_neg_of_neg h1 h2; simp [h1, h2]; omega
  · have := Int.mul_neg_of_neg_of_pos h1 h2
    have : ¬ b < 0 := by omega
    simp [h1, this]; omega
  · have := Int.mul_neg_of_pos_of_neg h1 h2
    have : ¬ a < 0 := by omega
    simp [h2, this]; omega
  · have := Int.mul_pos h1 h2
    have h3 : ¬ b < 0 := by omega
    have h4 : ¬ a < 0 := by omega
    simp [h3, h4]; omega

theorem mul_zero_a (a b : Int) (h : a = 0 ∨ b = 0) : Nu.okV (a * b) = (0, true) := by
  have e : a * b = 0 := by rcases h with rfl | rfl <;> simp
  rw [e]; rfl

set_option maxHeartbeats 2000000 in
theorem mul_any (a b : Int) (ha : Nu.I a) (hb : Nu.I b) (w : World) : Calls Try.prog 26 #[.int .i64 a, .int .i64 b] w (OkR (a * b) w) := by
  have HA := Lib.hid ha
  have HB := Lib.hid hb
  obtain ⟨a0, a1⟩ := ha
  obtain ⟨b0, b1⟩ := hb
  by_cases h1 : a = 0
  · have X := Lib.hid (mul_zero_a a b (.inl h1))
    have k1 : (a == 0) = true := by simp [h1]
    clear h1
    go_enter Try.func26, Try.ntmps26
    go_wp2
    go_ret2
    exact ⟨ret_ok X.out, rfl⟩
  have k1 : (a == 0) = false := by simp [h1]
  by_cases h2 : b = 0
  · have X := Lib.hid (mul_zero_a a b (.inr h2))
    have k2 : (b == 0) = true := by simp [h2]
    clear h1 h2
    go_enter Try.func26, Try.ntmps26
    go_wp2
    go_ret2
    exact ⟨ret_ok X.out, rfl⟩
  have k2 : (b == 0) = false := by simp [h2]
  obtain ⟨p, hp⟩ : ∃ p, wrap64 (a * b) = p := ⟨_, rfl⟩
  cases hI : Nu.inI (a * b)
  · have X := Lib.hid (Nu.okV_no hI)
    by_cases hq : wrap64 (p.tdiv b) = a
    · obtain ⟨ea, eb⟩ := Nu.tdiv_wrong HA.out HB.out h2 hI hp hq
      have hpn : p = -9223372036854775808 := by
        have := Nu.wrap_mod (a * b)
        rw [hp, ea, eb] at this; omega
      have d1 : decide (a < 0) = true := by simp; omega
      have d2 : decide (b < 0) = true := by simp; omega
      have d3 : decide (p < 0) = true := by simp; omega
      clear ea eb hpn h1 hI
      go_enter Try.func26, Try.ntmps26
      go_wp2
      go_ret2
      exact ⟨ret_ok X.out, rfl⟩
    · obtain ⟨q, hqe⟩ : ∃ q, wrap64 (p.tdiv b) = q := ⟨_, rfl⟩
      rw [hqe] at hq
      have kq : (q == a) = false := by simp [hq]
      have kq2 : (q != a) = true := by simp [hq]
      clear hq h1 hI
      go_enter Try.func26, Try.ntmps26
      go_wp2
      go_ret2
      exact ⟨ret_ok X.out, rfl⟩
  · have X := Lib.hid (Nu.okV_yes hI)
    have hpe : a * b = p := by rw [← hp, Nu.wrap_in (Nu.inI_of hI)]
    have hq : wrap64 (p.tdiv b) = a := by rw [← hpe, (Nu.tdiv_exact h2).1, Nu.wrap_in HA.out]
    have hs := Nu.sgn h1 h2
    rw [hpe] at hs
    have XP := Lib.hid hpe
    have XW := Lib.hid (Nu.wrap_in (Nu.inI_of hI))
    clear hI hpe h1
    obtain ⟨sa, hsa⟩ : ∃ s, decide (a < 0) = s := ⟨_, rfl⟩
    obtain ⟨sb, hsb⟩ : ∃ s, decide (b < 0) = s := ⟨_, rfl⟩
    rw [hsa, hsb] at hs
    cases sa <;> cases sb
    all_goals
      first | (replace hs : decide (p < 0) = true := hs) | (replace hs : decide (p < 0) = false := hs)
      go_enter Try.func26, Try.ntmps26
      go_wp2
      go_ret2
      exact ⟨ret_ok (by rw [X.out, XW.out]), rfl⟩

set_option maxHeartbeats 2000000 in
theorem refMul_any (a b : Int) (ha : Nu.I a) (hb : Nu.I b) (w : World) : Calls Try.prog 27 #[.int .i64 a, .int .i64 b] w (OkR (a * b) w) := by
  have HA := Lib.hid ha
  have HB := Lib.hid hb
  obtain ⟨a0, a1⟩ := ha
  obtain ⟨b0, b1⟩ := hb
  by_cases h1 : a = 0
  · have X := Lib.hid (mul_zero_a a b (.inl h1))
    have k1 : (a == 0) = true := by simp [h1]
    clear h1
    go_enter Try.func27, Try.ntmps27
    go_wp2
    go_ret2
    exact ⟨ret_ok X.out, rfl⟩
  have k1 : (a == 0) = false := by simp [h1]
  by_cases h2 : b = 0
  · have X := Lib.hid (mul_zero_a a b (.inr h2))
    have k2 : (b == 0) = true := by simp [h2]
    clear h1 h2
    go_enter Try.func27, Try.ntmps27
    go_wp2
    go_ret2
    exact ⟨ret_ok X.out, rfl⟩
  have k2 : (b == 0) = false := by simp [h2]
  by_cases hsp : a = -9223372036854775808 ∧ b = -1
  · obtain ⟨rfl, rfl⟩ := hsp
    have X := Lib.hid (show Nu.okV (-9223372036854775808 * -1) = (0, false) by decide)
    clear h1 h2 k1 k2
    go_enter Try.func27, Try.ntmps27
    go_wp2
    go_ret2
    exact ⟨ret_ok X.out, rfl⟩
  by_cases hsq : b = -9223372036854775808 ∧ a = -1
  · obtain ⟨rfl, rfl⟩ := hsq
    have X := Lib.hid (show Nu.okV (-1 * -9223372036854775808) = (0, false) by decide)
    clear h1 h2 k1 k2 hsp
    go_enter Try.func27, Try.ntmps27
    go_wp2
    go_ret2
    exact ⟨ret_ok X.out, rfl⟩
  obtain ⟨p, hp⟩ : ∃ p, wrap64 (a * b) = p := ⟨_, rfl⟩
  obtain ⟨ea, hea⟩ : ∃ q : Bool, (a == -9223372036854775808) = q := ⟨_, rfl⟩
  obtain ⟨eb, heb⟩ : ∃ q : Bool, (b == -1) = q := ⟨_, rfl⟩
  obtain ⟨fa, hfa⟩ : ∃ q : Bool, (a == -1) = q := ⟨_, rfl⟩
  obtain ⟨fb, hfb⟩ : ∃ q : Bool, (b == -9223372036854775808) = q := ⟨_, rfl⟩
  have e1 : (ea && eb) = false := by rw [← hea, ← heb]; simp; intro h; exact fun h' => hsp ⟨h, h'⟩
  have e2 : (fb && fa) = false := by rw [← hfa, ← hfb]; simp; intro h; exact fun h' => hsq ⟨h, h'⟩
  cases hI : Nu.inI (a * b)
  · have X := Lib.hid (Nu.okV_no hI)
    have hq : ¬ wrap64 (p.tdiv b) = a := fun hq => hsp (Nu.tdiv_wrong HA.out HB.out h2 hI hp hq)
    obtain ⟨q, hqe⟩ : ∃ q, wrap64 (p.tdiv b) = q := ⟨_, rfl⟩
    rw [hqe] at hq
    have kq : (q == a) = false := by simp [hq]
    have kq2 : (q != a) = true := by simp [hq]
    clear hq h1 hI hsp hsq
    cases ea <;> cases eb <;> cases fa <;> cases fb <;> first | (simp at e1; done) | (simp at e2; done) | skip
    all_goals
      clear e1 e2
      go_enter Try.func27, Try.ntmps27
      go_wp2
      go_ret2
      exact ⟨ret_ok X.out, rfl⟩
  · have X := Lib.hid (Nu.okV_yes hI)
    have hpe : a * b = p := by rw [← hp, Nu.wrap_in (Nu.inI_of hI)]
    have hq : wrap64 (p.tdiv b) = a := by rw [← hpe, (Nu.tdiv_exact h2).1, Nu.wrap_in HA.out]
    have hr : p.tmod b = 0 := by rw [← hpe, (Nu.tdiv_exact h2).2]
    have XW := Lib.hid (Nu.wrap_in (Nu.inI_of hI))
    clear hI hpe h1 hsp hsq
    cases ea <;> cases eb <;> cases fa <;> cases fb <;> first | (simp at e1; done) | (simp at e2; done) | skip
    all_goals
      clear e1 e2
      go_enter Try.func27, Try.ntmps27
      go_wp2
      go_ret2
      exact ⟨ret_ok (by rw [X.out, XW.out]), rfl⟩
end Go.Proofs.Ythikjjcoejdjiaa
