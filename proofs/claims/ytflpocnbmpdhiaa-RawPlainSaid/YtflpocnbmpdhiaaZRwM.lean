/- Plain facts on rasters of bytes: a reader at any byte, wrong, over or neither. No condition. -/
import Derived.Test.YtflpocnbmpdhiaaZRwL
namespace Go.Proofs.Ytflpocnbmpdhiaa
open Go.RowKit
set_option linter.unusedVariables false
namespace Rw
theorem badN_first (h : Hd.H) (bs : List Int) : ∀ k, k ≤ bs.length → badN h bs k ≠ 0 → ∃ j, j < k ∧ badN h bs j = 0 ∧ badN h bs (j + 1) ≠ 0 ∧ badN h bs k = badN h bs (j + 1) := by
  intro k
  induction k with
  | zero => intro _ h0; exact absurd (badN_zero h bs) h0
  | succ k ih =>
    intro hk h0
    by_cases hz : badN h bs k = 0
    · exact ⟨k, by omega, hz, h0, rfl⟩
    · obtain ⟨j, h1, h2, h3, h4⟩ := ih (by omega) hz
      exact ⟨j, by omega, h2, h3, by rw [badN_stays h bs hz (k + 1) (by omega) hk, h4]⟩
def dead (h : Hd.H) (bs : List Int) (j : Nat) : S := ⟨h, curAt h bs j, ((j / stride h : Nat) : Int), 0, 5⟩
def stt (h : Hd.H) (bs : List Int) (sz i : Nat) : S := if 0 < badV h bs ∧ badV h bs ≤ (i : Int) then dead h bs ((badV h bs).toNat - 1) else st h bs (min i sz)
theorem stt_zero {h : Hd.H} (hm : May h) (bs : List Int) (sz : Nat) : stt h bs sz 0 = new h := by
  unfold stt
  rw [if_neg, Nat.zero_min, st_zero hm]
  rintro ⟨h1, h2⟩; omega
theorem stt_ok {h : Hd.H} {bs : List Int} {sz : Nat} {i : Nat} (hb : ¬ (0 < badV h bs ∧ badV h bs ≤ (i : Int))) : stt h bs sz i = st h bs (min i sz) := by unfold stt; rw [if_neg hb]
theorem nobad {h : Hd.H} (bs : List Int) {sz : Nat} (hsz : Hj.size h = (sz : Int)) {i : Nat} (hi : i < bs.length) (hb : ¬ (0 < badV h bs ∧ badV h bs ≤ ((i + 1 : Nat) : Int))) (his : i < sz) : badN h bs (i + 1) = 0 := by
  by_cases h0 : badN h bs (i + 1) = 0
  · exact h0
  · exfalso
    have h1 := badN_le h bs (i + 1) (by omega)
    have h2 := badN_nonneg h bs (i + 1)
    have e : badV h bs = badN h bs (i + 1) := by
      rw [badV_eq, hsz]
      show badN h bs sz = _
      by_cases hle : sz ≤ bs.length
      · exact badN_stays h bs h0 sz (by omega) hle
      · rw [badN_over h bs (by omega), badN_stays h bs h0 bs.length (by omega) (Nat.le_refl _)]
    exact hb ⟨by rw [e]; omega, by rw [e]; exact h1⟩
theorem step_b {h : Hd.H} (bs : List Int) {sz : Nat} (hsz : Hj.size h = (sz : Int)) {i : Nat} (hb : ¬ (0 < badV h bs ∧ badV h bs ≤ ((i + 1 : Nat) : Int))) (hi : sz ≤ i) (c : Int) :
    put (stt h bs sz i) c = (stt h bs sz (i + 1), []) ∧ (stt h bs sz (i + 1)).left = 0 ∧ (stt h bs sz (i + 1)).e = 0 ∧ (stt h bs sz (i + 1)).rows = (stt h bs sz i).rows := by
  rw [stt_ok hb, stt_ok (i := i) (fun hh => hb ⟨hh.1, by have := hh.2; omega⟩), Nat.min_eq_right (by omega), Nat.min_eq_right (by omega)]
  have hl : (st h bs sz).left = 0 := by show Hj.size h - (sz : Int) = 0; rw [hsz]; omega
  exact ⟨put_over hl _, hl, rfl, rfl⟩
section
variable {h : Hd.H} (hm : May h) (bs : List Int) {sz : Nat} (hsz : Hj.size h = (sz : Int))
include hm hsz
theorem bad_at (hb : 0 < badV h bs) : ∃ j, j < bs.length ∧ j < sz ∧ badN h bs j = 0 ∧ badN h bs (j + 1) ≠ 0 ∧ badV h bs = ((j + 1 : Nat) : Int) := by
  have e : badV h bs = badN h bs (min sz bs.length) := by
    rw [badV_eq, hsz]
    show badN h bs sz = _
    by_cases hle : sz ≤ bs.length
    · rw [Nat.min_eq_left hle]
    · rw [Nat.min_eq_right (by omega), badN_over h bs (by omega)]
  rw [e] at hb
  obtain ⟨j, h1, h2, h3, h4⟩ := badN_first h bs (min sz bs.length) (Nat.min_le_right _ _) (by omega)
  refine ⟨j, by omega, by omega, h2, h3, ?_⟩
  rw [e, h4, (put_wrong hm bs (i := j) (by omega) (by rw [hsz]; omega) h2 h3).2]
theorem step_a {i : Nat} (hi : i < bs.length) (hb : 0 < badV h bs) (hb2 : badV h bs ≤ ((i + 1 : Nat) : Int)) :
    put (stt h bs sz i) (bs.getD i 0) = (stt h bs sz (i + 1), []) ∧ (stt h bs sz (i + 1)).left = 0 ∧ (stt h bs sz (i + 1)).e = 5 ∧ (stt h bs sz (i + 1)).rows = (stt h bs sz i).rows := by
  obtain ⟨j, j1, j2, j3, j4, j5⟩ := bad_at hm bs hsz hb
  have e1 : stt h bs sz (i + 1) = dead h bs j := by
    unfold stt
    rw [if_pos ⟨hb, hb2⟩, j5]
    congr 1
  rw [e1]
  by_cases hb3 : badV h bs ≤ (i : Int)
  · have e2 : stt h bs sz i = dead h bs j := by
      unfold stt
      rw [if_pos ⟨hb, hb3⟩, j5]
      congr 1
    rw [e2]
    exact ⟨put_over rfl _, rfl, rfl, rfl⟩
  · have hji : j = i := by omega
    subst hji
    have e2 : stt h bs sz j = st h bs j := by
      unfold stt
      rw [if_neg (fun hh => hb3 hh.2), Nat.min_eq_left (by omega)]
    rw [e2]
    exact ⟨(put_wrong hm bs hi (by rw [hsz]; omega) j3 j4).1, rfl, rfl, rfl⟩
theorem step_c {i : Nat} (hi : i < bs.length) (hb : ¬ (0 < badV h bs ∧ badV h bs ≤ ((i + 1 : Nat) : Int))) (his : i < sz) (hmod : (i + 1) % stride h = 0) :
    ∃ p, p + stride h = i + 1 ∧ put (stt h bs sz i) (bs.getD i 0) = (stt h bs sz (i + 1), rowV h ((bs.drop p).take (stride h))) ∧ (stt h bs sz (i + 1)).left = (sz : Int) - ((i + 1 : Nat) : Int) ∧ (stt h bs sz (i + 1)).e = 0 ∧ (stt h bs sz (i + 1)).rows = (stt h bs sz i).rows + 1 ∧ (stt h bs sz (i + 1)).rows = (((i + 1) / stride h : Nat) : Int) := by
  have hs := (stride_at hm).1
  have hn := nobad bs hsz hi hb his
  rw [stt_ok hb, stt_ok (i := i) (fun hh => hb ⟨hh.1, by have := hh.2; omega⟩), Nat.min_eq_left (show i ≤ sz by omega), Nat.min_eq_left (show i + 1 ≤ sz by omega)]
  have hp := put_st hm bs hi (by rw [hsz]; omega) hn
  rw [if_pos hmod] at hp
  have hml := Nat.mod_lt i hs
  have he : i % stride h + 1 = stride h := by
    by_cases he : i % stride h + 1 = stride h
    · exact he
    · have := (dm_lt (show i % stride h + 1 < stride h by omega)).2; omega
  obtain ⟨d1, d2⟩ := dm_eq he
  refine ⟨i / stride h * stride h, ?_, hp, ?_, rfl, ?_, rfl⟩
  · have := Nat.div_add_mod i (stride h); rw [Nat.mul_comm] at this; omega
  · show Hj.size h - ((i + 1 : Nat) : Int) = _; rw [hsz]
  · show (((i + 1) / stride h : Nat) : Int) = ((i / stride h : Nat) : Int) + 1; rw [d1]; omega
theorem step_d {i : Nat} (hi : i < bs.length) (hb : ¬ (0 < badV h bs ∧ badV h bs ≤ ((i + 1 : Nat) : Int))) (his : i < sz) (hmod : ¬ (i + 1) % stride h = 0) :
    put (stt h bs sz i) (bs.getD i 0) = (stt h bs sz (i + 1), []) ∧ (stt h bs sz (i + 1)).left = (sz : Int) - ((i + 1 : Nat) : Int) ∧ (stt h bs sz (i + 1)).e = 0 ∧ (stt h bs sz (i + 1)).rows = (stt h bs sz i).rows := by
  have hs := (stride_at hm).1
  have hn := nobad bs hsz hi hb his
  rw [stt_ok hb, stt_ok (i := i) (fun hh => hb ⟨hh.1, by have := hh.2; omega⟩), Nat.min_eq_left (show i ≤ sz by omega), Nat.min_eq_left (show i + 1 ≤ sz by omega)]
  have hp := put_st hm bs hi (by rw [hsz]; omega) hn
  rw [if_neg hmod] at hp
  have hml := Nat.mod_lt i hs
  have he : i % stride h + 1 < stride h := by
    by_cases he : i % stride h + 1 = stride h
    · exact absurd (dm_eq he).2 hmod
    · omega
  obtain ⟨d1, d2⟩ := dm_lt he
  refine ⟨hp, ?_, rfl, ?_⟩
  · show Hj.size h - ((i + 1 : Nat) : Int) = _; rw [hsz]
  · show (((i + 1) / stride h : Nat) : Int) = ((i / stride h : Nat) : Int); rw [d1]
end
end Rw
end Go.Proofs.Ytflpocnbmpdhiaa
