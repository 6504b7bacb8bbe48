/- NumParses: the number of a text, or its error, is the document's; a number's digits are read as it was: the walk of the law. No condition. -/
import Derived.Test.YthikjjcoejdjiaaNumK
import Derived.Test.YthikjjcoejdjiaaNumN
import Derived.Test.YthikjjcoejdjiaaNumL
import Derived.Test.YthikjjcoejdjiaaIn
namespace Go.Proofs.Ythikjjcoejdjiaa
open Go.RowKit
set_option linter.unusedVariables false

theorem parse_two (s : ByteArray) (most : Int) (m0 : 0 ≤ most) (m1 : most ≤ 4611686018427387903) (hs : s.size ≤ maxLen) (a b : Int) (h : Nu.parseV (bytesOf s) most = (a, b)) (w : World) :
    Calls Try.prog 11 #[.string s, .int .i64 most] w fun e w' => e = .returned (.tuple #[.int .i64 a, .int .i64 b]) ∧ w = w' := by
  refine (parse_any s most m0 m1 hs w).mono ?_
  rintro e w' ⟨rfl, rfl⟩
  rw [h]; exact ⟨rfl, rfl⟩
theorem refParse_two (s : ByteArray) (most : Int) (m0 : 0 ≤ most) (m1 : most ≤ 4611686018427387903) (hs : s.size ≤ maxLen) (a b : Int) (h : Nu.parseV (bytesOf s) most = (a, b)) (w : World) :
    Calls Try.prog 12 #[.string s, .int .i64 most] w fun e w' => e = .returned (.tuple #[.int .i64 a, .int .i64 b]) ∧ w = w' := by
  refine (refParse_any s most m0 m1 hs w).mono ?_
  rintro e w' ⟨rfl, rfl⟩
  rw [h]; exact ⟨rfl, rfl⟩

set_option maxRecDepth 100000 in
set_option maxHeartbeats 4000000 in
theorem numParses_walk (a0 : ByteArray) (a1 a2 : Int) (w : World) (w0 : a0.size ≤ maxLen) (w1 : (Lit.int .i64 a1).wf = true) (w2 : (Lit.int .i64 a2).wf = true) :
    Calls Try.prog 3 #[.string a0, .int .i64 a1, .int .i64 a2] w fun e w' => e = .returned (.bool true) ∧ Below w.heap.size w w' := by
  have h1 : Hid (Nu.I a1) := wfI w1
  have h2 : Hid (Nu.I a2) := wfI w2
  clear w1 w2
  obtain ⟨m0, m1⟩ := Nu.limit_lt a1
  obtain ⟨m, hm⟩ : ∃ m, Hid (Nu.limit a1 = m) := ⟨_, rfl⟩
  rw [hm.out] at m0 m1
  obtain ⟨k0, k1⟩ := Nu.limit_lt a2
  obtain ⟨k, hk⟩ : ∃ k, Hid (Nu.limit a2 = k) := ⟨_, rfl⟩
  rw [hk.out] at k0 k1
  have hl := Nu.decV_len (n := k) (by unfold Nu.I; omega)
  have hL2 : (strOfNums (Nu.decV k)).size ≤ 66 := by rw [strOfNums_size]; exact hl
  have hL : (⟨#[48, 48]⟩ : ByteArray).size + (strOfNums (Nu.decV k)).size ≤ 9223372036854775807 := by
    rw [strOfNums_size]; simp [ByteArray.size]; omega
  have hLs : ((⟨#[48, 48]⟩ : ByteArray) ++ strOfNums (Nu.decV k)).size ≤ maxLen := by
    rw [ByteArray.size_append, strOfNums_size]; unfold maxLen; simp [ByteArray.size]; omega
  have P1 := Lib.hid (Nu.parse_dec k k0)
  have hkn : Nu.I k := by unfold Nu.I; omega
  have HK := Lib.hid hkn
  have HLs := Lib.hid hLs
  have H0 := Lib.hid w0
  clear hkn hLs
  unfold maxLen at w0
  obtain ⟨kc, ke, P2, hc⟩ : ∃ kc ke : Int, Hid (Nu.parseV (bytesOf ((⟨#[48, 48]⟩ : ByteArray) ++ strOfNums (Nu.decV k))) m = (kc, ke)) ∧ ((decide (k ≤ m) = true ∧ kc = k ∧ ke = 0) ∨ (decide (k ≤ m) = false ∧ kc = 0 ∧ ke = 4)) := by
    by_cases hkm : k ≤ m
    · exact ⟨k, 0, by show _ = _; rw [Nu.parse_dec00 k m k0 m0, if_pos hkm], .inl ⟨decide_eq_true hkm, rfl, rfl⟩⟩
    · exact ⟨0, 4, by show _ = _; rw [Nu.parse_dec00 k m k0 m0, if_neg hkm], .inr ⟨decide_eq_false hkm, rfl, rfl⟩⟩
  have hB := Below.refl w.heap.size w
  by_cases h30 : 30 < a0.size
  · obtain ⟨a, b, hab⟩ : ∃ a b, Hid (Nu.parseV (bytesOf (a0.extract 0 30)) m = (a, b)) := ⟨_, _, rfl⟩
    have H3 : Hid ((a0.extract 0 30).size ≤ maxLen) := by show _ ≤ _; unfold maxLen; simp; omega
    have kd : decide (30 < (a0.size : Int)) = true := by simp; omega
    rcases hc with ⟨hkm, e1, e2⟩ | ⟨hkm, e1, e2⟩
    all_goals
      rw [e1, e2] at P2
      clear e1 e2
      go_enter Try.func3, Try.ntmps3
      go_wp2_with (first
        | (go_at_call 10; first | ((with_reducible refine (limit_any a1 h1.out _).mono ?_); rw [hm.out]; rintro e w1 ⟨rfl, rfl⟩) | ((with_reducible refine (limit_any a2 h2.out _).mono ?_); rw [hk.out]; rintro e w1 ⟨rfl, rfl⟩))
        | (go_at_call 13; refine (decimal_any k HK.out _).mono ?_; rintro e w1 ⟨rfl, hb1⟩; replace hB := bel_step hB hb1; clear hb1)
        | (go_at_call 11; first | ((with_reducible refine (parse_two (a0.extract 0 30) m m0 m1 H3.out a b hab.out _).mono ?_); rintro e w1 ⟨rfl, rfl⟩) | ((with_reducible refine (parse_two _ m m0 m1 HLs.out _ _ P2.out _).mono ?_); rintro e w1 ⟨rfl, rfl⟩) | ((with_reducible refine (parse_two _ k k0 k1 (by unfold maxLen; omega) k 0 P1.out _).mono ?_); rintro e w1 ⟨rfl, rfl⟩))
        | (go_at_call 12; refine (refParse_two (a0.extract 0 30) m m0 m1 H3.out a b hab.out _).mono ?_; rintro e w1 ⟨rfl, rfl⟩)
        | (go_at_call 14; refine (lives_any _).mono ?_; rintro e w4 ⟨rfl, hb4⟩; replace hB := bel_step hB hb4; clear hb4))
      go_ret
      exact ⟨rfl, hB⟩
  · have kd : decide (30 < (a0.size : Int)) = false := by simp; omega
    obtain ⟨a, b, hab⟩ : ∃ a b, Hid (Nu.parseV (bytesOf a0) m = (a, b)) := ⟨_, _, rfl⟩
    rcases hc with ⟨hkm, e1, e2⟩ | ⟨hkm, e1, e2⟩
    all_goals
      rw [e1, e2] at P2
      clear e1 e2
      go_enter Try.func3, Try.ntmps3
      go_wp2_with (first
        | (go_at_call 10; first | ((with_reducible refine (limit_any a1 h1.out _).mono ?_); rw [hm.out]; rintro e w1 ⟨rfl, rfl⟩) | ((with_reducible refine (limit_any a2 h2.out _).mono ?_); rw [hk.out]; rintro e w1 ⟨rfl, rfl⟩))
        | (go_at_call 13; refine (decimal_any k HK.out _).mono ?_; rintro e w1 ⟨rfl, hb1⟩; replace hB := bel_step hB hb1; clear hb1)
        | (go_at_call 11; first | ((with_reducible refine (parse_two a0 m m0 m1 H0.out a b hab.out _).mono ?_); rintro e w1 ⟨rfl, rfl⟩) | ((with_reducible refine (parse_two _ m m0 m1 HLs.out _ _ P2.out _).mono ?_); rintro e w1 ⟨rfl, rfl⟩) | ((with_reducible refine (parse_two _ k k0 k1 (by unfold maxLen; omega) k 0 P1.out _).mono ?_); rintro e w1 ⟨rfl, rfl⟩))
        | (go_at_call 12; refine (refParse_two a0 m m0 m1 H0.out a b hab.out _).mono ?_; rintro e w1 ⟨rfl, rfl⟩)
        | (go_at_call 14; refine (lives_any _).mono ?_; rintro e w4 ⟨rfl, hb4⟩; replace hB := bel_step hB hb4; clear hb4))
      go_ret
      exact ⟨rfl, hB⟩
end Go.Proofs.Ythikjjcoejdjiaa
