/- NumLengths: a number has as many bytes as its digits to the base 128; each of them but the last has 128 more; no beginning is a number: the walk of the law. No condition. -/
import Derived.Test.YthikjjcoejdjiaaNumP
namespace Go.Proofs.Ythikjjcoejdjiaa
open Go.RowKit
set_option linter.unusedVariables false

set_option maxRecDepth 100000 in
set_option maxHeartbeats 4000000 in
theorem numLengths_walk (a0 : Int) (w : World) (w0 : (Lit.int .i64 a0).wf = true) :
    Calls Try.prog 9 #[.int .i64 a0] w fun e w' => e = .returned (.bool true) ∧ Below w.heap.size w w' := by
  have h1 : Hid (Nu.I a0) := wfI w0
  clear w0
  obtain ⟨k0, k1⟩ := Nu.limit_lt a0
  obtain ⟨k, hk⟩ : ∃ k, Hid (Nu.limit a0 = k) := ⟨_, rfl⟩
  rw [hk.out] at k0 k1
  obtain ⟨p9, pp, pd⟩ := Nu.put_len9 k0 k1
  have PD := Lib.hid pd
  clear pd
  obtain ⟨n, hn⟩ : ∃ n, Hid ((Nu.putV k).length = n) := ⟨_, rfl⟩
  rw [hn.out] at p9 pp
  go_enter Try.func9, Try.ntmps9
  go_wp2_with (first
    | (go_at_call 10; refine (limit_any a0 h1.out _).mono ?_; rw [hk.out]; rintro e w1 ⟨rfl, rfl⟩)
    | (go_at_call 20; refine (put_two k k0 k1 _).mono ?_; rw [hn.out]; rintro e w1 ⟨g, cap, rfl, hg0, hg1, hc, hb, hcap⟩; have HC := Lib.hid hc; clear hc))
  go_loop [6, 7] (fun u6 u7 => ∃ (m x : Int), u6 = .int .i64 m ∧ u7 = .int .i64 x ∧ 0 ≤ x ∧ x ≤ 4611686018427387903 ∧ 1 ≤ m ∧ m ≤ 9 ∧ ((x = 0 ∧ m = n) ∨ (0 < x ∧ m + (Nu.dig 128 x).length = n))) (fun _ u7 => (intOf u7).toNat)
  case atStart =>
    refine ⟨1, k / 128, rfl, rfl, by omega, by omega, by omega, by omega, ?_⟩
    have e := PD.out.symm.trans hn.out
    by_cases hb : 128 ≤ k
    · rw [Nu.dig_more (by omega) hb] at e
      simp at e
      exact .inr ⟨by omega, by omega⟩
    · rw [Nu.dig_last (by omega)] at e
      simp at e
      exact .inl ⟨by omega, by omega⟩
  case round =>
    obtain ⟨m, x, rfl, rfl, x0, x1, m1, m9, hm⟩ := hrel
    by_cases hx : 0 < x
    · have hm2 : m + (Nu.dig 128 x).length = n := by rcases hm with ⟨h, _⟩ | ⟨_, h⟩ <;> omega
      have hpos : 0 < (Nu.dig 128 x).length := List.length_pos_iff.2 (Nu.dig_ne 128 x)
      have HM := Lib.hid hm2
      have m8 : m ≤ 8 := by omega
      clear hm hm2 hpos
      go_wp2
      go_round
      case rel =>
        refine ⟨m + 1, x / 128, by go_num, rfl, by omega, by omega, by omega, by omega, ?_⟩
        have e := HM.out
        by_cases hb : 128 ≤ x
        · rw [Nu.dig_more (by omega) hb] at e
          simp at e
          exact .inr ⟨by omega, by omega⟩
        · rw [Nu.dig_last (by omega)] at e
          simp at e
          exact .inl ⟨by omega, by omega⟩
      case measure => simp [intOf]; omega
    · obtain rfl : x = 0 := by omega
      have hmn : m = n := by rcases hm with ⟨_, h⟩ | ⟨h, _⟩ <;> omega
      subst hmn
      clear hm hx
      go_wp2
      go_loop [8] (fun u8 => ∃ i : Nat, i ≤ n ∧ u8 = .int .i64 i) (fun u8 => n - (intOf u8).toNat)
      case atStart => exact ⟨0, by omega, rfl⟩
      case round =>
        obtain ⟨i, hi, rfl⟩ := hrel
        by_cases hlt : i < n
        · obtain ⟨d, d0, d1, hd⟩ := Nu.putV_get (k := k) i (by rw [hn.out]; exact hlt)
          have hci := HC.out i hlt
          rw [hd, hn.out] at hci
          have HD := Lib.hid hd
          have hsl : SlK .u8 w1 (some ⟨g, 0, none⟩) i ((Nu.putV k).take i) := by
            refine ⟨by rw [List.length_take, hn.out]; omega, .inr ⟨g, 0, rfl, fun j hj => ?_⟩⟩
            rw [Nat.zero_add, HC.out j (by omega)]
            simp [List.getD_eq_getElem?_getD, List.getElem?_take_of_lt hj]
          have HS := Lib.hid hsl
          have HP := Lib.hid (Nu.get_part k0 k1 i (by rw [hn.out]; exact hlt))
          clear hd hsl
          by_cases hl : i + 1 < n
          · rw [if_pos hl] at hci
            have k8 : decide (128 ≤ d + 128) = true := by simp; omega
            have ki : decide ((i : Int) < (n : Int) - 1) = true := by simp; omega
            go_wp2_with (go_at_call 22; refine (get_two _ i _ _ _ (by omega) HS.out (fun x hx => Nu.putV_bytes k x (List.mem_of_mem_take hx)) 0 0 6 HP.out).mono ?_; rintro e w2 ⟨rfl, rfl⟩)
            go_round
            case rel => exact ⟨i + 1, by omega, by go_num⟩
            case measure => simp [intOf]; omega
          · rw [if_neg hl, Int.add_zero] at hci
            have k8 : decide (128 ≤ d) = false := by simp; omega
            have ki : decide ((i : Int) < (n : Int) - 1) = false := by simp; omega
            go_wp2_with (go_at_call 22; refine (get_two _ i _ _ _ (by omega) HS.out (fun x hx => Nu.putV_bytes k x (List.mem_of_mem_take hx)) 0 0 6 HP.out).mono ?_; rintro e w2 ⟨rfl, rfl⟩)
            go_round
            case rel => exact ⟨i + 1, by omega, by go_num⟩
            case measure => simp [intOf]; omega
        · go_wp2_with (go_at_call 14; refine (lives_any _).mono ?_; rintro e w4 ⟨rfl, hb4⟩)
          go_ret
          exact ⟨rfl, hb.trans (hb4.mono hb.size)⟩
end Go.Proofs.Ythikjjcoejdjiaa
