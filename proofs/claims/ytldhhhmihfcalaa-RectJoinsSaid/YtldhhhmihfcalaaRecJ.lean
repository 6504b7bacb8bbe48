/- A matrix of rows, by the program. Condition: rows' lengths fit an int. -/
import Derived.Test.YtldhhhmihfcalaaRecI
namespace Go.Proofs.Ytldhhhmihfcalaa
open Go.RowKit
set_option linter.unusedVariables false

/-- what is known of a slice of slices of integers -/
def RowsK (w : World) (a : Option Addr) (n : Nat) (R : List (List Int)) : Prop :=
  R.length = n ∧ (n = 0 ∨ ∃ b off, a = some ⟨b, off, none⟩ ∧ ∀ i, i < n → ∃ ai ci, w.cell? ⟨b, off + i, none⟩ = some (.slice ai (R.getD i []).length ci) ∧ SlK .u64 w ai (R.getD i []).length (R.getD i []))
theorem RowsK.later {w w' : World} {a : Option Addr} {n : Nat} {R : List (List Int)} (h : RowsK w a n R) (hb : Below w.heap.size w w') : RowsK w' a n R := by
  obtain ⟨h1, h2⟩ := h
  refine ⟨h1, ?_⟩
  rcases h2 with h2 | ⟨b, off, ha, hc⟩
  · exact .inl h2
  · refine .inr ⟨b, off, ha, fun i hi => ?_⟩
    obtain ⟨ai, ci, k1, k2⟩ := hc i hi
    exact ⟨ai, ci, cell_later hb k1, k2.below hb⟩
/-- how long all rows are: 0, if they are not as long all -/
def lenV (R : List (List Int)) : Nat := if ∀ i, i < R.length → (R.getD i []).length = (R.getD 0 []).length then (R.getD 0 []).length else 0
theorem lenV_yes {R : List (List Int)} (h : ∀ i, i < R.length → (R.getD i []).length = (R.getD 0 []).length) : lenV R = (R.getD 0 []).length := if_pos h
theorem lenV_no {R : List (List Int)} {i : Nat} (hi : i < R.length) (h : (R.getD i []).length ≠ (R.getD 0 []).length) : lenV R = 0 := if_neg fun k => h (k i hi)
theorem lenV_all {R : List (List Int)} (h : lenV R ≠ 0) : ∀ i, i < R.length → (R.getD i []).length = lenV R := by
  by_cases k : ∀ i, i < R.length → (R.getD i []).length = (R.getD 0 []).length
  · rw [lenV_yes k]; exact k
  · exact absurd (if_neg k) h
def ofV (R : List (List Int)) : Int × Int × List Int × Int := if Rc.sized (lenV R) R.length = true then ((lenV R : Int), (R.length : Int), Rc.rowsOf (fun k => R.getD k []) R.length, 0) else (0, 0, [], 1)
theorem ret_n {a b : Nat} (h : a = b) : Ending.returned (.int .i64 (a : Int)) = .returned (.int .i64 (b : Int)) := by rw [h]

set_option maxHeartbeats 1000000 in
theorem length_any (a : Option Addr) (n c : Nat) (R : List (List Int)) (hn : n ≤ 9223372036854775807) (hR : ∀ i, i < n → (R.getD i []).length ≤ 9223372036854775807) (w : World) (hs : RowsK w a n R) :
    Calls Try.prog 102 #[.slice a n c] w fun e w' => e = .returned (.int .i64 (lenV R)) ∧ w = w' := by
  obtain ⟨h1, h2⟩ := hs
  subst h1
  rcases h2 with h2 | ⟨b, off, rfl, hc⟩
  · have X := Lib.hid (show 0 = lenV R by rw [List.eq_nil_of_length_eq_zero h2]; rfl)
    have k0 : ((R.length : Int) == 0) = true := by simp [h2]
    clear h2
    go_enter Try.func102, Try.ntmps102
    go_wp2
    go_ret
    exact ⟨ret_n X.out, rfl⟩
  · by_cases h0 : R.length = 0
    · have X := Lib.hid (show 0 = lenV R by rw [List.eq_nil_of_length_eq_zero h0]; rfl)
      have k0 : ((R.length : Int) == 0) = true := by simp [h0]
      clear h0 hc
      go_enter Try.func102, Try.ntmps102
      go_wp2
      go_ret
      exact ⟨ret_n X.out, rfl⟩
    · have k0 : ((R.length : Int) == 0) = false := by simp; intro h; exact h0 (by simp [h])
      obtain ⟨a0, c0, q0, _⟩ := hc 0 (by omega)
      obtain ⟨m, hm⟩ : ∃ m, (R.getD 0 []).length = m := ⟨_, rfl⟩
      obtain ⟨n, hnn⟩ : ∃ n, R.length = n := ⟨_, rfl⟩
      rw [hm] at q0
      rw [hnn] at k0 h0 hn hR hc ⊢
      have HC := Lib.hid hc
      have HM := Lib.hid hm
      have HN := Lib.hid hnn
      have HR := Lib.hid hR
      have i0 : (0 : Int) < (n : Int) := by omega
      rw [Nat.add_zero] at q0
      clear hc hm hnn hR
      go_enter Try.func102, Try.ntmps102
      go_wp2
      clear q0
      go_loop [15] (fun i => ∃ k : Nat, k ≤ n ∧ i = .int .i64 k ∧ Hid (∀ j, j < k → (R.getD j []).length = m)) (fun i => n - (intOf i).toNat)
      case atStart => exact ⟨0, Nat.zero_le _, rfl, fun j hj => by omega⟩
      case round =>
        obtain ⟨k, hk, rfl, hal⟩ := hrel
        by_cases hlt : k < n
        · obtain ⟨ak, ck, qk, _⟩ := HC.out k hlt
          have hrk := HR.out k hlt
          obtain ⟨u, hu⟩ : ∃ u, (R.getD k []).length = u := ⟨_, rfl⟩
          rw [hu] at qk hrk
          have HU := Lib.hid hu
          clear hu
          have i1 : (k : Int) < (n : Int) := by omega
          by_cases hum : u = m
          · have kk : ((u : Int) != (m : Int)) = false := by simp; omega
            go_wp2
            go_round
            case rel => exact ⟨k + 1, by omega, by go_num, fun j hj => by
              rcases Nat.lt_or_ge j k with h | h
              · exact hal.out j h
              · obtain rfl : j = k := by omega
                rw [HU.out, hum]⟩
            case measure => simp [intOf]; omega
          · have kk : ((u : Int) != (m : Int)) = true := by simp; omega
            have X := Lib.hid (show 0 = lenV R from (lenV_no (i := k) (by rw [HN.out]; exact hlt) (by rw [HU.out, HM.out]; exact hum)).symm)
            go_wp2
            go_ret
            exact ⟨ret_n X.out, rfl⟩
        · obtain rfl : k = n := by omega
          have X := Lib.hid (show m = lenV R by rw [← HM.out]; exact (lenV_yes (fun j hj => by rw [HM.out]; exact hal.out j (by rw [← HN.out]; exact hj))).symm)
          go_wp2
          go_ret
          exact ⟨ret_n X.out, rfl⟩
end Go.Proofs.Ytldhhhmihfcalaa
