/- The state behind a number, looked for fall by fall, among children by halves. Condition: an automaton whose falls are right as far as it is deep. -/
import Derived.Test.YtehmbnloplamaaaAuA
import Derived.Test.YtehmbnloplamaaaTrC
namespace Go.Proofs.Ytehmbnloplamaaa
open Go.RowKit
set_option linter.unusedVariables false
open Tr Au
namespace Au
/-- what stands in a state's rows -/
def dat (L W : LL) (i : Nat) : List Int := data L W i
theorem child_far {L : LL} (hI : Inv L) {j : Nat} (hj : j < L.length) {p : Int} (h : ∀ i, i < (kids L j).length → ((kids L j).map (num L)).getD i 0 ≠ p) : childV L j p = -1 := by
  refine child_none hI hj ?_
  have hpl := place_le ((kids L j).map (num L)) p
  rw [List.length_map] at hpl
  by_cases e : place ((kids L j).map (num L)) p = (kids L j).length
  · exact .inl e
  · right
    have := h (place ((kids L j).map (num L)) p) (by omega)
    rwa [gD (by rw [List.length_map]; omega), List.getElem_map, ← gD (d := 0)] at this
theorem ints_len2 (l : List Nat) : (ints l).length = l.length := by simp [ints]
def depM (L : LL) (z : Int) : Nat := if z < 0 then 0 else dep L z.toNat + 1
theorem depM_nat (L : LL) (j : Nat) : depM L j = dep L j + 1 := by unfold depM; rw [if_neg (by omega), Int.toNat_natCast]
theorem depM_neg (L : LL) : depM L (-1) = 0 := rfl
/-- its numbers are the tree's, its children too -/
structure Kd (L : LL) (n : Nat) (f : Nat → Nd) (xs : Nat → List Int) : Prop where
  len : n = L.length
  num : ∀ k, k < n → (f k).1 = num L k
  kids : ∀ k, k < n → xs (2 * k + 1) = ints (kids L k)
end Au
set_option maxRecDepth 100000 in
set_option maxHeartbeats 2000000 in
theorem behind_none {w : World} (ab : Nat) (p : Int) : Calls Try.prog 47 #[.pointer (some ⟨ab, 0, none⟩), .int .i64 (-1), .int .u64 p] w fun e w' => e = .returned (.int .i64 0) ∧ Below w.heap.size w w' := by
  go_enter Try.func47, Try.ntmps47
  go_wp2
  go_step3
  go_wp2
  go_step3
  go_wp2
  refine wp_loop_rounds 1 ?_
  rw [rounds_succ]
  go_wp2
  rw [Exit.noGoto_ret]
  go_ret
  exact ⟨rfl, Below.refl _ _⟩
set_option maxRecDepth 100000 in
set_option maxHeartbeats 2000000 in
theorem behind_au {w : World} {B ab sb n : Nat} {f : Nat → Nd} {rv : Nat → Value} {xs : Nat → List Int} {L : LL} (h : AuX w B ab sb n f rv xs) (hI : Inv L) (hK : Kd L n f xs) (k : Nat) (hk : k < n) (hf : ∀ i, i < n → dep L i ≤ dep L k → (f i).2.1 = fallV L i) (p : Int) :
    Calls Try.prog 47 #[.pointer (some ⟨ab, 0, none⟩), .int .i64 k, .int .u64 p] w fun e w' => e = .returned (.int .i64 (nextV L k p)) ∧ Below w.heap.size w w' := by
  have HI := Lib.hid hI
  have HA := Lib.hid h
  have HK := Lib.hid hK
  have HF := Lib.hid hf
  have HNL := Lib.hid hK.len
  have hn9 := h.len9
  obtain ⟨T, hT⟩ : ∃ T, nextV L k p = T := ⟨_, rfl⟩
  rw [hT]
  have HT := Lib.hid hT
  clear h hI hK hf hT
  go_enter Try.func47, Try.ntmps47
  go_wp2
  go_step3
  go_wp2
  go_step3
  go_wp2
  go_loopw [1, 7] (fun s1 s7 wr => s7 = .int .i64 0 ∧ Below w.heap.size w wr ∧ ((s1 = .int .i64 (-1) ∧ T = 0) ∨ ∃ j : Nat, s1 = .int .i64 j ∧ j < n ∧ dep L j ≤ dep L k ∧ nextV L j p = T)) (fun s1 _ _ => depM L (intOf s1))
  case atStart => exact ⟨rfl, Below.refl _ _, .inr ⟨k, rfl, hk, Nat.le_refl _, HT.out⟩⟩
  case round =>
    obtain ⟨rfl, hb, hrel⟩ := hrel
    rcases hrel with ⟨rfl, hT0⟩ | ⟨j, rfl, hj, hd, hnx⟩
    · have HT0 := Lib.hid hT0
      have HBr := Lib.hid hb
      clear hT0 hb
      go_wp2
      rw [Exit.noGoto_ret]
      go_ret
      exact ⟨congrArg (fun z : Int => Ending.returned (.int .i64 z)) HT0.out.symm, HBr.out⟩
    · have hA := HA.out.later hb
      have HBr := Lib.hid hb
      have b0 := hA.boxes
      obtain ⟨c0, c1, c2, c3, c4⟩ := hA.cells hj
      obtain ⟨a, c, ev⟩ := hA.form (i := 2 * j + 1) (by omega) (by omega)
      have hrow := hA.rows (2 * j + 1) (by omega) (by omega)
      have hjL : j < L.length := by rw [← HNL.out]; exact hj
      rw [HK.out.kids j hj] at ev hrow
      rw [ints_len2] at ev hrow
      rw [HF.out j hj hd] at c1
      rw [ev] at c3 hrow
      have HC : Hid (∀ i, i < (kids L j).length → ∃ g, a = some ⟨g, 0, none⟩ ∧ wr.cell? ⟨g, i, none⟩ = some (.int .i64 ((kids L j).getD i 0 : Nat))) := Lib.hid fun i hi => by
        obtain ⟨g, c', ev', _, _⟩ := hrow.form (by omega)
        injection ev' with e1 e2 e3
        rw [e1] at hrow
        refine ⟨g, e1, ?_⟩
        rw [ints_cell hrow hi, gD (by rw [ints_len2]; exact hi), gD hi]
        simp [Au.ints]
      have HM : Hid (∀ i, i < (kids L j).length → (kids L j).getD i 0 < n) := Lib.hid fun i hi => by rw [HNL.out]; exact (kids_mem.1 (gD_mem (d := 0) hi)).1
      have HZN : Hid (∀ i, i < (kids L j).length → ((kids L j).map (num L)).getD i 0 = num L ((kids L j).getD i 0)) := Lib.hid fun i hi => by
        rw [gD (by simpa using hi), gD hi, List.getElem_map]
      have HR := Lib.hid (kids_ris L j)
      have hnk9 : (kids L j).length ≤ 9223372036854775807 := by have := kids_len L j; have := HNL.out; omega
      have HHIT := Lib.hid (fun (q : Nat) (hq : q < (kids L j).length) (e : num L ((kids L j).getD q 0) = p) => child_hit HI.out hjL hq e)
      have HFAR := Lib.hid (child_far HI.out hjL (p := p))
      have HCH := Lib.hid (next_child hjL (p := p))
      have HJ := Lib.hid (show j = 0 ∨ 1 ≤ j by omega)
      have HNX := Lib.hid hnx
      have HDJ := Lib.hid hd
      have HNUM : Hid (∀ i, i < n → wr.cell? ⟨sb, i * 5, none⟩ = some (.int .u64 (num L i))) := Lib.hid fun i hi => by rw [(hA.cells hi).1, HK.out.num i hi]
      have HLn : Hid (((kids L j).map (num L)).length = (kids L j).length) := Lib.hid (by simp)
      have hjI : (j : Int) < (n : Int) := by omega
      have hj0 : (0 : Int) ≤ (j : Int) := Int.natCast_nonneg _
      have hne : ((j : Int) != -1) = true := by rw [bne_iff_ne]; omega
      generalize kids L j = K at *
      obtain ⟨m, hm⟩ : ∃ m, K.length = m := ⟨_, rfl⟩
      obtain ⟨Z, hZ⟩ : ∃ Z, K.map (num L) = Z := ⟨_, rfl⟩
      rw [hm] at HC HM HZN hnk9 HHIT HFAR HLn ev c3
      rw [hZ] at HZN HR HFAR HLn
      clear hb hA c0 c2 c4 ev hrow hnx hd hm hZ hk
      go_wp2
      go_loopw [7, 9, 10] (fun s7 s9 s10 wx => s7 = .int .i64 0 ∧ ∃ x y : Nat, x ≤ y ∧ y ≤ m ∧ s9 = .int .i64 x ∧ s10 = .int .i64 y ∧ Below wr.heap.size wr wx ∧ (∀ i, i < x → Z.getD i 0 < p) ∧ (∀ i, y ≤ i → i < m → p < Z.getD i 0)) (fun _ s9 s10 _ => (intOf s10).toNat - (intOf s9).toNat)
      case atStart => exact ⟨rfl, 0, m, Nat.zero_le _, Nat.le_refl _, rfl, rfl, Below.refl _ _, fun i hi => by omega, fun i h1 h2 => by omega⟩
      case round =>
        obtain ⟨rfl, x, y, hxy, hyn, rfl, rfl, hbx, hlo, hhi⟩ := hrel
        have HLO := Lib.hid hlo
        have HHI := Lib.hid hhi
        have HBX := Lib.hid hbx
        by_cases hlt : x < y
        · obtain ⟨q, hq⟩ : ∃ q, (y - x) / 2 = q := ⟨_, rfl⟩
          have hq1 : x + q < y := by omega
          have hq2 : ((y : Int) - (x : Int)) / 2 = (q : Int) := by omega
          have hltI : (x : Int) < (y : Int) := by omega
          have hx0 : (0 : Int) ≤ (x : Int) := Int.natCast_nonneg _
          have hq0 : (0 : Int) ≤ (q : Int) := Int.natCast_nonneg _
          have hqn : x + q < m := by omega
          have hmI : (x : Int) + (q : Int) < (m : Int) := by omega
          have hyI : (y : Int) ≤ (m : Int) := by omega
          obtain ⟨g, ea, hcell⟩ := HC.out (x + q) hqn
          have hk9 := HM.out (x + q) hqn
          have hz := HZN.out (x + q) hqn
          have hit := HHIT.out (x + q) hqn
          obtain ⟨i9, hi9⟩ : ∃ i, K.getD (x + q) 0 = i := ⟨_, rfl⟩
          rw [hi9] at hcell hk9 hz hit
          have hc9 := HNUM.out i9 hk9
          have hi9I : (i9 : Int) < (n : Int) := by omega
          have hi90 : (0 : Int) ≤ (i9 : Int) := Int.natCast_nonneg _
          have HZ9 := Lib.hid hz
          have HIT := Lib.hid hit
          obtain ⟨u, hu⟩ : ∃ u, num L i9 = u := ⟨_, rfl⟩
          rw [hu] at HZ9 HIT hc9
          replace hcell := cell_later hbx hcell
          replace hc9 := cell_later hbx hc9
          have b0x := cell_later hbx b0
          clear hlo hhi hbx hq hz hi9 hu hit c1 c3 b0
          subst ea
          rcases Int.lt_trichotomy u p with hup | hup | hup
          · have d1 : decide (u < p) = true := decide_eq_true hup
            have HUP := Lib.hid hup
            clear hup
            go_wp2
            go_region
            go_wp2
            go_roundw
            case rel =>
              refine ⟨rfl, x + q + 1, y, by omega, hyn, by go_num, rfl, HBX.out.trans (Below.refl _ _).drew, fun i hi => ?_, HHI.out⟩
              have g1 := ris_get HR.out (i := i) (j := x + q) (by omega) (by rw [HLn.out]; exact hqn)
              have g2 := HUP.out
              rw [HZ9.out] at g1
              omega
            case measure => simp [intOf]; omega
          · have d1 : decide (u < p) = false := decide_eq_false (by omega)
            have d2 : decide (p < u) = false := decide_eq_false (by omega)
            have hcv := HIT.out hup
            have hne2 : childV L j p ≠ -1 := by rw [hcv]; omega
            have HTV : Hid (T = (i9 : Int)) := Lib.hid (by rw [← HNX.out, HCH.out hne2, hcv])
            clear hup hcv hne2
            go_wp2
            go_region
            go_wp2
            rw [Exit.noGoto_ret]
            go_ret
            exact ⟨congrArg (fun z : Int => Ending.returned (.int .i64 z)) HTV.out.symm, bel_step HBr.out (HBX.out.trans (Below.refl _ _).drew)⟩
          · have d1 : decide (u < p) = false := decide_eq_false (by omega)
            have d2 : decide (p < u) = true := decide_eq_true hup
            have HUP := Lib.hid hup
            clear hup
            go_wp2
            go_region
            go_wp2
            go_roundw
            case rel =>
              refine ⟨rfl, x, x + q, by omega, by omega, rfl, by go_num, HBX.out.trans (Below.refl _ _).drew, HLO.out, fun i h1 h2 => ?_⟩
              have g1 := ris_get HR.out (i := x + q) (j := i) h1 (by rw [HLn.out]; exact h2)
              have g2 := HUP.out
              rw [HZ9.out] at g1
              omega
            case measure => simp [intOf]; omega
        · obtain rfl : x = y := by omega
          have hltI : ¬ (x : Int) < (x : Int) := by omega
          have hcv : childV L j p = -1 := HFAR.out fun i hi => by
            rcases Nat.lt_or_ge i x with h1 | h1
            · have := hlo i h1; omega
            · have := hhi i h1 hi; omega
          have HCV := Lib.hid hcv
          have c1x := cell_later hbx c1
          have b0x := cell_later hbx b0
          clear hlo hhi hbx hcv c1 b0
          obtain ⟨v, hv⟩ : ∃ v, fallV L j = v := ⟨_, rfl⟩
          rw [hv] at c1x
          have HV := Lib.hid hv
          clear hv
          go_wp2
          go_roundw
          case rel =>
            refine ⟨rfl, bel_step HBr.out HBX.out, ?_⟩
            rcases HJ.out with e | e
            · subst e
              left
              have e1 := HV.out
              have e2 := HNX.out
              rw [Int.natCast_zero, fall_zero] at e1
              rw [next_root HI.out HCV.out] at e2
              exact ⟨by rw [← e1], e2.symm⟩
            · right
              have e1 := HV.out
              rw [fall_at e hjL] at e1
              refine ⟨deep L (L.getD j []).tail, by rw [← e1], by rw [HNL.out]; exact deep_lt HI.out _, ?_, ?_⟩
              · have := fall_less HI.out e hjL
                have := HDJ.out
                unfold dep at *
                omega
              · rw [← next_fall HI.out e hjL HCV.out]; exact HNX.out
          case measure =>
            show depM L v < depM L (j : Int)
            rw [← HV.out, depM_nat]
            rcases HJ.out with e | e
            · subst e
              rw [Int.natCast_zero, fall_zero, depM_neg]; omega
            · rw [fall_at e hjL, depM_nat]
              have := fall_less HI.out e hjL
              unfold dep
              omega
end Go.Proofs.Ytehmbnloplamaaa
