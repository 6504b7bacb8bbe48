/- The place of a number among a node's children, looked for by halves. Condition: the children rise. -/
import Derived.Test.YtehmbnloplamaaaTrB
import Derived.Test.YtehmbnloplamaaaApp
namespace Go.Proofs.Ytehmbnloplamaaa
open Go.RowKit
set_option linter.unusedVariables false
open Tr
set_option maxRecDepth 100000 in
set_option maxHeartbeats 1000000 in
theorem halve_tr {w : World} {B tb nb nc : Nat} {rv : Nat → Value} {L W : LL} (h : TrP w B tb nb nc rv L W) (k : Nat) (hk : k < L.length) (p : Int) :
    Calls Try.prog 60 #[rv (2 * k + 1), .int .u64 p, .func (.func 61) #[.pointer (some ⟨tb, 0, none⟩)] #[]] w fun e w' => e = .returned (.int .i64 (place ((kids L k).map (num L)) p)) ∧ w = w' := by
  have hr := TrX.rows h (2 * k + 1) (by omega)
  have hl : (data L W (2 * k + 1)).length = (kids L k).length := by rw [data_kids]; simp
  rw [hl, data_kids] at hr
  have HN : Hid (∀ j, j < L.length → Calls Try.prog 61 #[.pointer (some ⟨tb, 0, none⟩), .int .i64 (j : Int)] w fun e w' => e = .returned (.int .u64 (num L j)) ∧ w = w') := Lib.hid fun j hj => number_tr h hj
  have HM : Hid (∀ i, i < (kids L k).length → (kids L k).getD i 0 < L.length) := Lib.hid fun i hi => (kids_mem.1 (gD_mem (d := 0) hi)).1
  have HK : Hid (∀ i, i < (kids L k).length → ((kids L k).map (num L)).getD i 0 = num L ((kids L k).getD i 0)) := Lib.hid fun i hi => by
    rw [gD (by simpa using hi), gD hi, List.getElem_map]
  have HR := Lib.hid (kids_ris L k)
  have HLn : Hid (((kids L k).map (num L)).length = (kids L k).length) := Lib.hid (by simp)
  have hn9 : (kids L k).length ≤ 9223372036854775807 := Nat.le_trans (kids_len L k) h.len9
  obtain ⟨a, c, ev⟩ := Tr.own_form hr
  have HC : Hid (∀ i, i < (kids L k).length → ∃ g, a = some ⟨g, 0, none⟩ ∧ w.cell? ⟨g, i, none⟩ = some (.int .i64 ((kids L k).getD i 0 : Nat))) := Lib.hid fun i hi => by
    obtain ⟨g, c', ev', _, _⟩ := hr.form (by omega)
    rw [ev] at ev'
    injection ev' with e1 e2 e3
    rw [ev, e1] at hr
    refine ⟨g, e1, ?_⟩
    have hcell := hr.cellAt i (by omega)
    rw [hcell, List.getElem?_map, List.getElem?_map, List.getElem?_eq_getElem hi, gD hi]; rfl
  rw [ev]
  generalize kids L k = K at *
  obtain ⟨n, hn⟩ : ∃ n, K.length = n := ⟨_, rfl⟩
  obtain ⟨Z, hZ⟩ : ∃ Z, K.map (num L) = Z := ⟨_, rfl⟩
  rw [hn] at HM HK HLn hn9 HC ⊢
  rw [hZ] at HK HR HLn ⊢
  clear hr hl hn ev h hZ
  go_enter Try.func60, Try.ntmps60
  go_wp2
  go_loop [7, 8] (fun s7 s8 => ∃ x y : Nat, x ≤ y ∧ y ≤ n ∧ s7 = .int .i64 x ∧ s8 = .int .i64 y ∧ (∀ i, i < x → Z.getD i 0 < p) ∧ (∀ i, y ≤ i → i < n → p ≤ Z.getD i 0)) (fun s7 s8 => (intOf s8).toNat - (intOf s7).toNat)
  case atStart => exact ⟨0, n, Nat.zero_le _, Nat.le_refl _, rfl, rfl, fun i hi => by omega, fun i h1 h2 => by omega⟩
  case round =>
    obtain ⟨x, y, hxy, hyn, rfl, rfl, hlo, hhi⟩ := hrel
    have HLO := Lib.hid hlo
    have HHI := Lib.hid hhi
    clear hlo hhi
    by_cases hlt : x < y
    · obtain ⟨q, hq⟩ : ∃ q, (y - x) / 2 = q := ⟨_, rfl⟩
      have hq1 : x + q < y := by omega
      have hq2 : ((y : Int) - (x : Int)) / 2 = (q : Int) := by omega
      have hltI : (x : Int) < (y : Int) := by omega
      have hx0 : (0 : Int) ≤ (x : Int) := Int.natCast_nonneg _
      have hq0 : (0 : Int) ≤ (q : Int) := Int.natCast_nonneg _
      have hqn : x + q < n := by omega
      have hmI : (x : Int) + (q : Int) < (n : Int) := by omega
      have hyI : (y : Int) ≤ (n : Int) := by omega
      obtain ⟨g, rfl, hcell⟩ := HC.out (x + q) hqn
      have hk9 := HM.out (x + q) hqn
      have hz := HK.out (x + q) hqn
      obtain ⟨j, hj⟩ : ∃ j, K.getD (x + q) 0 = j := ⟨_, rfl⟩
      rw [hj] at hcell hk9 hz
      have HZ9 := Lib.hid hz
      have HN9 := Lib.hid (HN.out j hk9)
      obtain ⟨u, hu⟩ : ∃ u, num L j = u := ⟨_, rfl⟩
      rw [hu] at HN9 HZ9
      clear hq hz hj hu hk9
      by_cases hup : u < p
      · have hd : decide (u < p) = true := decide_eq_true hup
        have HUP := Lib.hid hup
        clear hup
        go_wp2_with ((with_reducible refine HN9.out.mono ?_); rintro e w9 ⟨rfl, rfl⟩)
        go_round
        case rel =>
          refine ⟨x + q + 1, y, by omega, hyn, by go_num, rfl, fun i hi => ?_, HHI.out⟩
          have h1 := ris_get HR.out (i := i) (j := x + q) (by omega) (by rw [HLn.out]; exact hqn)
          have h2 := HUP.out
          rw [HZ9.out] at h1
          omega
        case measure => simp [intOf]; omega
      · have hd : decide (u < p) = false := decide_eq_false hup
        have HUP := Lib.hid hup
        clear hup
        go_wp2_with ((with_reducible refine HN9.out.mono ?_); rintro e w9 ⟨rfl, rfl⟩)
        go_round
        case rel =>
          refine ⟨x, x + q, by omega, by omega, rfl, by go_num, HLO.out, fun i h1 h2 => ?_⟩
          have h3 := ris_get HR.out (i := x + q) (j := i) h1 (by rw [HLn.out]; exact h2)
          have h4 := HUP.out
          rw [HZ9.out] at h3
          omega
        case measure => simp [intOf]; omega
    · obtain rfl : x = y := by omega
      have hltI : ¬ (x : Int) < (x : Int) := by omega
      have hpl : place Z p = x := place_eq (by rw [HLn.out]; exact hyn) HLO.out (fun h1 => HHI.out x (Nat.le_refl _) (by rw [HLn.out] at h1; exact h1))
      have HPL := Lib.hid hpl
      clear hpl
      go_wp2
      go_ret
      exact ⟨congrArg (fun z : Nat => Ending.returned (.int .i64 (z : Int))) HPL.out.symm, rfl⟩
theorem halve_nil (tb : Nat) (p : Int) (w : World) :
    Calls Try.prog 60 #[.slice none 0 0, .int .u64 p, .func (.func 61) #[.pointer (some ⟨tb, 0, none⟩)] #[]] w fun e w' => e = .returned (.int .i64 0) ∧ w = w' := by
  go_enter Try.func60, Try.ntmps60
  go_wp2
  refine wp_loop_rounds 1 ?_
  rw [rounds_succ]
  go_wp2
  go_ret
  exact ⟨rfl, rfl⟩
set_option maxRecDepth 100000 in
set_option maxHeartbeats 1000000 in
theorem child_tr {w : World} {B tb nb nc : Nat} {rv : Nat → Value} {L W : LL} (h : TrP w B tb nb nc rv L W) (hI : Inv L) (k p : Int) :
    Calls Try.prog 59 #[.pointer (some ⟨tb, 0, none⟩), .int .i64 k, .int .u64 p] w fun e w' => e = .returned (.int .i64 (childV L k p)) ∧ Below w.heap.size w w' := by
  by_cases hk : out L k
  · have hc := h.at_out hk
    have e : childV L k p = -1 := by unfold childV; rw [if_pos hk]
    rw [e]
    have hfd := nd_field3
    have HH := Lib.hid (halve_nil tb p)
    clear e hk h
    go_enter Try.func59, Try.ntmps59
    go_wp2_with (first
      | (go_at_call 71; refine hc.mono ?_; rintro e w1 ⟨rfl, hb⟩; have HB := Lib.hid hb; clear hb)
      | (go_at_call 60; refine (HH.out _).mono ?_; rintro e w1 ⟨rfl, rfl⟩))
    go_ret
    exact ⟨rfl, HB.out⟩
  · obtain ⟨n, rfl⟩ : ∃ n : Nat, k = (n : Int) := ⟨k.toNat, by omega⟩
    have hn : n < L.length := by omega
    have HA := Lib.hid (h.at_in hn)
    have HH := Lib.hid (fun (w' : World) (hb : Below w.heap.size w w') => halve_tr (h.later hb) n hn p)
    have HN := Lib.hid (fun (w' : World) (hb : Below w.heap.size w w') (j : Nat) (hj : j < L.length) => number_tr (h.later hb) hj)
    have hr := TrX.rows h (2 * n + 1) (by omega)
    have hl : (data L W (2 * n + 1)).length = (kids L n).length := by rw [data_kids]; simp
    rw [hl, data_kids] at hr
    have HM : Hid (∀ i, i < (kids L n).length → (kids L n).getD i 0 < L.length) := Lib.hid fun i hi => (kids_mem.1 (gD_mem (d := 0) hi)).1
    have hn9 : (kids L n).length ≤ 9223372036854775807 := Nat.le_trans (kids_len L n) h.len9
    obtain ⟨a, c, ev⟩ := Tr.own_form hr
    have HC : Hid (∀ i, i < (kids L n).length → ∃ g, a = some ⟨g, 0, none⟩ ∧ w.cell? ⟨g, i, none⟩ = some (.int .i64 ((kids L n).getD i 0 : Nat))) := Lib.hid fun i hi => by
      obtain ⟨g, c', ev', _, _⟩ := hr.form (by omega)
      rw [ev] at ev'
      injection ev' with e1 e2 e3
      rw [ev, e1] at hr
      refine ⟨g, e1, ?_⟩
      have hcell := hr.cellAt i (by omega)
      rw [hcell, List.getElem?_map, List.getElem?_map, List.getElem?_eq_getElem hi, gD hi]; rfl
    have hpl := place_le ((kids L n).map (num L)) p
    rw [List.length_map] at hpl
    have HCH := Lib.hid (fun (q : Nat) (hq : q < (kids L n).length) (e : num L ((kids L n).getD q 0) = p) => child_hit hI hn hq e)
    have HCN := Lib.hid (fun hp => child_none hI hn (p := p) hp)
    rw [ev] at HA HH
    generalize hpz : place ((kids L n).map (num L)) p = z at *
    obtain ⟨m, hm⟩ : ∃ m, (kids L n).length = m := ⟨_, rfl⟩
    rw [hm] at HM hn9 HC hpl HA HH HCH HCN
    generalize kids L n = K at *
    generalize childV L n p = cv at *
    generalize parV L n = pv at HA
    generalize num L n = nv at HA
    generalize depV L n = dv at HA
    generalize rv (2 * n + 2) = vw at HA
    have hfd := nd_field3
    clear hk h hr hl hn ev hm hpz
    by_cases hz : z = m
    · have hcv := HCN.out (.inl hz)
      have HCV := Lib.hid hcv
      have hb1 : ((z : Int) == (m : Int)) = true := by rw [hz]; simp
      clear hcv HC HM HN HCH HCN
      have HZ := Lib.hid hz
      clear hz
      go_enter Try.func59, Try.ntmps59
      go_wp2_with (first
        | (go_at_call 71; refine HA.out.mono ?_; rintro e w1 ⟨rfl, hb⟩; have HB := Lib.hid hb; have HH2 := Lib.hid (HH.out _ hb); clear hb)
        | (go_at_call 60; refine HH2.out.mono ?_; rintro e w2 ⟨rfl, rfl⟩))
      go_ret
      exact ⟨congrArg (fun z : Int => Ending.returned (.int .i64 z)) HCV.out.symm, HB.out⟩
    · have hzm : z < m := by omega
      have hb1 : ((z : Int) == (m : Int)) = false := by rw [beq_eq_false_iff_ne]; omega
      have hzI : (z : Int) < (m : Int) := by omega
      have hz0 : (0 : Int) ≤ (z : Int) := Int.natCast_nonneg _
      obtain ⟨g, rfl, hcell⟩ := HC.out z hzm
      have hj9 := HM.out z hzm
      have hhit := HCH.out z hzm
      have hnone := fun h => HCN.out (.inr h)
      obtain ⟨j, hj⟩ : ∃ j, K.getD z 0 = j := ⟨_, rfl⟩
      rw [hj] at hcell hj9 hhit hnone
      have HN2 := Lib.hid (fun (w' : World) (hb : Below w.heap.size w w') => HN.out w' hb j hj9)
      obtain ⟨u, hu⟩ : ∃ u, num L j = u := ⟨_, rfl⟩
      rw [hu] at HN2 hhit hnone
      have HC2 := Lib.hid hcell
      have HHIT := Lib.hid hhit
      have HNONE := Lib.hid hnone
      clear HN HCH HCN HC HM hz hj hu hj9 hhit hnone hcell
      by_cases hup : u = p
      · have hcv := HHIT.out hup
        have HCV := Lib.hid hcv
        have hb2 : (u != p) = false := by rw [hup]; simp
        clear hup hcv
        go_enter Try.func59, Try.ntmps59
        go_wp2_with (first
          | (go_at_call 71; refine HA.out.mono ?_; rintro e w1 ⟨rfl, hb⟩; have HB := Lib.hid hb; have HH2 := Lib.hid (HH.out _ hb); have HN3 := Lib.hid (HN2.out _ hb); have hcl := cell_later hb HC2.out; clear hb)
          | (go_at_call 60; refine HH2.out.mono ?_; rintro e w2 ⟨rfl, rfl⟩)
          | (go_at_call 61; refine HN3.out.mono ?_; rintro e w2 ⟨rfl, rfl⟩))
        go_ret
        exact ⟨congrArg (fun z : Int => Ending.returned (.int .i64 z)) HCV.out.symm, HB.out⟩
      · have hcv := HNONE.out hup
        have HCV := Lib.hid hcv
        have hb2 : (u != p) = true := by simpa using hup
        clear hup hcv
        go_enter Try.func59, Try.ntmps59
        go_wp2_with (first
          | (go_at_call 71; refine HA.out.mono ?_; rintro e w1 ⟨rfl, hb⟩; have HB := Lib.hid hb; have HH2 := Lib.hid (HH.out _ hb); have HN3 := Lib.hid (HN2.out _ hb); have hcl := cell_later hb HC2.out; clear hb)
          | (go_at_call 60; refine HH2.out.mono ?_; rintro e w2 ⟨rfl, rfl⟩)
          | (go_at_call 61; refine HN3.out.mono ?_; rintro e w2 ⟨rfl, rfl⟩))
        go_ret
        exact ⟨congrArg (fun z : Int => Ending.returned (.int .i64 z)) HCV.out.symm, HB.out⟩
end Go.Proofs.Ytehmbnloplamaaa
