/- BitsRuns: runs are the document's, and unrun as they were; numbers are unrun as it says: the walk of the law. No condition. -/
import Derived.Test.YtjjpnipcpnkakaaBtT
import Derived.Deep.LoopGhost
namespace Go.Proofs.Ytjjpnipcpnkakaa
open Go.RowKit Go.Shelf
set_option linter.unusedVariables false
namespace Bt
theorem runs_t (a : Option Addr) (n cap : Nat) (l : List Int) (w : World) (h : Ls .i64 w a n cap l) (hn : n ≤ 100000) (xs : List Int) (m : Nat) (hx : runsV l = xs) (hm : xs.length = m) :
    Calls Try.prog 59 #[.slice a n cap] w fun e w' => ∃ ad c, e = .returned (.slice ad m c) ∧ Ls .i64 w' ad m c xs ∧ Below w.heap.size w w' := by
  refine (runs_any a n cap l w hn h.1).mono ?_
  rintro e w' hr
  rw [hx] at hr
  exact ls_t hm hr
theorem refRuns_t (a : Option Addr) (n cap : Nat) (l : List Int) (w : World) (h : Ls .i64 w a n cap l) (hn : n ≤ 100000) (xs : List Int) (m : Nat) (hx : runsV l = xs) (hm : xs.length = m) :
    Calls Try.prog 60 #[.slice a n cap] w fun e w' => ∃ ad c, e = .returned (.slice ad m c) ∧ Ls .i64 w' ad m c xs ∧ Below w.heap.size w w' := by
  refine (refRuns_any a n cap l w hn h.1).mono ?_
  rintro e w' hr
  rw [hx] at hr
  exact ls_t hm hr
theorem unrun_t (a : Option Addr) (n cap : Nat) (l : List Int) (w : World) (h : Ls .i64 w a n cap l) (hn : n ≤ 100000) (hI : ∀ x ∈ l, -9223372036854775808 ≤ x ∧ x ≤ 9223372036854775807) (xs : List Int) (m : Nat) (hx : unV l = xs) (hm : xs.length = m) :
    Calls Try.prog 61 #[.slice a n cap] w fun e w' => ∃ ad c, e = .returned (.slice ad m c) ∧ Ls .i64 w' ad m c xs ∧ Below w.heap.size w w' := by
  refine (unrun_any a n cap l w hn hI h.1).mono ?_
  rintro e w' hr
  rw [hx] at hr
  exact ls_t hm hr
theorem refUnrun_t (a : Option Addr) (n cap : Nat) (l : List Int) (w : World) (h : Ls .i64 w a n cap l) (hn : n ≤ 100000) (hI : ∀ x ∈ l, -9223372036854775808 ≤ x ∧ x ≤ 9223372036854775807) (xs : List Int) (m : Nat) (hx : unV l = xs) (hm : xs.length = m) :
    Calls Try.prog 62 #[.slice a n cap] w fun e w' => ∃ ad c, e = .returned (.slice ad m c) ∧ Ls .i64 w' ad m c xs ∧ Below w.heap.size w w' := by
  refine (refUnrun_any a n cap l w hn hI h.1).mono ?_
  rintro e w' hr
  rw [hx] at hr
  exact ls_t hm hr
theorem runsAux_bd : ∀ (l : List Int) (b : Bool) (c : Int), 0 ≤ c → (runsAux b c l).length ≤ l.length + 1 ∧ ∀ x ∈ runsAux b c l, 0 ≤ x ∧ x ≤ c + l.length
  | [], b, c, h => by simp [runsAux, h]
  | y :: l, b, c, h => by
    rw [runsAux]
    split
    · have := runsAux_bd l b (c + 1) (by omega)
      refine ⟨by simp; omega, fun x hx => ?_⟩
      have := this.2 x hx
      simp only [List.length_cons]; omega
    · have := runsAux_bd l (!b) 1 (by omega)
      refine ⟨by simp; omega, fun x hx => ?_⟩
      rcases List.mem_cons.1 hx with rfl | hx
      · simp only [List.length_cons]; omega
      · have := this.2 x hx
        simp only [List.length_cons]; omega
theorem runsV_bd (l : List Int) : (runsV l).length ≤ l.length + 1 ∧ ∀ x ∈ runsV l, 0 ≤ x ∧ x ≤ l.length := by
  unfold runsV
  split
  · simp
  · have := runsAux_bd l false 0 (by omega)
    exact ⟨this.1, fun x hx => by have := this.2 x hx; omega⟩
end Bt
set_option maxRecDepth 100000 in
set_option maxHeartbeats 8000000 in
theorem bitsRuns_walk (a0 : Option Addr) (len0 cap0 : Nat) (z0 : List Int) (a1 : Option Addr) (len1 cap1 : Nat) (z1 : List Int) (w : World) (w0 : IsRow .i64 w a0 len0 cap0 z0) (w1 : IsRow .i64 w a1 len1 cap1 z1) :
    Calls Try.prog 10 #[.slice a0 len0 cap0, .slice a1 len1 cap1] w fun e w' => e = .returned (.bool true) ∧ Below w.heap.size w w' := by
  obtain ⟨l1, l2, l3, l4⟩ := isrow_len w0
  obtain ⟨k1, k2, k3, k4⟩ := isrow_len w1
  obtain ⟨m, hmm⟩ : ∃ m, ((len0 ≤ 60 ∧ m = len0) ∨ (60 < len0 ∧ m = 60)) := ⟨min len0 60, by omega⟩
  obtain ⟨m1, hmm1⟩ : ∃ m1, ((len1 ≤ 9 ∧ m1 = len1) ∨ (9 < len1 ∧ m1 = 9)) := ⟨min len1 9, by omega⟩
  have hm1 : m ≤ len0 := by omega
  have hm60 : m ≤ 60 := by omega
  have hn1 : m1 ≤ len1 := by omega
  have hn9 : m1 ≤ 9 := by omega
  obtain ⟨hW, -⟩ := Bt.ls_in w0 len0 (Nat.le_refl _)
  obtain ⟨ha, -⟩ := Bt.ls_in w0 m hm1
  obtain ⟨hc, hcI⟩ := Bt.ls_in w1 m1 hn1
  have HW := Lib.hid hW
  have HA := Lib.hid ha
  have HC := Lib.hid hc
  have HCI := Lib.hid hcI
  clear hW ha hc hcI
  generalize z0.take len0 = lw at HW
  generalize z0.take m = la at HA
  generalize z1.take m1 = lc at HC HCI
  obtain ⟨own, hown⟩ : ∃ own, Bt.onesV lw 60 = own := ⟨_, rfl⟩
  have OO : Bt.Ones own := by rw [← hown]; exact Bt.onesV_01 _ _
  have l60 : own.length ≤ 60 := by rw [← hown, Bt.onesV_len]; omega
  obtain ⟨nO, hnO⟩ : ∃ n, own.length = n := ⟨_, rfl⟩
  have UO := Lib.hid (Bt.unrun_runs OO (by omega))
  have hb := Bt.runsV_bd own
  obtain ⟨rO, hrO⟩ : ∃ r, Bt.runsV own = r := ⟨_, rfl⟩
  rw [hrO] at UO hb
  have RI := Lib.hid (show ∀ x ∈ rO, -9223372036854775808 ≤ x ∧ x ≤ 9223372036854775807 from fun x hx => by have := hb.2 x hx; omega)
  obtain ⟨nR, hnR⟩ : ∃ r, rO.length = r := ⟨_, rfl⟩
  have nR61 := Lib.hid (show nR ≤ 61 by omega)
  have nO60 := Lib.hid (show nO ≤ 60 by omega)
  obtain ⟨rL, hrL⟩ : ∃ r, Bt.runsV la = r := ⟨_, rfl⟩
  obtain ⟨nL, hnL⟩ : ∃ r, rL.length = r := ⟨_, rfl⟩
  obtain ⟨near, hnear⟩ : ∃ n, lc.map (fun x => Ar.around x 20 - 2) = n := ⟨_, rfl⟩
  have LC := Lib.hid HC.out.1.1
  have LN := Lib.hid (show near.length = m1 by rw [← hnear, List.length_map]; exact LC.out)
  have GN := Lib.hid (show ∀ k, k < m1 → near.getD k 0 = Ar.around (lc.getD k 0) 20 - 2 from fun k hk => by
    have : k < lc.length := by rw [LC.out]; exact hk
    rw [← hnear, List.getD_eq_getElem?_getD, List.getElem?_map, List.getD_eq_getElem?_getD, List.getElem?_eq_getElem this]; rfl)
  have NI := Lib.hid (show ∀ x ∈ near, -9223372036854775808 ≤ x ∧ x ≤ 9223372036854775807 from fun x hx => by
    rw [← hnear] at hx
    obtain ⟨y, _, rfl⟩ := List.mem_map.1 hx
    have := Ar.around_lt y 20 (by omega)
    omega)
  obtain ⟨uN, huN⟩ : ∃ u, Bt.unV near = u := ⟨_, rfl⟩
  obtain ⟨nN, hnN⟩ : ∃ u, uN.length = u := ⟨_, rfl⟩
  obtain ⟨uC, huC⟩ : ∃ u, Bt.unV lc = u := ⟨_, rfl⟩
  obtain ⟨nC, hnC⟩ : ∃ u, uC.length = u := ⟨_, rfl⟩
  have HOWN := Lib.hid hown; have LOWN := Lib.hid hnO; have RO := Lib.hid hrO; have NR := Lib.hid hnR; have RL := Lib.hid hrL; have NL := Lib.hid hnL
  have UN := Lib.hid huN; have NN := Lib.hid hnN; have UC := Lib.hid huC; have NC := Lib.hid hnC
  clear w0 w1 l2 k2 hm1 hn1 hown OO l60 hnO hb hrO hnR hrL hnL hnear huN hnN huC hnC
  rcases hmm with ⟨h, rfl⟩ | ⟨h, rfl⟩
  · have kd : min (m : Int) 60 = m := by omega
    clear h
    rcases hmm1 with ⟨h, rfl⟩ | ⟨h, rfl⟩
    · have kd1 : min (m1 : Int) 9 = m1 := by omega
      clear h
      go_enter Try.func10, Try.ntmps10
      have HB := Lib.hid (Below.refl w.heap.size w)
      go_wp2_with fail
      refine (Bt.ones_t a0 m cap0 60 lw _ HW.out (by omega) own nO HOWN.out LOWN.out).mono ?_
      rintro e w1 ⟨ad1, c1, rfl, L, B⟩
      have HB := Lib.hid (bel_step HB.out B)
      have HA := Lib.hid (HA.out.later B)
      have HC := Lib.hid (HC.out.later B)
      have HO := Lib.hid L
      clear B L
      go_wp2_with fail
      refine (Bt.runs_t _ _ _ own _ HO.out (by have := nO60.out; omega) rO nR RO.out NR.out).mono ?_
      rintro e w2 ⟨ad2, c2, rfl, L, B⟩
      have HB := Lib.hid (bel_step HB.out B)
      have HA := Lib.hid (HA.out.later B)
      have HC := Lib.hid (HC.out.later B)
      have HO := Lib.hid (HO.out.later B)
      have HR := Lib.hid L
      clear B L
      obtain ⟨i0, hi, hz0, hz1, hz2⟩ := info_parts Bt.Try.info_int
      have hw2 := HB.out.size
      have HBw := Lib.hid (Below.refl w2.heap.size w2)
      go_wp2
      go_loopg [8, 9] m1 (fun g s8 s9 wr => ∃ k : Nat, k + g = m1 ∧ s9 = .int .i64 k ∧ wr.ownsRow w2.heap.size 3 1 s8 k ((near.take k).map (Value.int .i64)) ∧ Below w2.heap.size w2 wr)
      case atStart => exact ⟨0, by omega, rfl, World.ownsRow_nil _ _ _ _, HBw.out⟩
      case round =>
        obtain ⟨k, hk, rfl, hrow, hB⟩ := hrel
        have k0 : (0 : Int) ≤ k := Int.natCast_nonneg _
        cases gk with
        | zero =>
          obtain rfl : k = m1 := by omega
          obtain ⟨ad3, c3, rfl, -, -⟩ := ownK_row (by rw [List.length_take, LN.out]; omega) hrow
          have L := Bt.ls_of (q := .i64) (by rw [List.length_take, LN.out]; omega) hrow
          rw [List.take_of_length_le (by rw [LN.out]; omega)] at L
          have HN := Lib.hid L
          have HO := Lib.hid (HO.out.later hB); have HR := Lib.hid (HR.out.later hB); have HA := Lib.hid (HA.out.later hB); have HC := Lib.hid (HC.out.later hB)
          have HB := Lib.hid (bel_step HB.out hB)
          clear hrow L hB hk
          go_wp2_with fail
          refine (Bt.refRuns_t _ _ _ own _ HO.out (by have := nO60.out; omega) rO nR RO.out NR.out).mono ?_
          rintro e w6 ⟨ad4, c4, rfl, L, B⟩
          have HB := Lib.hid (bel_step HB.out B)
          have HO := Lib.hid (HO.out.later B)
          have HR := Lib.hid (HR.out.later B)
          have HA := Lib.hid (HA.out.later B)
          have HC := Lib.hid (HC.out.later B)
          have HN := Lib.hid (HN.out.later B)
          have HX := Lib.hid L
          clear B L
          go_wp2_with fail
          refine (Sm.same_self _ _ _ _ _ _ rO _ (by have := HR.out.2; omega) HR.out.1 HX.out.1).mono ?_
          rintro e w7 ⟨rfl, B⟩
          have HB := Lib.hid (bel_step HB.out B)
          have HO := Lib.hid (HO.out.later B)
          have HR := Lib.hid (HR.out.later B)
          have HA := Lib.hid (HA.out.later B)
          have HC := Lib.hid (HC.out.later B)
          have HN := Lib.hid (HN.out.later B)
          clear B
          go_wp2_with fail
          refine (Bt.runs_t _ _ _ la _ HA.out (by omega) rL nL RL.out NL.out).mono ?_
          rintro e w8 ⟨ad5, c5, rfl, L, B⟩
          have HB := Lib.hid (bel_step HB.out B)
          have HO := Lib.hid (HO.out.later B)
          have HR := Lib.hid (HR.out.later B)
          have HA := Lib.hid (HA.out.later B)
          have HC := Lib.hid (HC.out.later B)
          have HN := Lib.hid (HN.out.later B)
          have HX1 := Lib.hid L
          clear B L
          go_wp2_with fail
          refine (Bt.refRuns_t _ _ _ la _ HA.out (by omega) rL nL RL.out NL.out).mono ?_
          rintro e w9 ⟨ad6, c6, rfl, L, B⟩
          have HB := Lib.hid (bel_step HB.out B)
          have HO := Lib.hid (HO.out.later B)
          have HR := Lib.hid (HR.out.later B)
          have HA := Lib.hid (HA.out.later B)
          have HC := Lib.hid (HC.out.later B)
          have HN := Lib.hid (HN.out.later B)
          have HX1 := Lib.hid (HX1.out.later B)
          have HX2 := Lib.hid L
          clear B L
          go_wp2_with fail
          refine (Sm.same_self _ _ _ _ _ _ rL _ (by have := HX1.out.2; omega) HX1.out.1 HX2.out.1).mono ?_
          rintro e wa ⟨rfl, B⟩
          have HB := Lib.hid (bel_step HB.out B)
          have HO := Lib.hid (HO.out.later B)
          have HR := Lib.hid (HR.out.later B)
          have HA := Lib.hid (HA.out.later B)
          have HC := Lib.hid (HC.out.later B)
          have HN := Lib.hid (HN.out.later B)
          clear B
          go_wp2_with fail
          refine (Bt.unrun_t _ _ _ rO _ HR.out (by have := nR61.out; omega) RI.out own nO UO.out LOWN.out).mono ?_
          rintro e wb ⟨ad7, c7, rfl, L, B⟩
          have HB := Lib.hid (bel_step HB.out B)
          have HO := Lib.hid (HO.out.later B)
          have HR := Lib.hid (HR.out.later B)
          have HA := Lib.hid (HA.out.later B)
          have HC := Lib.hid (HC.out.later B)
          have HN := Lib.hid (HN.out.later B)
          have HX3 := Lib.hid L
          clear B L
          go_wp2_with fail
          refine (Sm.same_self _ _ _ _ _ _ own _ (by have := HX3.out.2; omega) HX3.out.1 HO.out.1).mono ?_
          rintro e wc ⟨rfl, B⟩
          have HB := Lib.hid (bel_step HB.out B)
          have HO := Lib.hid (HO.out.later B)
          have HR := Lib.hid (HR.out.later B)
          have HA := Lib.hid (HA.out.later B)
          have HC := Lib.hid (HC.out.later B)
          have HN := Lib.hid (HN.out.later B)
          clear B
          go_wp2_with fail
          refine (Bt.unrun_t _ _ _ near _ HN.out (by omega) NI.out uN nN UN.out NN.out).mono ?_
          rintro e wd ⟨ad8, c8, rfl, L, B⟩
          have HB := Lib.hid (bel_step HB.out B)
          have HO := Lib.hid (HO.out.later B)
          have HR := Lib.hid (HR.out.later B)
          have HA := Lib.hid (HA.out.later B)
          have HC := Lib.hid (HC.out.later B)
          have HN := Lib.hid (HN.out.later B)
          have HX4 := Lib.hid L
          clear B L
          go_wp2_with fail
          refine (Bt.refUnrun_t _ _ _ near _ HN.out (by omega) NI.out uN nN UN.out NN.out).mono ?_
          rintro e we ⟨ad9, c9, rfl, L, B⟩
          have HB := Lib.hid (bel_step HB.out B)
          have HO := Lib.hid (HO.out.later B)
          have HR := Lib.hid (HR.out.later B)
          have HA := Lib.hid (HA.out.later B)
          have HC := Lib.hid (HC.out.later B)
          have HN := Lib.hid (HN.out.later B)
          have HX4 := Lib.hid (HX4.out.later B)
          have HX5 := Lib.hid L
          clear B L
          go_wp2_with fail
          refine (Sm.same_self _ _ _ _ _ _ uN _ (by have := HX4.out.2; omega) HX4.out.1 HX5.out.1).mono ?_
          rintro e wf ⟨rfl, B⟩
          have HB := Lib.hid (bel_step HB.out B)
          have HO := Lib.hid (HO.out.later B)
          have HR := Lib.hid (HR.out.later B)
          have HA := Lib.hid (HA.out.later B)
          have HC := Lib.hid (HC.out.later B)
          have HN := Lib.hid (HN.out.later B)
          clear B
          go_wp2_with fail
          refine (Bt.unrun_t _ _ _ lc _ HC.out (by omega) HCI.out uC nC UC.out NC.out).mono ?_
          rintro e wg ⟨ada, ca, rfl, L, B⟩
          have HB := Lib.hid (bel_step HB.out B)
          have HO := Lib.hid (HO.out.later B)
          have HR := Lib.hid (HR.out.later B)
          have HA := Lib.hid (HA.out.later B)
          have HC := Lib.hid (HC.out.later B)
          have HN := Lib.hid (HN.out.later B)
          have HX6 := Lib.hid L
          clear B L
          go_wp2_with fail
          refine (Bt.refUnrun_t _ _ _ lc _ HC.out (by omega) HCI.out uC nC UC.out NC.out).mono ?_
          rintro e wh ⟨adb, cb, rfl, L, B⟩
          have HB := Lib.hid (bel_step HB.out B)
          have HO := Lib.hid (HO.out.later B)
          have HR := Lib.hid (HR.out.later B)
          have HA := Lib.hid (HA.out.later B)
          have HC := Lib.hid (HC.out.later B)
          have HN := Lib.hid (HN.out.later B)
          have HX6 := Lib.hid (HX6.out.later B)
          have HX7 := Lib.hid L
          clear B L
          go_wp2_with fail
          refine (Sm.same_self _ _ _ _ _ _ uC _ (by have := HX6.out.2; omega) HX6.out.1 HX7.out.1).mono ?_
          rintro e wi ⟨rfl, B⟩
          have HB := Lib.hid (bel_step HB.out B)
          have HO := Lib.hid (HO.out.later B)
          have HR := Lib.hid (HR.out.later B)
          have HA := Lib.hid (HA.out.later B)
          have HC := Lib.hid (HC.out.later B)
          have HN := Lib.hid (HN.out.later B)
          clear B
          go_wp2_with (go_at_call 53; refine (Bt.lives7_any _).mono ?_; rintro e wj ⟨rfl, hbb⟩)
          go_ret
          exact ⟨rfl, bel_step HB.out hbb⟩
        | succ g =>
          have hk9 : (k : Int) < 9 := by omega
          have hkl : (k : Int) < m1 := by omega
          have hW := hB.size
          rcases (HC.out.later hB).1.2 with h0 | ⟨b, o, rfl, hc⟩
          · omega
          have hc := hc k (by omega)
          obtain ⟨x, hx⟩ : ∃ x, lc.getD k 0 = x := ⟨_, rfl⟩
          have hxI := HCI.out x (by rw [← hx]; exact Bt.getD_mem lc k (by rw [LC.out]; omega))
          have hgn := GN.out k (by omega)
          rw [hx] at hc hgn
          obtain ⟨y, hy⟩ : ∃ y, Ar.around x 20 = y := ⟨_, rfl⟩
          have hyb := Ar.around_lt x 20 (by omega)
          rw [hy] at hyb hgn
          obtain ⟨y0, y1⟩ := hyb
          have htk := Bt.take_push near k (by rw [LN.out]; omega)
          rw [hgn] at htk
          have HT := Lib.hid htk; have HYY := Lib.hid hy; have HXI := Lib.hid hxI
          have HRW := Lib.hid hrow
          clear htk hy hxI hgn hx hrow
          go_wp2_with (first
            | (go_at_call 36; refine (aroundOf x 20 HXI.out.1 HXI.out.2 (by omega) (by omega) _).mono ?_; rw [HYY.out]; rintro e w4 ⟨rfl, rfl⟩)
            | (at_builtin; refine wpList_append_own _ rfl _ _ 74 rfl w2.heap.size 3 i0 (.int .i64 0) 1 8 Try.underlying74 hi hz0 hz1 hz2 rfl (by decide) _ k _ rfl (HRW.out.alloc _) ⟨wr.heap.size, 0, none⟩ 1 1 [.int .i64 (y - 2)] rfl rfl (cell_one_new _ _ _) (by simp [Value.oneCell']) (by unfold maxLen; omega) (by omega) (by simp; omega) ?_; intro v' w5 hown' hgrow _; have HO5 := Lib.hid hown'; have hB5 := ((hB.alloc hW _).grown hgrow (by simp; omega) (fun j ej => (HRW.out.lt j ej).1)); clear hown' hgrow))
          go_roundg g
          case measure => omega
          case rel =>
            have := HO5.out
            rw [HT.out] at this
            exact ⟨k + 1, by omega, by go_num, this, hB5⟩
    · have kd1 : min (len1 : Int) 9 = 9 := by omega
      go_enter Try.func10, Try.ntmps10
      have HB := Lib.hid (Below.refl w.heap.size w)
      go_wp2_with fail
      refine (Bt.ones_t a0 m cap0 60 lw _ HW.out (by omega) own nO HOWN.out LOWN.out).mono ?_
      rintro e w1 ⟨ad1, c1, rfl, L, B⟩
      have HB := Lib.hid (bel_step HB.out B)
      have HA := Lib.hid (HA.out.later B)
      have HC := Lib.hid (HC.out.later B)
      have HO := Lib.hid L
      clear B L
      go_wp2_with fail
      refine (Bt.runs_t _ _ _ own _ HO.out (by have := nO60.out; omega) rO nR RO.out NR.out).mono ?_
      rintro e w2 ⟨ad2, c2, rfl, L, B⟩
      have HB := Lib.hid (bel_step HB.out B)
      have HA := Lib.hid (HA.out.later B)
      have HC := Lib.hid (HC.out.later B)
      have HO := Lib.hid (HO.out.later B)
      have HR := Lib.hid L
      clear B L
      obtain ⟨i0, hi, hz0, hz1, hz2⟩ := info_parts Bt.Try.info_int
      have hw2 := HB.out.size
      have HBw := Lib.hid (Below.refl w2.heap.size w2)
      go_wp2
      go_loopg [8, 9] 9 (fun g s8 s9 wr => ∃ k : Nat, k + g = 9 ∧ s9 = .int .i64 k ∧ wr.ownsRow w2.heap.size 3 1 s8 k ((near.take k).map (Value.int .i64)) ∧ Below w2.heap.size w2 wr)
      case atStart => exact ⟨0, by omega, rfl, World.ownsRow_nil _ _ _ _, HBw.out⟩
      case round =>
        obtain ⟨k, hk, rfl, hrow, hB⟩ := hrel
        have k0 : (0 : Int) ≤ k := Int.natCast_nonneg _
        cases gk with
        | zero =>
          obtain rfl : k = 9 := by omega
          obtain ⟨ad3, c3, rfl, -, -⟩ := ownK_row (by rw [List.length_take, LN.out]; omega) hrow
          have L := Bt.ls_of (q := .i64) (by rw [List.length_take, LN.out]; omega) hrow
          rw [List.take_of_length_le (by rw [LN.out]; omega)] at L
          have HN := Lib.hid L
          have HO := Lib.hid (HO.out.later hB); have HR := Lib.hid (HR.out.later hB); have HA := Lib.hid (HA.out.later hB); have HC := Lib.hid (HC.out.later hB)
          have HB := Lib.hid (bel_step HB.out hB)
          clear hrow L hB hk
          go_wp2_with fail
          refine (Bt.refRuns_t _ _ _ own _ HO.out (by have := nO60.out; omega) rO nR RO.out NR.out).mono ?_
          rintro e w6 ⟨ad4, c4, rfl, L, B⟩
          have HB := Lib.hid (bel_step HB.out B)
          have HO := Lib.hid (HO.out.later B)
          have HR := Lib.hid (HR.out.later B)
          have HA := Lib.hid (HA.out.later B)
          have HC := Lib.hid (HC.out.later B)
          have HN := Lib.hid (HN.out.later B)
          have HX := Lib.hid L
          clear B L
          go_wp2_with fail
          refine (Sm.same_self _ _ _ _ _ _ rO _ (by have := HR.out.2; omega) HR.out.1 HX.out.1).mono ?_
          rintro e w7 ⟨rfl, B⟩
          have HB := Lib.hid (bel_step HB.out B)
          have HO := Lib.hid (HO.out.later B)
          have HR := Lib.hid (HR.out.later B)
          have HA := Lib.hid (HA.out.later B)
          have HC := Lib.hid (HC.out.later B)
          have HN := Lib.hid (HN.out.later B)
          clear B
          go_wp2_with fail
          refine (Bt.runs_t _ _ _ la _ HA.out (by omega) rL nL RL.out NL.out).mono ?_
          rintro e w8 ⟨ad5, c5, rfl, L, B⟩
          have HB := Lib.hid (bel_step HB.out B)
          have HO := Lib.hid (HO.out.later B)
          have HR := Lib.hid (HR.out.later B)
          have HA := Lib.hid (HA.out.later B)
          have HC := Lib.hid (HC.out.later B)
          have HN := Lib.hid (HN.out.later B)
          have HX1 := Lib.hid L
          clear B L
          go_wp2_with fail
          refine (Bt.refRuns_t _ _ _ la _ HA.out (by omega) rL nL RL.out NL.out).mono ?_
          rintro e w9 ⟨ad6, c6, rfl, L, B⟩
          have HB := Lib.hid (bel_step HB.out B)
          have HO := Lib.hid (HO.out.later B)
          have HR := Lib.hid (HR.out.later B)
          have HA := Lib.hid (HA.out.later B)
          have HC := Lib.hid (HC.out.later B)
          have HN := Lib.hid (HN.out.later B)
          have HX1 := Lib.hid (HX1.out.later B)
          have HX2 := Lib.hid L
          clear B L
          go_wp2_with fail
          refine (Sm.same_self _ _ _ _ _ _ rL _ (by have := HX1.out.2; omega) HX1.out.1 HX2.out.1).mono ?_
          rintro e wa ⟨rfl, B⟩
          have HB := Lib.hid (bel_step HB.out B)
          have HO := Lib.hid (HO.out.later B)
          have HR := Lib.hid (HR.out.later B)
          have HA := Lib.hid (HA.out.later B)
          have HC := Lib.hid (HC.out.later B)
          have HN := Lib.hid (HN.out.later B)
          clear B
          go_wp2_with fail
          refine (Bt.unrun_t _ _ _ rO _ HR.out (by have := nR61.out; omega) RI.out own nO UO.out LOWN.out).mono ?_
          rintro e wb ⟨ad7, c7, rfl, L, B⟩
          have HB := Lib.hid (bel_step HB.out B)
          have HO := Lib.hid (HO.out.later B)
          have HR := Lib.hid (HR.out.later B)
          have HA := Lib.hid (HA.out.later B)
          have HC := Lib.hid (HC.out.later B)
          have HN := Lib.hid (HN.out.later B)
          have HX3 := Lib.hid L
          clear B L
          go_wp2_with fail
          refine (Sm.same_self _ _ _ _ _ _ own _ (by have := HX3.out.2; omega) HX3.out.1 HO.out.1).mono ?_
          rintro e wc ⟨rfl, B⟩
          have HB := Lib.hid (bel_step HB.out B)
          have HO := Lib.hid (HO.out.later B)
          have HR := Lib.hid (HR.out.later B)
          have HA := Lib.hid (HA.out.later B)
          have HC := Lib.hid (HC.out.later B)
          have HN := Lib.hid (HN.out.later B)
          clear B
          go_wp2_with fail
          refine (Bt.unrun_t _ _ _ near _ HN.out (by omega) NI.out uN nN UN.out NN.out).mono ?_
          rintro e wd ⟨ad8, c8, rfl, L, B⟩
          have HB := Lib.hid (bel_step HB.out B)
          have HO := Lib.hid (HO.out.later B)
          have HR := Lib.hid (HR.out.later B)
          have HA := Lib.hid (HA.out.later B)
          have HC := Lib.hid (HC.out.later B)
          have HN := Lib.hid (HN.out.later B)
          have HX4 := Lib.hid L
          clear B L
          go_wp2_with fail
          refine (Bt.refUnrun_t _ _ _ near _ HN.out (by omega) NI.out uN nN UN.out NN.out).mono ?_
          rintro e we ⟨ad9, c9, rfl, L, B⟩
          have HB := Lib.hid (bel_step HB.out B)
          have HO := Lib.hid (HO.out.later B)
          have HR := Lib.hid (HR.out.later B)
          have HA := Lib.hid (HA.out.later B)
          have HC := Lib.hid (HC.out.later B)
          have HN := Lib.hid (HN.out.later B)
          have HX4 := Lib.hid (HX4.out.later B)
          have HX5 := Lib.hid L
          clear B L
          go_wp2_with fail
          refine (Sm.same_self _ _ _ _ _ _ uN _ (by have := HX4.out.2; omega) HX4.out.1 HX5.out.1).mono ?_
          rintro e wf ⟨rfl, B⟩
          have HB := Lib.hid (bel_step HB.out B)
          have HO := Lib.hid (HO.out.later B)
          have HR := Lib.hid (HR.out.later B)
          have HA := Lib.hid (HA.out.later B)
          have HC := Lib.hid (HC.out.later B)
          have HN := Lib.hid (HN.out.later B)
          clear B
          go_wp2_with fail
          refine (Bt.unrun_t _ _ _ lc _ HC.out (by omega) HCI.out uC nC UC.out NC.out).mono ?_
          rintro e wg ⟨ada, ca, rfl, L, B⟩
          have HB := Lib.hid (bel_step HB.out B)
          have HO := Lib.hid (HO.out.later B)
          have HR := Lib.hid (HR.out.later B)
          have HA := Lib.hid (HA.out.later B)
          have HC := Lib.hid (HC.out.later B)
          have HN := Lib.hid (HN.out.later B)
          have HX6 := Lib.hid L
          clear B L
          go_wp2_with fail
          refine (Bt.refUnrun_t _ _ _ lc _ HC.out (by omega) HCI.out uC nC UC.out NC.out).mono ?_
          rintro e wh ⟨adb, cb, rfl, L, B⟩
          have HB := Lib.hid (bel_step HB.out B)
          have HO := Lib.hid (HO.out.later B)
          have HR := Lib.hid (HR.out.later B)
          have HA := Lib.hid (HA.out.later B)
          have HC := Lib.hid (HC.out.later B)
          have HN := Lib.hid (HN.out.later B)
          have HX6 := Lib.hid (HX6.out.later B)
          have HX7 := Lib.hid L
          clear B L
          go_wp2_with fail
          refine (Sm.same_self _ _ _ _ _ _ uC _ (by have := HX6.out.2; omega) HX6.out.1 HX7.out.1).mono ?_
          rintro e wi ⟨rfl, B⟩
          have HB := Lib.hid (bel_step HB.out B)
          have HO := Lib.hid (HO.out.later B)
          have HR := Lib.hid (HR.out.later B)
          have HA := Lib.hid (HA.out.later B)
          have HC := Lib.hid (HC.out.later B)
          have HN := Lib.hid (HN.out.later B)
          clear B
          go_wp2_with (go_at_call 53; refine (Bt.lives7_any _).mono ?_; rintro e wj ⟨rfl, hbb⟩)
          go_ret
          exact ⟨rfl, bel_step HB.out hbb⟩
        | succ g =>
          have hk9 : (k : Int) < 9 := by omega
          have hkl : (k : Int) < len1 := by omega
          have hW := hB.size
          rcases (HC.out.later hB).1.2 with h0 | ⟨b, o, rfl, hc⟩
          · omega
          have hc := hc k (by omega)
          obtain ⟨x, hx⟩ : ∃ x, lc.getD k 0 = x := ⟨_, rfl⟩
          have hxI := HCI.out x (by rw [← hx]; exact Bt.getD_mem lc k (by rw [LC.out]; omega))
          have hgn := GN.out k (by omega)
          rw [hx] at hc hgn
          obtain ⟨y, hy⟩ : ∃ y, Ar.around x 20 = y := ⟨_, rfl⟩
          have hyb := Ar.around_lt x 20 (by omega)
          rw [hy] at hyb hgn
          obtain ⟨y0, y1⟩ := hyb
          have htk := Bt.take_push near k (by rw [LN.out]; omega)
          rw [hgn] at htk
          have HT := Lib.hid htk; have HYY := Lib.hid hy; have HXI := Lib.hid hxI
          have HRW := Lib.hid hrow
          clear htk hy hxI hgn hx hrow
          go_wp2_with (first
            | (go_at_call 36; refine (aroundOf x 20 HXI.out.1 HXI.out.2 (by omega) (by omega) _).mono ?_; rw [HYY.out]; rintro e w4 ⟨rfl, rfl⟩)
            | (at_builtin; refine wpList_append_own _ rfl _ _ 74 rfl w2.heap.size 3 i0 (.int .i64 0) 1 8 Try.underlying74 hi hz0 hz1 hz2 rfl (by decide) _ k _ rfl (HRW.out.alloc _) ⟨wr.heap.size, 0, none⟩ 1 1 [.int .i64 (y - 2)] rfl rfl (cell_one_new _ _ _) (by simp [Value.oneCell']) (by unfold maxLen; omega) (by omega) (by simp; omega) ?_; intro v' w5 hown' hgrow _; have HO5 := Lib.hid hown'; have hB5 := ((hB.alloc hW _).grown hgrow (by simp; omega) (fun j ej => (HRW.out.lt j ej).1)); clear hown' hgrow))
          go_roundg g
          case measure => omega
          case rel =>
            have := HO5.out
            rw [HT.out] at this
            exact ⟨k + 1, by omega, by go_num, this, hB5⟩
  · have kd : min (len0 : Int) 60 = 60 := by omega
    clear h
    rcases hmm1 with ⟨h, rfl⟩ | ⟨h, rfl⟩
    · have kd1 : min (m1 : Int) 9 = m1 := by omega
      clear h
      go_enter Try.func10, Try.ntmps10
      have HB := Lib.hid (Below.refl w.heap.size w)
      go_wp2_with fail
      refine (Bt.ones_t a0 len0 cap0 60 lw _ HW.out (by omega) own nO HOWN.out LOWN.out).mono ?_
      rintro e w1 ⟨ad1, c1, rfl, L, B⟩
      have HB := Lib.hid (bel_step HB.out B)
      have HA := Lib.hid (HA.out.later B)
      have HC := Lib.hid (HC.out.later B)
      have HO := Lib.hid L
      clear B L
      go_wp2_with fail
      refine (Bt.runs_t _ _ _ own _ HO.out (by have := nO60.out; omega) rO nR RO.out NR.out).mono ?_
      rintro e w2 ⟨ad2, c2, rfl, L, B⟩
      have HB := Lib.hid (bel_step HB.out B)
      have HA := Lib.hid (HA.out.later B)
      have HC := Lib.hid (HC.out.later B)
      have HO := Lib.hid (HO.out.later B)
      have HR := Lib.hid L
      clear B L
      obtain ⟨i0, hi, hz0, hz1, hz2⟩ := info_parts Bt.Try.info_int
      have hw2 := HB.out.size
      have HBw := Lib.hid (Below.refl w2.heap.size w2)
      go_wp2
      go_loopg [8, 9] m1 (fun g s8 s9 wr => ∃ k : Nat, k + g = m1 ∧ s9 = .int .i64 k ∧ wr.ownsRow w2.heap.size 3 1 s8 k ((near.take k).map (Value.int .i64)) ∧ Below w2.heap.size w2 wr)
      case atStart => exact ⟨0, by omega, rfl, World.ownsRow_nil _ _ _ _, HBw.out⟩
      case round =>
        obtain ⟨k, hk, rfl, hrow, hB⟩ := hrel
        have k0 : (0 : Int) ≤ k := Int.natCast_nonneg _
        cases gk with
        | zero =>
          obtain rfl : k = m1 := by omega
          obtain ⟨ad3, c3, rfl, -, -⟩ := ownK_row (by rw [List.length_take, LN.out]; omega) hrow
          have L := Bt.ls_of (q := .i64) (by rw [List.length_take, LN.out]; omega) hrow
          rw [List.take_of_length_le (by rw [LN.out]; omega)] at L
          have HN := Lib.hid L
          have HO := Lib.hid (HO.out.later hB); have HR := Lib.hid (HR.out.later hB); have HA := Lib.hid (HA.out.later hB); have HC := Lib.hid (HC.out.later hB)
          have HB := Lib.hid (bel_step HB.out hB)
          clear hrow L hB hk
          go_wp2_with fail
          refine (Bt.refRuns_t _ _ _ own _ HO.out (by have := nO60.out; omega) rO nR RO.out NR.out).mono ?_
          rintro e w6 ⟨ad4, c4, rfl, L, B⟩
          have HB := Lib.hid (bel_step HB.out B)
          have HO := Lib.hid (HO.out.later B)
          have HR := Lib.hid (HR.out.later B)
          have HA := Lib.hid (HA.out.later B)
          have HC := Lib.hid (HC.out.later B)
          have HN := Lib.hid (HN.out.later B)
          have HX := Lib.hid L
          clear B L
          go_wp2_with fail
          refine (Sm.same_self _ _ _ _ _ _ rO _ (by have := HR.out.2; omega) HR.out.1 HX.out.1).mono ?_
          rintro e w7 ⟨rfl, B⟩
          have HB := Lib.hid (bel_step HB.out B)
          have HO := Lib.hid (HO.out.later B)
          have HR := Lib.hid (HR.out.later B)
          have HA := Lib.hid (HA.out.later B)
          have HC := Lib.hid (HC.out.later B)
          have HN := Lib.hid (HN.out.later B)
          clear B
          go_wp2_with fail
          refine (Bt.runs_t _ _ _ la _ HA.out (by omega) rL nL RL.out NL.out).mono ?_
          rintro e w8 ⟨ad5, c5, rfl, L, B⟩
          have HB := Lib.hid (bel_step HB.out B)
          have HO := Lib.hid (HO.out.later B)
          have HR := Lib.hid (HR.out.later B)
          have HA := Lib.hid (HA.out.later B)
          have HC := Lib.hid (HC.out.later B)
          have HN := Lib.hid (HN.out.later B)
          have HX1 := Lib.hid L
          clear B L
          go_wp2_with fail
          refine (Bt.refRuns_t _ _ _ la _ HA.out (by omega) rL nL RL.out NL.out).mono ?_
          rintro e w9 ⟨ad6, c6, rfl, L, B⟩
          have HB := Lib.hid (bel_step HB.out B)
          have HO := Lib.hid (HO.out.later B)
          have HR := Lib.hid (HR.out.later B)
          have HA := Lib.hid (HA.out.later B)
          have HC := Lib.hid (HC.out.later B)
          have HN := Lib.hid (HN.out.later B)
          have HX1 := Lib.hid (HX1.out.later B)
          have HX2 := Lib.hid L
          clear B L
          go_wp2_with fail
          refine (Sm.same_self _ _ _ _ _ _ rL _ (by have := HX1.out.2; omega) HX1.out.1 HX2.out.1).mono ?_
          rintro e wa ⟨rfl, B⟩
          have HB := Lib.hid (bel_step HB.out B)
          have HO := Lib.hid (HO.out.later B)
          have HR := Lib.hid (HR.out.later B)
          have HA := Lib.hid (HA.out.later B)
          have HC := Lib.hid (HC.out.later B)
          have HN := Lib.hid (HN.out.later B)
          clear B
          go_wp2_with fail
          refine (Bt.unrun_t _ _ _ rO _ HR.out (by have := nR61.out; omega) RI.out own nO UO.out LOWN.out).mono ?_
          rintro e wb ⟨ad7, c7, rfl, L, B⟩
          have HB := Lib.hid (bel_step HB.out B)
          have HO := Lib.hid (HO.out.later B)
          have HR := Lib.hid (HR.out.later B)
          have HA := Lib.hid (HA.out.later B)
          have HC := Lib.hid (HC.out.later B)
          have HN := Lib.hid (HN.out.later B)
          have HX3 := Lib.hid L
          clear B L
          go_wp2_with fail
          refine (Sm.same_self _ _ _ _ _ _ own _ (by have := HX3.out.2; omega) HX3.out.1 HO.out.1).mono ?_
          rintro e wc ⟨rfl, B⟩
          have HB := Lib.hid (bel_step HB.out B)
          have HO := Lib.hid (HO.out.later B)
          have HR := Lib.hid (HR.out.later B)
          have HA := Lib.hid (HA.out.later B)
          have HC := Lib.hid (HC.out.later B)
          have HN := Lib.hid (HN.out.later B)
          clear B
          go_wp2_with fail
          refine (Bt.unrun_t _ _ _ near _ HN.out (by omega) NI.out uN nN UN.out NN.out).mono ?_
          rintro e wd ⟨ad8, c8, rfl, L, B⟩
          have HB := Lib.hid (bel_step HB.out B)
          have HO := Lib.hid (HO.out.later B)
          have HR := Lib.hid (HR.out.later B)
          have HA := Lib.hid (HA.out.later B)
          have HC := Lib.hid (HC.out.later B)
          have HN := Lib.hid (HN.out.later B)
          have HX4 := Lib.hid L
          clear B L
          go_wp2_with fail
          refine (Bt.refUnrun_t _ _ _ near _ HN.out (by omega) NI.out uN nN UN.out NN.out).mono ?_
          rintro e we ⟨ad9, c9, rfl, L, B⟩
          have HB := Lib.hid (bel_step HB.out B)
          have HO := Lib.hid (HO.out.later B)
          have HR := Lib.hid (HR.out.later B)
          have HA := Lib.hid (HA.out.later B)
          have HC := Lib.hid (HC.out.later B)
          have HN := Lib.hid (HN.out.later B)
          have HX4 := Lib.hid (HX4.out.later B)
          have HX5 := Lib.hid L
          clear B L
          go_wp2_with fail
          refine (Sm.same_self _ _ _ _ _ _ uN _ (by have := HX4.out.2; omega) HX4.out.1 HX5.out.1).mono ?_
          rintro e wf ⟨rfl, B⟩
          have HB := Lib.hid (bel_step HB.out B)
          have HO := Lib.hid (HO.out.later B)
          have HR := Lib.hid (HR.out.later B)
          have HA := Lib.hid (HA.out.later B)
          have HC := Lib.hid (HC.out.later B)
          have HN := Lib.hid (HN.out.later B)
          clear B
          go_wp2_with fail
          refine (Bt.unrun_t _ _ _ lc _ HC.out (by omega) HCI.out uC nC UC.out NC.out).mono ?_
          rintro e wg ⟨ada, ca, rfl, L, B⟩
          have HB := Lib.hid (bel_step HB.out B)
          have HO := Lib.hid (HO.out.later B)
          have HR := Lib.hid (HR.out.later B)
          have HA := Lib.hid (HA.out.later B)
          have HC := Lib.hid (HC.out.later B)
          have HN := Lib.hid (HN.out.later B)
          have HX6 := Lib.hid L
          clear B L
          go_wp2_with fail
          refine (Bt.refUnrun_t _ _ _ lc _ HC.out (by omega) HCI.out uC nC UC.out NC.out).mono ?_
          rintro e wh ⟨adb, cb, rfl, L, B⟩
          have HB := Lib.hid (bel_step HB.out B)
          have HO := Lib.hid (HO.out.later B)
          have HR := Lib.hid (HR.out.later B)
          have HA := Lib.hid (HA.out.later B)
          have HC := Lib.hid (HC.out.later B)
          have HN := Lib.hid (HN.out.later B)
          have HX6 := Lib.hid (HX6.out.later B)
          have HX7 := Lib.hid L
          clear B L
          go_wp2_with fail
          refine (Sm.same_self _ _ _ _ _ _ uC _ (by have := HX6.out.2; omega) HX6.out.1 HX7.out.1).mono ?_
          rintro e wi ⟨rfl, B⟩
          have HB := Lib.hid (bel_step HB.out B)
          have HO := Lib.hid (HO.out.later B)
          have HR := Lib.hid (HR.out.later B)
          have HA := Lib.hid (HA.out.later B)
          have HC := Lib.hid (HC.out.later B)
          have HN := Lib.hid (HN.out.later B)
          clear B
          go_wp2_with (go_at_call 53; refine (Bt.lives7_any _).mono ?_; rintro e wj ⟨rfl, hbb⟩)
          go_ret
          exact ⟨rfl, bel_step HB.out hbb⟩
        | succ g =>
          have hk9 : (k : Int) < 9 := by omega
          have hkl : (k : Int) < m1 := by omega
          have hW := hB.size
          rcases (HC.out.later hB).1.2 with h0 | ⟨b, o, rfl, hc⟩
          · omega
          have hc := hc k (by omega)
          obtain ⟨x, hx⟩ : ∃ x, lc.getD k 0 = x := ⟨_, rfl⟩
          have hxI := HCI.out x (by rw [← hx]; exact Bt.getD_mem lc k (by rw [LC.out]; omega))
          have hgn := GN.out k (by omega)
          rw [hx] at hc hgn
          obtain ⟨y, hy⟩ : ∃ y, Ar.around x 20 = y := ⟨_, rfl⟩
          have hyb := Ar.around_lt x 20 (by omega)
          rw [hy] at hyb hgn
          obtain ⟨y0, y1⟩ := hyb
          have htk := Bt.take_push near k (by rw [LN.out]; omega)
          rw [hgn] at htk
          have HT := Lib.hid htk; have HYY := Lib.hid hy; have HXI := Lib.hid hxI
          have HRW := Lib.hid hrow
          clear htk hy hxI hgn hx hrow
          go_wp2_with (first
            | (go_at_call 36; refine (aroundOf x 20 HXI.out.1 HXI.out.2 (by omega) (by omega) _).mono ?_; rw [HYY.out]; rintro e w4 ⟨rfl, rfl⟩)
            | (at_builtin; refine wpList_append_own _ rfl _ _ 74 rfl w2.heap.size 3 i0 (.int .i64 0) 1 8 Try.underlying74 hi hz0 hz1 hz2 rfl (by decide) _ k _ rfl (HRW.out.alloc _) ⟨wr.heap.size, 0, none⟩ 1 1 [.int .i64 (y - 2)] rfl rfl (cell_one_new _ _ _) (by simp [Value.oneCell']) (by unfold maxLen; omega) (by omega) (by simp; omega) ?_; intro v' w5 hown' hgrow _; have HO5 := Lib.hid hown'; have hB5 := ((hB.alloc hW _).grown hgrow (by simp; omega) (fun j ej => (HRW.out.lt j ej).1)); clear hown' hgrow))
          go_roundg g
          case measure => omega
          case rel =>
            have := HO5.out
            rw [HT.out] at this
            exact ⟨k + 1, by omega, by go_num, this, hB5⟩
    · have kd1 : min (len1 : Int) 9 = 9 := by omega
      go_enter Try.func10, Try.ntmps10
      have HB := Lib.hid (Below.refl w.heap.size w)
      go_wp2_with fail
      refine (Bt.ones_t a0 len0 cap0 60 lw _ HW.out (by omega) own nO HOWN.out LOWN.out).mono ?_
      rintro e w1 ⟨ad1, c1, rfl, L, B⟩
      have HB := Lib.hid (bel_step HB.out B)
      have HA := Lib.hid (HA.out.later B)
      have HC := Lib.hid (HC.out.later B)
      have HO := Lib.hid L
      clear B L
      go_wp2_with fail
      refine (Bt.runs_t _ _ _ own _ HO.out (by have := nO60.out; omega) rO nR RO.out NR.out).mono ?_
      rintro e w2 ⟨ad2, c2, rfl, L, B⟩
      have HB := Lib.hid (bel_step HB.out B)
      have HA := Lib.hid (HA.out.later B)
      have HC := Lib.hid (HC.out.later B)
      have HO := Lib.hid (HO.out.later B)
      have HR := Lib.hid L
      clear B L
      obtain ⟨i0, hi, hz0, hz1, hz2⟩ := info_parts Bt.Try.info_int
      have hw2 := HB.out.size
      have HBw := Lib.hid (Below.refl w2.heap.size w2)
      go_wp2
      go_loopg [8, 9] 9 (fun g s8 s9 wr => ∃ k : Nat, k + g = 9 ∧ s9 = .int .i64 k ∧ wr.ownsRow w2.heap.size 3 1 s8 k ((near.take k).map (Value.int .i64)) ∧ Below w2.heap.size w2 wr)
      case atStart => exact ⟨0, by omega, rfl, World.ownsRow_nil _ _ _ _, HBw.out⟩
      case round =>
        obtain ⟨k, hk, rfl, hrow, hB⟩ := hrel
        have k0 : (0 : Int) ≤ k := Int.natCast_nonneg _
        cases gk with
        | zero =>
          obtain rfl : k = 9 := by omega
          obtain ⟨ad3, c3, rfl, -, -⟩ := ownK_row (by rw [List.length_take, LN.out]; omega) hrow
          have L := Bt.ls_of (q := .i64) (by rw [List.length_take, LN.out]; omega) hrow
          rw [List.take_of_length_le (by rw [LN.out]; omega)] at L
          have HN := Lib.hid L
          have HO := Lib.hid (HO.out.later hB); have HR := Lib.hid (HR.out.later hB); have HA := Lib.hid (HA.out.later hB); have HC := Lib.hid (HC.out.later hB)
          have HB := Lib.hid (bel_step HB.out hB)
          clear hrow L hB hk
          go_wp2_with fail
          refine (Bt.refRuns_t _ _ _ own _ HO.out (by have := nO60.out; omega) rO nR RO.out NR.out).mono ?_
          rintro e w6 ⟨ad4, c4, rfl, L, B⟩
          have HB := Lib.hid (bel_step HB.out B)
          have HO := Lib.hid (HO.out.later B)
          have HR := Lib.hid (HR.out.later B)
          have HA := Lib.hid (HA.out.later B)
          have HC := Lib.hid (HC.out.later B)
          have HN := Lib.hid (HN.out.later B)
          have HX := Lib.hid L
          clear B L
          go_wp2_with fail
          refine (Sm.same_self _ _ _ _ _ _ rO _ (by have := HR.out.2; omega) HR.out.1 HX.out.1).mono ?_
          rintro e w7 ⟨rfl, B⟩
          have HB := Lib.hid (bel_step HB.out B)
          have HO := Lib.hid (HO.out.later B)
          have HR := Lib.hid (HR.out.later B)
          have HA := Lib.hid (HA.out.later B)
          have HC := Lib.hid (HC.out.later B)
          have HN := Lib.hid (HN.out.later B)
          clear B
          go_wp2_with fail
          refine (Bt.runs_t _ _ _ la _ HA.out (by omega) rL nL RL.out NL.out).mono ?_
          rintro e w8 ⟨ad5, c5, rfl, L, B⟩
          have HB := Lib.hid (bel_step HB.out B)
          have HO := Lib.hid (HO.out.later B)
          have HR := Lib.hid (HR.out.later B)
          have HA := Lib.hid (HA.out.later B)
          have HC := Lib.hid (HC.out.later B)
          have HN := Lib.hid (HN.out.later B)
          have HX1 := Lib.hid L
          clear B L
          go_wp2_with fail
          refine (Bt.refRuns_t _ _ _ la _ HA.out (by omega) rL nL RL.out NL.out).mono ?_
          rintro e w9 ⟨ad6, c6, rfl, L, B⟩
          have HB := Lib.hid (bel_step HB.out B)
          have HO := Lib.hid (HO.out.later B)
          have HR := Lib.hid (HR.out.later B)
          have HA := Lib.hid (HA.out.later B)
          have HC := Lib.hid (HC.out.later B)
          have HN := Lib.hid (HN.out.later B)
          have HX1 := Lib.hid (HX1.out.later B)
          have HX2 := Lib.hid L
          clear B L
          go_wp2_with fail
          refine (Sm.same_self _ _ _ _ _ _ rL _ (by have := HX1.out.2; omega) HX1.out.1 HX2.out.1).mono ?_
          rintro e wa ⟨rfl, B⟩
          have HB := Lib.hid (bel_step HB.out B)
          have HO := Lib.hid (HO.out.later B)
          have HR := Lib.hid (HR.out.later B)
          have HA := Lib.hid (HA.out.later B)
          have HC := Lib.hid (HC.out.later B)
          have HN := Lib.hid (HN.out.later B)
          clear B
          go_wp2_with fail
          refine (Bt.unrun_t _ _ _ rO _ HR.out (by have := nR61.out; omega) RI.out own nO UO.out LOWN.out).mono ?_
          rintro e wb ⟨ad7, c7, rfl, L, B⟩
          have HB := Lib.hid (bel_step HB.out B)
          have HO := Lib.hid (HO.out.later B)
          have HR := Lib.hid (HR.out.later B)
          have HA := Lib.hid (HA.out.later B)
          have HC := Lib.hid (HC.out.later B)
          have HN := Lib.hid (HN.out.later B)
          have HX3 := Lib.hid L
          clear B L
          go_wp2_with fail
          refine (Sm.same_self _ _ _ _ _ _ own _ (by have := HX3.out.2; omega) HX3.out.1 HO.out.1).mono ?_
          rintro e wc ⟨rfl, B⟩
          have HB := Lib.hid (bel_step HB.out B)
          have HO := Lib.hid (HO.out.later B)
          have HR := Lib.hid (HR.out.later B)
          have HA := Lib.hid (HA.out.later B)
          have HC := Lib.hid (HC.out.later B)
          have HN := Lib.hid (HN.out.later B)
          clear B
          go_wp2_with fail
          refine (Bt.unrun_t _ _ _ near _ HN.out (by omega) NI.out uN nN UN.out NN.out).mono ?_
          rintro e wd ⟨ad8, c8, rfl, L, B⟩
          have HB := Lib.hid (bel_step HB.out B)
          have HO := Lib.hid (HO.out.later B)
          have HR := Lib.hid (HR.out.later B)
          have HA := Lib.hid (HA.out.later B)
          have HC := Lib.hid (HC.out.later B)
          have HN := Lib.hid (HN.out.later B)
          have HX4 := Lib.hid L
          clear B L
          go_wp2_with fail
          refine (Bt.refUnrun_t _ _ _ near _ HN.out (by omega) NI.out uN nN UN.out NN.out).mono ?_
          rintro e we ⟨ad9, c9, rfl, L, B⟩
          have HB := Lib.hid (bel_step HB.out B)
          have HO := Lib.hid (HO.out.later B)
          have HR := Lib.hid (HR.out.later B)
          have HA := Lib.hid (HA.out.later B)
          have HC := Lib.hid (HC.out.later B)
          have HN := Lib.hid (HN.out.later B)
          have HX4 := Lib.hid (HX4.out.later B)
          have HX5 := Lib.hid L
          clear B L
          go_wp2_with fail
          refine (Sm.same_self _ _ _ _ _ _ uN _ (by have := HX4.out.2; omega) HX4.out.1 HX5.out.1).mono ?_
          rintro e wf ⟨rfl, B⟩
          have HB := Lib.hid (bel_step HB.out B)
          have HO := Lib.hid (HO.out.later B)
          have HR := Lib.hid (HR.out.later B)
          have HA := Lib.hid (HA.out.later B)
          have HC := Lib.hid (HC.out.later B)
          have HN := Lib.hid (HN.out.later B)
          clear B
          go_wp2_with fail
          refine (Bt.unrun_t _ _ _ lc _ HC.out (by omega) HCI.out uC nC UC.out NC.out).mono ?_
          rintro e wg ⟨ada, ca, rfl, L, B⟩
          have HB := Lib.hid (bel_step HB.out B)
          have HO := Lib.hid (HO.out.later B)
          have HR := Lib.hid (HR.out.later B)
          have HA := Lib.hid (HA.out.later B)
          have HC := Lib.hid (HC.out.later B)
          have HN := Lib.hid (HN.out.later B)
          have HX6 := Lib.hid L
          clear B L
          go_wp2_with fail
          refine (Bt.refUnrun_t _ _ _ lc _ HC.out (by omega) HCI.out uC nC UC.out NC.out).mono ?_
          rintro e wh ⟨adb, cb, rfl, L, B⟩
          have HB := Lib.hid (bel_step HB.out B)
          have HO := Lib.hid (HO.out.later B)
          have HR := Lib.hid (HR.out.later B)
          have HA := Lib.hid (HA.out.later B)
          have HC := Lib.hid (HC.out.later B)
          have HN := Lib.hid (HN.out.later B)
          have HX6 := Lib.hid (HX6.out.later B)
          have HX7 := Lib.hid L
          clear B L
          go_wp2_with fail
          refine (Sm.same_self _ _ _ _ _ _ uC _ (by have := HX6.out.2; omega) HX6.out.1 HX7.out.1).mono ?_
          rintro e wi ⟨rfl, B⟩
          have HB := Lib.hid (bel_step HB.out B)
          have HO := Lib.hid (HO.out.later B)
          have HR := Lib.hid (HR.out.later B)
          have HA := Lib.hid (HA.out.later B)
          have HC := Lib.hid (HC.out.later B)
          have HN := Lib.hid (HN.out.later B)
          clear B
          go_wp2_with (go_at_call 53; refine (Bt.lives7_any _).mono ?_; rintro e wj ⟨rfl, hbb⟩)
          go_ret
          exact ⟨rfl, bel_step HB.out hbb⟩
        | succ g =>
          have hk9 : (k : Int) < 9 := by omega
          have hkl : (k : Int) < len1 := by omega
          have hW := hB.size
          rcases (HC.out.later hB).1.2 with h0 | ⟨b, o, rfl, hc⟩
          · omega
          have hc := hc k (by omega)
          obtain ⟨x, hx⟩ : ∃ x, lc.getD k 0 = x := ⟨_, rfl⟩
          have hxI := HCI.out x (by rw [← hx]; exact Bt.getD_mem lc k (by rw [LC.out]; omega))
          have hgn := GN.out k (by omega)
          rw [hx] at hc hgn
          obtain ⟨y, hy⟩ : ∃ y, Ar.around x 20 = y := ⟨_, rfl⟩
          have hyb := Ar.around_lt x 20 (by omega)
          rw [hy] at hyb hgn
          obtain ⟨y0, y1⟩ := hyb
          have htk := Bt.take_push near k (by rw [LN.out]; omega)
          rw [hgn] at htk
          have HT := Lib.hid htk; have HYY := Lib.hid hy; have HXI := Lib.hid hxI
          have HRW := Lib.hid hrow
          clear htk hy hxI hgn hx hrow
          go_wp2_with (first
            | (go_at_call 36; refine (aroundOf x 20 HXI.out.1 HXI.out.2 (by omega) (by omega) _).mono ?_; rw [HYY.out]; rintro e w4 ⟨rfl, rfl⟩)
            | (at_builtin; refine wpList_append_own _ rfl _ _ 74 rfl w2.heap.size 3 i0 (.int .i64 0) 1 8 Try.underlying74 hi hz0 hz1 hz2 rfl (by decide) _ k _ rfl (HRW.out.alloc _) ⟨wr.heap.size, 0, none⟩ 1 1 [.int .i64 (y - 2)] rfl rfl (cell_one_new _ _ _) (by simp [Value.oneCell']) (by unfold maxLen; omega) (by omega) (by simp; omega) ?_; intro v' w5 hown' hgrow _; have HO5 := Lib.hid hown'; have hB5 := ((hB.alloc hW _).grown hgrow (by simp; omega) (fun j ej => (HRW.out.lt j ej).1)); clear hown' hgrow))
          go_roundg g
          case measure => omega
          case rel =>
            have := HO5.out
            rw [HT.out] at this
            exact ⟨k + 1, by omega, by go_num, this, hB5⟩
end Go.Proofs.Ytjjpnipcpnkakaa
