/- ImageParses: the image whose bytes these begin with, or the error, is the document's: the walk of the law. No condition. -/
import Derived.Test.YtkjkepnailamnaaGreatZgAJ
import Derived.Test.YtkjkepnailamnaaGreatZImL
import Derived.Test.YtkjkepnailamnaaGreatZImR
import Derived.Test.YtkjkepnailamnaaGreatZgAD
import Derived.Test.YtkjkepnailamnaaGreatZgAH
import Derived.Deep.RegionHeld3
import Derived.Deep.DeepCutAuto
import Derived.BigQuiet
namespace Go.Proofs.YtkjkepnailamnaaGreat
open Go.RowKit
set_option linter.unusedVariables false
set_option maxRecDepth 100000 in
set_option maxHeartbeats 8000000 in
theorem imageParses_walk (a0 : Option Addr) (len0 cap0 : Nat) (z0 : List Int) (a1w0 a1h1 a1m2 : Int) (a2t0 : Bool) (a2m1 : Int) (a2w2 : Int) (a2h3 : Int) (a2 : Option Addr) (len2 cap2 : Nat) (z2 : List Int) (a3 : Int) (a4 : Int) (a5 : Int) (w : World) (w0 : IsRow .u8 w a0 len0 cap0 z0) (w10 : (Lit.int .i64 a1w0).wf = true) (w11 : (Lit.int .i64 a1h1).wf = true) (w12 : (Lit.int .i64 a1m2).wf = true) (w21 : (Lit.int .i64 a2m1).wf = true) (w22 : (Lit.int .i64 a2w2).wf = true) (w23 : (Lit.int .i64 a2h3).wf = true) (w24 : IsRow .i64 w a2 len2 cap2 z2) (w3 : (Lit.int .i64 a3).wf = true) (w4 : (Lit.int .i64 a4).wf = true) (w5 : (Lit.int .u8 a5).wf = true) :
    Calls Tryz.prog 3 #[.slice a0 len0 cap0, .agg #[.int .i64 a1w0, .int .i64 a1h1, .int .i64 a1m2], .agg #[.bool a2t0, .int .i64 a2m1, .int .i64 a2w2, .int .i64 a2h3, .slice a2 len2 cap2], .int .i64 a3, .int .i64 a4, .int .u8 a5] w fun e w' => e = .returned (.bool true) ∧ Below w.heap.size w w' := by
  obtain ⟨l1, l2, l3, l4⟩ := isrow_len w0
  obtain ⟨m1, m2, m3, m4⟩ := isrow_len w24
  have S1 := isrow_takeK w24 len2 (Nat.le_refl _)
  have J1 : ∀ x ∈ z2.take len2, Nu.I x := fun x hx => wfI (isrow_wfK w24 x (List.mem_of_mem_take hx))
  have i21 := wfI w21; have i22 := wfI w22; have i23 := wfI w23; have i3 := wfI w3; have i4 := wfI w4; have i5 := wfB w5
  have SB : Bt.Bs w a0 (min len0 100) cap0 (z0.take (min len0 100)) := ⟨isrow_takeK w0 _ (by omega), by omega, l4, fun z hz => wfB (isrow_wfK w0 z (List.mem_of_mem_take hz))⟩
  obtain ⟨C0, hC0⟩ : ∃ x, Im.chanV a2t0 = x := ⟨_, rfl⟩
  obtain ⟨D0, hD0⟩ : ∃ x, Im.formM a2m1 = x := ⟨_, rfl⟩
  have gw0 := goodW_in a2w2 5 (by omega)
  have gh0 := goodW_in a2h3 5 (by omega)
  obtain ⟨GW0, hGW0⟩ : ∃ x, goodW a2w2 5 = x := ⟨_, rfl⟩
  obtain ⟨GH0, hGH0⟩ : ∃ x, goodW a2h3 5 = x := ⟨_, rfl⟩
  have HG0 : Hid (∀ W', Below w.heap.size w W' → Calls Tryz.prog 12 #[.agg #[.bool a2t0, .int .i64 a2m1, .int .i64 a2w2, .int .i64 a2h3, .slice a2 len2 cap2], .int .i64 5] W' (ImGoodR C0 D0 GW0 GH0 W')) := Lib.hid fun W' hb => by
    have := refImGood_any a2t0 a2m1 a2w2 a2h3 5 a2 len2 cap2 (z2.take len2) i21 i22 i23 (by omega) (by omega) (by omega) W' (S1.below hb) J1
    rw [hC0, hD0, hGW0, hGH0] at this
    exact this
  unfold ImGoodR agI at HG0
  rw [hGW0] at gw0
  rw [hGH0] at gh0
  have HCC : Hid (C0 = 1 ∨ C0 = 3) := Lib.hid (by rw [← hC0]; unfold Im.chanV; cases a2t0 <;> simp)
  have HDD := Lib.hid (show 1 ≤ D0 ∧ D0 ≤ 65535 by rw [← hD0]; exact Im.form_at a2m1)
  have hB0 := box2 w (.cells #[.int .i64 a1w0, .int .i64 a1h1, .int .i64 a1m2] 24) (.cells #[.bool a2t0, .int .i64 a2m1, .int .i64 a2w2, .int .i64 a2h3, .slice a2 len2 cap2] 27)
  obtain ⟨W2, hW2⟩ : ∃ W2, (w.alloc (.cells #[.int .i64 a1w0, .int .i64 a1h1, .int .i64 a1m2] 24)).alloc (.cells #[.bool a2t0, .int .i64 a2m1, .int .i64 a2w2, .int .i64 a2h3, .slice a2 len2 cap2] 27) = W2 := ⟨_, rfl⟩
  have sL : Sb W2 w.heap.size 24 (.int .i64 a1w0) (.int .i64 a1h1) (.int .i64 a1m2) := by rw [← hW2]; exact (Sb.new w _ _ _ _).later (box1 _ _)
  have fA : Fv W2 (w.heap.size + 1) 27 (.bool a2t0) (.int .i64 a2m1) (.int .i64 a2w2) (.int .i64 a2h3) (.slice a2 len2 cap2) := by
    rw [← hW2]
    have := Fv.new (w.alloc (.cells #[.int .i64 a1w0, .int .i64 a1h1, .int .i64 a1m2] 24)) 27 (.bool a2t0) (.int .i64 a2m1) (.int .i64 a2w2) (.int .i64 a2h3) (.slice a2 len2 cap2)
    rwa [show (w.alloc (.cells #[.int .i64 a1w0, .int .i64 a1h1, .int .i64 a1m2] 24)).heap.size = w.heap.size + 1 by simp] at this
  rw [hW2] at hB0
  have HB := Lib.hid hB0
  have SL := Lib.hid sL
  have HSB := Lib.hid SB
  have HI3 := Lib.hid i3; have HI4 := Lib.hid i4; have HI5 := Lib.hid i5
  obtain ⟨x0, x1, x2, x3, x4⟩ := fA.cells
  clear S1 J1 i21 i22 i23 i3 i4 i5 hB0 fA sL SB w0 w10 w11 w12 w21 w22 w23 w24 w3 w4 w5 hC0 hD0 hGW0 hGH0
  go_enter Tryz.func3, Tryz.ntmps3
  go_upto_region 1 with fail
  try rw [hW2]
  clear hW2
  go_wp2_with fail
  refine (HG0.out _ HB.out).mono ?_
  rintro e w3 ⟨ad0, cp0, gs0, rfl, hgl0, hgp0, ho0, hc0, hd0, hb⟩
  have HU := Lib.hid (Im.good_U hgp0)
  have HGL := Lib.hid hgl0
  obtain ⟨n0, hn0⟩ : ∃ k, gs0.length = k := ⟨_, rfl⟩
  have HN0 := Lib.hid hn0
  have HV := Lib.hid (show SlK .u64 w3 ad0 n0 gs0 by have := ho0.sl; rwa [hn0] at this)
  have HC := Lib.hid hc0
  have HD := Lib.hid hd0
  rw [hn0]
  clear x0 x1 x2 x3 x4
  replace SL := Lib.hid (SL.out.later hb)
  replace HB := Lib.hid (HB.out.trans (hb.mono HB.out.size))
  go_upto_region 2 with fail
  have X := Ib.new w3 34 C0 D0 GW0 GH0 (.slice ad0 n0 cp0)
  have hb4 := box1 w3 (.cells #[.int .i64 C0, .int .i64 D0, .int .i64 GW0, .int .i64 GH0, .slice ad0 n0 cp0] 34)
  obtain ⟨W4, hW4⟩ : ∃ W4, w3.alloc (.cells #[.int .i64 C0, .int .i64 D0, .int .i64 GW0, .int .i64 GH0, .slice ad0 n0 cp0] 34) = W4 := ⟨_, rfl⟩
  rw [hW4] at X hb4
  try rw [hW4]
  obtain ⟨mb, hmb⟩ : ∃ mb, w3.heap.size = mb := ⟨_, rfl⟩
  rw [hmb] at X
  try rw [hmb]
  replace SL := Lib.hid (SL.out.later hb4)
  replace HV := Lib.hid (HV.out.below hb4)
  replace HB := Lib.hid (HB.out.trans (hb4.mono HB.out.size))
  have HX := Lib.hid X
  clear hW4 hb4 X hb hmb hgp0 hgl0 ho0 hc0 hd0 HG0 hn0
  obtain ⟨x0, x1, x2, x3, x4⟩ := HX.out.cells
  have HKI : Hid (∀ W, ∃ nk kl, 1 ≤ nk ∧ nk ≤ 6 ∧ Calls Tryz.prog 13 #[.agg #[.int .i64 C0, .int .i64 D0]] W fun e w' => ∃ (a : Option Addr) (cap : Nat), e = .returned (.slice a nk cap) ∧ SlK .i64 w' a nk kl ∧ Below W.heap.size W w') := Lib.hid fun W => by
    have h1 := HCC.out
    have h2 := HDD.out
    exact ⟨(Im.kindsV C0 D0).length, Im.kindsV C0 D0, Im.kinds_pos h1 h2.1 h2.2, Im.kinds_len _ 6, (refKinds_any C0 D0 (by unfold Nu.I; omega) (by unfold Nu.I; omega) W).mono fun e w' h => ik_sl rfl rfl h⟩
  go_wp2_with fail
  obtain ⟨nk, kl, hk1, hk6, HK⟩ := HKI.out _
  refine HK.mono ?_
  rintro e w5 ⟨ka, kc, rfl, hks, hb⟩
  clear x0 x1 x2 x3 x4 HKI HK
  replace SL := Lib.hid (SL.out.later hb)
  replace HV := Lib.hid (HV.out.below hb)
  replace HX := Lib.hid (HX.out.later hb)
  replace HB := Lib.hid (HB.out.trans (hb.mono HB.out.size))
  clear hb
  obtain ⟨x0, x1, x2, x3, x4⟩ := HX.out.cells
  obtain ⟨kb, ko, rfl, hkc⟩ := slk_pos hks (by omega)
  have hj := Ar.around_lt a3 (nk : Int) (by omega)
  have HAR : Hid (∀ W, Calls Tryz.prog 15 #[.int .i64 a3, .int .i64 (nk : Int)] W fun e w' => e = .returned (.int .i64 (Ar.around a3 nk)) ∧ W = w') := Lib.hid fun W => aroundOf a3 nk HI3.out.1 HI3.out.2 (by omega) (by omega) W
  obtain ⟨q, hq⟩ : ∃ q : Nat, Ar.around a3 (nk : Int) = (q : Int) := ⟨(Ar.around a3 nk).toNat, by omega⟩
  rw [hq] at HAR hj
  have hqk : q < nk := by omega
  have hqc := hkc q hqk
  obtain ⟨kd, hkd⟩ : ∃ kd, kl.getD q 0 = kd := ⟨_, rfl⟩
  rw [hkd] at hqc
  have hq0 : (0 : Int) ≤ (q : Int) := Int.natCast_nonneg _
  have hq1 : (q : Int) < (nk : Int) := by omega
  obtain ⟨gw, hgw⟩ : ∃ gw : Nat, GW0 = (gw : Int) := ⟨GW0.toNat, by omega⟩
  obtain ⟨gh, hgh⟩ : ∃ gh : Nat, GH0 = (gh : Int) := ⟨GH0.toNat, by omega⟩
  have HWR : Hid (∀ W, SlK .u64 W ad0 n0 gs0 → Calls Tryz.prog 14 #[agI C0 D0 GW0 GH0 (.slice ad0 n0 cp0), .int .i64 kd] W (ImWrR (Im.writeV C0 D0 kd gw gh n0 gs0) W)) := Lib.hid fun W hs => by
    have h1 := HCC.out
    have h2 := HDD.out
    have h3 : n0 = gw * gh := by rw [← HN0.out, HGL.out, hgw, hgh]; simp
    have h4 : gw * gh ≤ 5 * 5 := Nat.mul_le_mul (by omega) (by omega)
    have := refImWrite_any C0 D0 kd gw gh (by unfold Nu.I; omega) (by unfold Nu.I; omega) ad0 n0 cp0 gs0 (by omega) h3 HU.out W hs
    rw [← hgw, ← hgh] at this
    exact this
  have hwl := Im.write_len C0 D0 kd gw gh n0 gs0 HU.out (by omega) (by omega) (by rw [HGL.out, hgw, hgh]; simp)
  obtain ⟨t, ht⟩ : ∃ t, Im.writeV C0 D0 kd gw gh n0 gs0 = t := ⟨_, rfl⟩
  rw [ht] at HWR hwl
  obtain ⟨bs, er⟩ := t
  unfold ImWrR agI at HWR
  simp only at HWR hwl
  have HWL := Lib.hid hwl
  clear hq hkd hkc hks hgw hgh hj ht hwl
  have hBt := Below.refl w5.heap.size w5
  go_upto_region 3 with fail
  go_region_held3 (fun w' => w'.cell? ⟨mb, 0, none⟩ = some (.int .i64 C0) ∧ w'.cell? ⟨mb, 1, none⟩ = some (.int .i64 D0) ∧ w'.cell? ⟨mb, 2, none⟩ = some (.int .i64 GW0) ∧ w'.cell? ⟨mb, 3, none⟩ = some (.int .i64 GH0) ∧ w'.cell? ⟨mb, 4, none⟩ = some (.slice ad0 n0 cp0) ∧ w'.cell? ⟨kb, ko + q, none⟩ = some (.int .i64 kd))
    (first | exact ⟨x0, x1, x2, x3, x4, hqc⟩ | (refine Im.imp ?_ (fun hG => ⟨cell_later hG x0, cell_later hG x1, cell_later hG x2, cell_later hG x3, cell_later hG x4, cell_later hG hqc⟩); repeat' (first | (with_reducible first | exact hBt | refine Below.alloc ?_ ?_ _ | refine Below.drew ?_ | refine below_drewN ?_ _ | refine Below.setCell ?_ ?_ _) | exact hBt.size | (have := hBt.size; first | omega | (simp; done) | (simp; omega)))))
    (first
      | (go_at_call 15; (with_reducible refine (HAR.out _).mono ?_); rintro e w9 ⟨rfl, rfl⟩)
      | (go_at_call 14; refine (HWR.out _ (HV.out.below (by repeat' (first | (with_reducible first | exact hBt | refine Below.alloc ?_ ?_ _ | refine Below.drew ?_ | refine below_drewN ?_ _ | refine Below.setCell ?_ ?_ _) | exact hBt.size | (have := hBt.size; first | omega | (simp; done) | (simp; omega)))))).mono ?_; rintro e w6 ⟨oa, oc, rfl, hos, hb9⟩; replace hBt := bel_step (w := w5) (by repeat' (first | (with_reducible first | exact hBt | refine Below.alloc ?_ ?_ _ | refine Below.drew ?_ | refine below_drewN ?_ _ | refine Below.setCell ?_ ?_ _) | exact hBt.size | (have := hBt.size; first | omega | (simp; done) | (simp; omega)))) hb9; have hsz9 := hBt.size))
  have HOS := Lib.hid hos
  replace SL := Lib.hid (SL.out.later hBt)
  replace HV := Lib.hid (HV.out.below hBt)
  replace HX := Lib.hid (HX.out.later hBt)
  replace HB := Lib.hid (HB.out.trans (hBt.mono HB.out.size))
  clear hos hBt x0 x1 x2 x3 x4 hqc hq0 hq1 HAR HWR hqk
  obtain ⟨i0, hi, hz0, hz1, hz2⟩ := info_parts Bt.Tryz.info_byt
  obtain ⟨nb, hnb⟩ : ∃ nb, bs.length = nb := ⟨_, rfl⟩
  rw [hnb] at HOS HWL ⊢
  have HNB := Lib.hid hnb
  clear hnb
  by_cases hb0 : nb = 0
  · subst hb0
    go_wp2_with (go_at_call 16; refine (lives10_any _).mono ?_; rintro e w9 ⟨rfl, hb9⟩; have HBt := Lib.hid hb9; clear hb9)
    go_ret
    exact ⟨rfl, HB.out.trans (HBt.out.mono HB.out.size)⟩
  · have hb1 : ((nb : Int) == 0) = false := by simpa using hb0
    have hnb9 := HWL.out
    have hj := Ar.around_lt a4 (nb : Int) (by omega)
    have HAR : Hid (∀ W, Calls Tryz.prog 15 #[.int .i64 a4, .int .i64 (nb : Int)] W fun e w' => e = .returned (.int .i64 (Ar.around a4 nb)) ∧ W = w') := Lib.hid fun W => aroundOf a4 nb HI4.out.1 HI4.out.2 (by omega) (by omega) W
    obtain ⟨kk, hkk⟩ : ∃ q : Nat, Ar.around a4 (nb : Int) = (q : Int) := ⟨(Ar.around a4 nb).toNat, by omega⟩
    rw [hkk] at HAR hj
    have hkn : kk < nb := by omega
    have hkn0 : (0 : Int) ≤ (kk : Int) := Int.natCast_nonneg _
    have hkn1 : (kk : Int) < (nb : Int) := by omega
    clear hkk hj
    go_wp2_with (first
      | (at_builtin; refine wpList_app rfl _ _ 22 rfl w6.heap.size 5 i0 .u8 1 Tryz.underlying22 hi hz0 hz1 hz2 (.slice none 0 0) 0 [] rfl (World.ownsRow_nil _ _ _ _) oa nb oc bs rfl HOS.out.1 (by unfold maxLen; omega) (by omega) (Nat.le_refl _) ?_; intro v2 w7 hown2 hgrow2 _; have HB5 : Hid (Below w6.heap.size w6 w7) := Lib.hid ((Below.refl _ _).grown hgrow2 (Nat.le_refl _) (fun j ej => by cases ej)); obtain ⟨g, gcap, rfl, hg1, hg2, hgb, hg3, hg4⟩ := Im.own_bytes (l := bs) (n := nb) (v := v2) (by simpa using hown2) HNB.out (by omega) HOS.out.2.2.2; have HGB := Lib.hid hgb; have hkc := hg3 kk hkn; have hkf := hg4 kk; clear hown2 hgrow2 hgb)
      | (go_at_call 15; (with_reducible refine (HAR.out _).mono ?_); rintro e w9 ⟨rfl, rfl⟩))
    have hb8 : Below w6.heap.size w6 (w7.setCell ⟨g, kk, none⟩ (.int .u8 a5)) := HB5.out.setCell (p := ⟨g, kk, none⟩) hg1 _
    have HGB8 := Lib.hid (Im.set_bs HGB.out hkn HI5.out)
    obtain ⟨W8, hW8⟩ : ∃ W8, w7.setCell ⟨g, kk, none⟩ (.int .u8 a5) = W8 := ⟨_, rfl⟩
    rw [hW8] at hb8 HGB8
    try rw [hW8]
    replace SL := Lib.hid (SL.out.later hb8)
    replace HOS := Lib.hid (HOS.out.below hb8)
    replace HB := Lib.hid (HB.out.trans (hb8.mono HB.out.size))
    have HG9 := Lib.hid (show g < W8.heap.size by rw [← hW8]; simpa using hg2)
    clear hW8 hb8 HGB HB5 hg1 hg2 hg3 hg4 hkc hkf HX HV HAR
    obtain ⟨p, hp⟩ : ∃ p, min len0 100 = p := ⟨_, rfl⟩
    have hkoc : kk ≤ oc := by have := HOS.out.2.1; omega
    have hkoc1 : (kk : Int) ≤ (oc : Int) := by omega
    have hpc : p ≤ cap0 := by omega
    have hpc1 : (p : Int) ≤ (cap0 : Int) := by omega
    have hp0 : (0 : Int) ≤ (p : Int) := Int.natCast_nonneg _
    rw [hp] at HSB
    have HB8 := Lib.hid (Below.refl W8.heap.size W8)
    go_cut [19] (fun s19 wx => ∃ al, s19 = .slice (some ⟨al, 0, none⟩) 4 4 ∧ wx.heap[al]? = some (.cells #[.slice a0 p cap0, .slice oa nb oc, .slice (some ⟨g, 0, none⟩) nb gcap, .slice oa kk oc] 22 (0, 0)) ∧ Below W8.heap.size W8 wx)
    case first =>
      by_cases h100 : len0 ≤ 100
      · have hpe : p = len0 := by omega
        subst hpe
        have d1 : decide ((100 : Int) < (p : Int)) = false := decide_eq_false (by omega)
        have d2 : decide ((p : Int) ≤ (100 : Int)) = true := decide_eq_true (by omega)
        have d3 : (p : Int) ≤ 100 := by omega
        have d4 : ¬ (100 : Int) < (p : Int) := by omega
        have d5 : ¬ 100 < p := by omega
        have d6 : min (p : Int) 100 = (p : Int) := by omega
        clear hp
        go_region
        all_goals
          go_wp2_with fail
          go_meet
          case rel => exact ⟨_, rfl, Im.al_drew, ((Below.refl _ _).alloc (Nat.le_refl _) _).drew⟩
      · have hpe : p = 100 := by omega
        subst hpe
        have d1 : decide ((100 : Int) < (len0 : Int)) = true := decide_eq_true (by omega)
        have d2 : decide ((len0 : Int) ≤ (100 : Int)) = false := decide_eq_false (by omega)
        have d3 : ¬ (len0 : Int) ≤ 100 := by omega
        have d4 : (100 : Int) < (len0 : Int) := by omega
        have d5 : 100 < len0 := by omega
        have d6 : min (len0 : Int) 100 = 100 := by omega
        clear hp
        go_region
        all_goals
          go_wp2_with fail
          go_meet
          case rel => exact ⟨_, rfl, Im.al_drew, ((Below.refl _ _).alloc (Nat.le_refl _) _).drew⟩
    case rest =>
      obtain ⟨al, rfl, hal, hbc⟩ := hcut
      have HAL := Lib.hid hal
      replace SL := Lib.hid (SL.out.later hbc)
      replace HOS := Lib.hid (HOS.out.below hbc)
      replace HGB8 := Lib.hid (HGB8.out.below hbc)
      replace HB := Lib.hid (HB.out.trans (hbc.mono HB.out.size))
      have HS0 := Lib.hid (HSB.out.below HB.out)
      have HOC := Lib.hid (rws_cut HOS.out (Nat.le_of_lt hkn))
      have HP9 : Hid (p ≤ 100000) := Lib.hid (by omega)
      have HNB9 : Hid (nb ≤ 100000) := Lib.hid hnb9
      have HKN := Lib.hid hkn
      clear hal hbc hp hkoc hkoc1 hpc hpc1 hp0 HSB HG9 HB8 hb1 hkn hkn0 hkn1 hnb9 l1 l2 l3 l4 m1 m2 m3 m4 hb0 gw0 gh0 hk1 hk6
      go_wp2_with fail
      go_loopg [20] 4 (fun g s20 wr => ∃ k : Nat, k + g = 4 ∧ s20 = .int .i64 k ∧ Below wc.heap.size wc wr)
      case atStart => exact ⟨0, rfl, rfl, Below.refl _ _⟩
      case round =>
        obtain ⟨k, hk, rfl, hBr⟩ := hrel
        cases gk with
        | zero =>
          obtain rfl : k = 4 := by omega
          go_wp2_with (go_at_call 16; refine (lives10_any _).mono ?_; rintro e w9 ⟨rfl, hb9⟩; have HBt := Lib.hid (bel_step hBr hb9); clear hb9)
          go_ret
          exact ⟨rfl, HB.out.trans (HBt.out.mono HB.out.size)⟩
        | succ gg =>
          obtain ⟨ba, bn, bc, bl, hbcell, hbbs, hbn⟩ : ∃ ba bn bc bl, wr.cell? ⟨al, k, none⟩ = some (.slice ba bn bc) ∧ Bt.Bs wc ba bn bc bl ∧ bn ≤ 100000 := by
            have h8 := (hBr.block _ (Array.getElem?_eq_some_iff.1 HAL.out).1).trans HAL.out
            have : k = 0 ∨ k = 1 ∨ k = 2 ∨ k = 3 := by omega
            rcases this with rfl | rfl | rfl | rfl
            · exact ⟨a0, p, cap0, z0.take p, by simp [World.cell?, h8], HS0.out, HP9.out⟩
            · exact ⟨oa, nb, oc, bs, by simp [World.cell?, h8], HOS.out, HNB9.out⟩
            · exact ⟨some ⟨g, 0, none⟩, nb, gcap, bs.set kk a5, by simp [World.cell?, h8], HGB8.out, HNB9.out⟩
            · exact ⟨oa, kk, oc, bs.take kk, by simp [World.cell?, h8], HOC.out, by have := HKN.out; have := HNB9.out; omega⟩
          have i0' : (0 : Int) ≤ (k : Int) := Int.natCast_nonneg _
          have i1' : (k : Int) < 4 := by omega
          have HBB := Lib.hid (hbbs.below hBr)
          have HBC := Lib.hid hbcell
          have HBN := Lib.hid hbn
          have HSL := Lib.hid (SL.out.later hBr)
          clear hbbs hbcell hbn
          go_wp2_with fail
          refine (hall_any _).mono ?_
          rintro e w9 ⟨rfl, hb9⟩
          have HBr := Lib.hid (bel_step (w := wc) hBr hb9)
          replace HBB := Lib.hid (HBB.out.below hb9)
          replace HBC := Lib.hid (cell_later hb9 HBC.out)
          replace HSL := Lib.hid (HSL.out.later hb9)
          clear hBr hb9
          go_upto_region 15 with fail
          have hbl := box1 w9 (.cells #[.int .i64 4096, .int .i64 65536, .int .i64 65535] 24)
          have LM0 := Sb.new w9 24 (.int .i64 4096) (.int .i64 65536) (.int .i64 65535)
          obtain ⟨W10, hW10⟩ : ∃ W10, w9.alloc (.cells #[.int .i64 4096, .int .i64 65536, .int .i64 65535] 24) = W10 := ⟨_, rfl⟩
          rw [hW10] at hbl LM0
          try rw [hW10]
          obtain ⟨lb, hlb⟩ : ∃ lb, w9.heap.size = lb := ⟨_, rfl⟩
          have hlb2 : w9.heap.size ≤ lb := by omega
          rw [hlb] at LM0
          try rw [hlb]
          replace HSL := Lib.hid (HSL.out.later hbl)
          have HLM := Lib.hid LM0
          clear hW10 LM0 hlb
          by_cases hk0 : k = 0
          · have hk1' : ((k : Int) == 0) = true := by rw [hk0]; rfl
            clear hk0
            obtain ⟨u0, u1, u2⟩ := HSL.out.cells
            obtain ⟨v0, v1, v2⟩ := HLM.out.fr
            obtain ⟨v3, v4, v5⟩ := HLM.out.cells
            go_upto_region 17 with fail
            have LM := HLM.out.put (.int .i64 a1w0) (.int .i64 a1h1) (.int .i64 a1m2)
            have hb11 := ((hbl.setCell (p := ⟨lb, 0, none⟩) hlb2 (.int .i64 a1w0)).setCell (p := ⟨lb, 1, none⟩) hlb2 (.int .i64 a1h1)).setCell (p := ⟨lb, 2, none⟩) hlb2 (.int .i64 a1m2)
            obtain ⟨W11, hW11⟩ : ∃ W11, ((W10.setCell ⟨lb, 0, none⟩ (.int .i64 a1w0)).setCell ⟨lb, 1, none⟩ (.int .i64 a1h1)).setCell ⟨lb, 2, none⟩ (.int .i64 a1m2) = W11 := ⟨_, rfl⟩
            rw [hW11] at LM hb11
            try rw [hW11]
            clear hW11 u0 u1 u2 v0 v1 v2 v3 v4 v5
            replace HBr := Lib.hid (bel_step HBr.out hb11)
            replace HBB := Lib.hid (HBB.out.below hb11)
            have b0 := cell_later hb11 HBC.out
            obtain ⟨T, hT⟩ : ∃ T, Im.parseV (Hd.limits (a1w0) (a1h1) (a1m2)) bl = T := ⟨_, rfl⟩
            have HP1 : Hid (∀ W, Bt.Bs W ba bn bc bl → Calls Tryz.prog 18 #[.slice ba bn bc, .agg #[.int .i64 (a1w0), .int .i64 (a1h1), .int .i64 (a1m2)]] W (ImParR T W)) := Lib.hid fun W h => by have := imParse_any ba bn bc bl HBN.out (a1w0) (a1h1) (a1m2) W h; rwa [hT] at this
            have HP2 : Hid (∀ W, Bt.Bs W ba bn bc bl → Calls Tryz.prog 19 #[.slice ba bn bc, .agg #[.int .i64 (a1w0), .int .i64 (a1h1), .int .i64 (a1m2)]] W (ImParR T W)) := Lib.hid fun W h => by have := refImParse_any ba bn bc bl HBN.out (a1w0) (a1h1) (a1m2) W h; rwa [hT] at this
            have hTl : T.l.length ≤ 9223372036854775807 := by
              have h1 := Im.parse_len (Hd.limits (a1w0) (a1h1) (a1m2)) bl HBB.out.2.2.2
              have h2 := HBN.out
              have h3 := HBB.out.1.1
              rw [hT] at h1
              omega
            obtain ⟨tc, tm, tw, th, tl, tu, te⟩ := T
            unfold ImParR agI at HP1 HP2
            simp only at HP1 HP2 hTl
            obtain ⟨nl, hnl⟩ : ∃ nl, tl.length = nl := ⟨_, rfl⟩
            rw [hnl] at HP1 HP2 hTl
            have HTL := Lib.hid hTl
            obtain ⟨t0, t1, t2⟩ := LM.cells
            have HLM2 := Lib.hid LM
            clear hT LM hb11 hnl hTl HLM hbl hlb2
            have hBt := Below.refl W11.heap.size W11
            have hal9 : W11.heap.size ≠ al := by have := World.block_lt_of_cell? W11 _ b0; simp at this; omega
            have hlb9 : W11.heap.size ≠ lb := by have := HLM2.out.lt; omega
            go_upto_region 17 with fail
            go_cut [22, 23, 24] from 71 to 113 (fun s22 s23 s24 wx => ∃ pbk pa pc, s22 = .pointer (some ⟨pbk, 0, none⟩) ∧ s23 = .int .i64 tu ∧ s24 = .int .i64 te ∧ Ib wx pbk 46 tc tm tw th (.slice pa nl pc) ∧ SlK .u64 wx pa nl tl ∧ Below W11.heap.size W11 wx)
            case first =>
              go_region_held3 (fun w' => w'.cell? ⟨al, k, none⟩ = some (.slice ba bn bc) ∧ w'.cell? ⟨lb, 0, none⟩ = some (.int .i64 (a1w0)) ∧ w'.cell? ⟨lb, 1, none⟩ = some (.int .i64 (a1h1)) ∧ w'.cell? ⟨lb, 2, none⟩ = some (.int .i64 (a1m2)))
                (first | (with_reducible exact ⟨b0, t0, t1, t2⟩) | (with_reducible exact ⟨im5_other hal9 c0, im5_other hlb9 c1, im5_other hlb9 c2, im5_other hlb9 c3⟩) | (refine Im.imp ?_ (fun hG => ⟨cell_later hG b0, cell_later hG t0, cell_later hG t1, cell_later hG t2⟩); repeat' (first | (with_reducible first | exact hBt | refine Below.alloc ?_ ?_ _ | refine Below.drew ?_ | refine below_drewN ?_ _ | refine Below.setCell ?_ ?_ _) | exact hBt.size | (have := hBt.size; first | omega | (simp; done) | (simp; omega)))))
                (first
                  | (go_at_call 18; refine (HP1.out _ (HBB.out.below (by repeat' (first | (with_reducible first | exact hBt | refine Below.alloc ?_ ?_ _ | refine Below.drew ?_ | refine below_drewN ?_ _ | refine Below.setCell ?_ ?_ _) | exact hBt.size | (have := hBt.size; first | omega | (simp; done) | (simp; omega)))))).mono ?_; rintro e w8 ⟨pa, pc, rfl, hps, hb9⟩; (try replace hNB := hNB.later hb9); (try (with_reducible (first | have hNB := Ib.later (Ib.new _ _ _ _ _ _ _) hb9 | have hNB := Ib.later (Ib.new_drew _ _ _ _ _ _ _) hb9))); replace hBt := bel_step (w := W11) (by repeat' (first | (with_reducible first | exact hBt | refine Below.alloc ?_ ?_ _ | refine Below.drew ?_ | refine below_drewN ?_ _ | refine Below.setCell ?_ ?_ _) | exact hBt.size | (have := hBt.size; first | omega | (simp; done) | (simp; omega)))) hb9; have hsz9 := hBt.size; have c0 := cell_later hBt b0; have c1 := cell_later hBt t0; have c2 := cell_later hBt t1; have c3 := cell_later hBt t2; (try obtain ⟨z0, z1, z2, z3, z4⟩ := hNB.cells); (try obtain ⟨y0, y1, y2, y3, y4⟩ := hNB.fr)))
              all_goals
                go_wp2_with fail
                go_meet
                case rel =>
                  refine ⟨_, pa, pc, rfl, rfl, rfl, ?_, ?_, ?_⟩
                  · first | exact hNB.put _ _ _ _ _ | exact Ib.new _ _ _ _ _ _ _
                  · first | exact Im.slk_store hNB hps (fun k l v hne hc => im5_other hne hc) | exact hps.below (box1 _ _)
                  · exact (by repeat' (first | (with_reducible first | exact hBt | refine Below.alloc ?_ ?_ _ | refine Below.drew ?_ | refine below_drewN ?_ _ | refine Below.setCell ?_ ?_ _) | exact hBt.size | (have := hBt.size; first | omega | (simp; done) | (simp; omega))))
            case rest =>
              obtain ⟨pbk, pa, pc, rfl, rfl, rfl, hP, hPS, hbx⟩ := hcut
              replace HBr := Lib.hid (bel_step HBr.out hbx)
              replace HBB := Lib.hid (HBB.out.below hbx)
              replace b0 := cell_later hbx b0
              have HPI := Lib.hid hP
              have HPS := Lib.hid hPS
              obtain ⟨t0, t1, t2⟩ := (HLM2.out.later hbx).cells
              obtain ⟨W12, hW12⟩ : ∃ W12, wc = W12 := ⟨_, rfl⟩
              rw [hW12] at HBr HBB b0 HPI HPS t0 t1 t2
              try rw [hW12]
              clear hbx hP hPS HLM2 hW12 hBt
              have hBt := Below.refl W12.heap.size W12
              have hal9 : W12.heap.size ≠ al := by have := World.block_lt_of_cell? W12 _ b0; simp at this; omega
              have hlb9 : W12.heap.size ≠ lb := by have := World.block_lt_of_cell? W12 _ t0; simp at this; omega
              go_upto_region 18 with fail
              go_cut [25, 26, 27] from 71 to 113 (fun s22 s23 s24 wx => ∃ pbk pa pc, s22 = .pointer (some ⟨pbk, 0, none⟩) ∧ s23 = .int .i64 tu ∧ s24 = .int .i64 te ∧ Ib wx pbk 34 tc tm tw th (.slice pa nl pc) ∧ SlK .u64 wx pa nl tl ∧ Below W12.heap.size W12 wx)
              case first =>
                go_region_held3 (fun w' => w'.cell? ⟨al, k, none⟩ = some (.slice ba bn bc) ∧ w'.cell? ⟨lb, 0, none⟩ = some (.int .i64 (a1w0)) ∧ w'.cell? ⟨lb, 1, none⟩ = some (.int .i64 (a1h1)) ∧ w'.cell? ⟨lb, 2, none⟩ = some (.int .i64 (a1m2)))
                  (first | (with_reducible exact ⟨b0, t0, t1, t2⟩) | (with_reducible exact ⟨im5_other hal9 c0, im5_other hlb9 c1, im5_other hlb9 c2, im5_other hlb9 c3⟩) | (refine Im.imp ?_ (fun hG => ⟨cell_later hG b0, cell_later hG t0, cell_later hG t1, cell_later hG t2⟩); repeat' (first | (with_reducible first | exact hBt | refine Below.alloc ?_ ?_ _ | refine Below.drew ?_ | refine below_drewN ?_ _ | refine Below.setCell ?_ ?_ _) | exact hBt.size | (have := hBt.size; first | omega | (simp; done) | (simp; omega)))))
                  (first
                    | (go_at_call 19; refine (HP2.out _ (HBB.out.below (by repeat' (first | (with_reducible first | exact hBt | refine Below.alloc ?_ ?_ _ | refine Below.drew ?_ | refine below_drewN ?_ _ | refine Below.setCell ?_ ?_ _) | exact hBt.size | (have := hBt.size; first | omega | (simp; done) | (simp; omega)))))).mono ?_; rintro e w8 ⟨pa, pc, rfl, hps, hb9⟩; (try replace hNB := hNB.later hb9); (try (with_reducible (first | have hNB := Ib.later (Ib.new _ _ _ _ _ _ _) hb9 | have hNB := Ib.later (Ib.new_drew _ _ _ _ _ _ _) hb9))); replace hBt := bel_step (w := W12) (by repeat' (first | (with_reducible first | exact hBt | refine Below.alloc ?_ ?_ _ | refine Below.drew ?_ | refine below_drewN ?_ _ | refine Below.setCell ?_ ?_ _) | exact hBt.size | (have := hBt.size; first | omega | (simp; done) | (simp; omega)))) hb9; have hsz9 := hBt.size; have c0 := cell_later hBt b0; have c1 := cell_later hBt t0; have c2 := cell_later hBt t1; have c3 := cell_later hBt t2; (try obtain ⟨z0, z1, z2, z3, z4⟩ := hNB.cells); (try obtain ⟨y0, y1, y2, y3, y4⟩ := hNB.fr)))
                all_goals
                  go_wp2_with fail
                  go_meet
                  case rel =>
                    refine ⟨_, pa, pc, rfl, rfl, rfl, ?_, ?_, ?_⟩
                    · first | exact hNB.put _ _ _ _ _ | exact Ib.new _ _ _ _ _ _ _
                    · first | exact Im.slk_store hNB hps (fun k l v hne hc => im5_other hne hc) | exact hps.below (box1 _ _)
                    · exact (by repeat' (first | (with_reducible first | exact hBt | refine Below.alloc ?_ ?_ _ | refine Below.drew ?_ | refine below_drewN ?_ _ | refine Below.setCell ?_ ?_ _) | exact hBt.size | (have := hBt.size; first | omega | (simp; done) | (simp; omega))))
              case rest =>
                obtain ⟨qbk, qa, qc, rfl, rfl, rfl, hQ, hQS, hbx⟩ := hcut
                replace HBr := Lib.hid (bel_step HBr.out hbx)
                have HPI2 := HPI.out.later hbx
                obtain ⟨x0, x1, x2, x3, x4⟩ := HPI2.cells
                obtain ⟨y0, y1, y2, y3, y4⟩ := hQ.cells
                have HPS2 := Lib.hid (HPS.out.below hbx)
                have HQS := Lib.hid hQS
                have HAS : Hid (∀ W, Calls Tryz.prog 21 #[agI tc tm tw th (.slice pa nl pc)] W fun e w' => e = .returned (agI tc tm tw th (.slice pa nl pc)) ∧ Below W.heap.size W w') := Lib.hid fun W => imAs_any _ _ _ _ _ _ _ _
                have HSM : Hid (∀ W, SlK .u64 W pa nl tl → SlK .u64 W qa nl tl → Calls Tryz.prog 20 #[agI tc tm tw th (.slice pa nl pc), agI tc tm tw th (.slice qa nl qc)] W fun e w' => e = .returned (.bool true) ∧ Below W.heap.size W w') := Lib.hid fun W h1 h2 => by
                  have := refImSame_any tc tm tw th tc tm tw th pa qa nl nl pc qc tl tl W HTL.out h1 h2
                  rwa [Im.same_self] at this
                unfold agI at HAS HSM
                have g1 : (te != te) = false := by simp
                have g2 : (tu != tu) = false := by simp
                have hBt := Below.refl wc.heap.size wc
                clear hbx hQ hQS HPI2 t0 t1 t2 b0 HPS
                go_upto_region 19 with fail
                go_region_held3 (fun w' => w'.cell? ⟨pbk, 0, none⟩ = some (.int .i64 tc) ∧ w'.cell? ⟨pbk, 1, none⟩ = some (.int .i64 tm) ∧ w'.cell? ⟨pbk, 2, none⟩ = some (.int .i64 tw) ∧ w'.cell? ⟨pbk, 3, none⟩ = some (.int .i64 th) ∧ w'.cell? ⟨pbk, 4, none⟩ = some (.slice pa nl pc) ∧ w'.cell? ⟨qbk, 0, none⟩ = some (.int .i64 tc) ∧ w'.cell? ⟨qbk, 1, none⟩ = some (.int .i64 tm) ∧ w'.cell? ⟨qbk, 2, none⟩ = some (.int .i64 tw) ∧ w'.cell? ⟨qbk, 3, none⟩ = some (.int .i64 th) ∧ w'.cell? ⟨qbk, 4, none⟩ = some (.slice qa nl qc))
                  (first | exact ⟨x0, x1, x2, x3, x4, y0, y1, y2, y3, y4⟩ | (refine Im.imp ?_ (fun hG => ⟨cell_later hG x0, cell_later hG x1, cell_later hG x2, cell_later hG x3, cell_later hG x4, cell_later hG y0, cell_later hG y1, cell_later hG y2, cell_later hG y3, cell_later hG y4⟩); repeat' (first | (with_reducible first | exact hBt | refine Below.alloc ?_ ?_ _ | refine Below.drew ?_ | refine below_drewN ?_ _ | refine Below.setCell ?_ ?_ _) | exact hBt.size | (have := hBt.size; first | omega | (simp; done) | (simp; omega)))))
                  (first
                    | (go_at_call 21; refine (HAS.out _).mono ?_; rintro e w9 ⟨rfl, hb9⟩; replace hBt := bel_step (w := wc) (by repeat' (first | (with_reducible first | exact hBt | refine Below.alloc ?_ ?_ _ | refine Below.drew ?_ | refine below_drewN ?_ _ | refine Below.setCell ?_ ?_ _) | exact hBt.size | (have := hBt.size; first | omega | (simp; done) | (simp; omega)))) hb9; have hsz9 := hBt.size)
                    | (go_at_call 20; refine (HSM.out _ (HPS2.out.below (by repeat' (first | (with_reducible first | exact hBt | refine Below.alloc ?_ ?_ _ | refine Below.drew ?_ | refine below_drewN ?_ _ | refine Below.setCell ?_ ?_ _) | exact hBt.size | (have := hBt.size; first | omega | (simp; done) | (simp; omega))))) (HQS.out.below (by repeat' (first | (with_reducible first | exact hBt | refine Below.alloc ?_ ?_ _ | refine Below.drew ?_ | refine below_drewN ?_ _ | refine Below.setCell ?_ ?_ _) | exact hBt.size | (have := hBt.size; first | omega | (simp; done) | (simp; omega)))))).mono ?_; rintro e w9 ⟨rfl, hb9⟩; replace hBt := bel_step (w := wc) (by repeat' (first | (with_reducible first | exact hBt | refine Below.alloc ?_ ?_ _ | refine Below.drew ?_ | refine below_drewN ?_ _ | refine Below.setCell ?_ ?_ _) | exact hBt.size | (have := hBt.size; first | omega | (simp; done) | (simp; omega)))) hb9; have hsz9 := hBt.size))
                all_goals
                  have HBz := Lib.hid (bel_step HBr.out hBt)
                  clear hBt x0 x1 x2 x3 x4 y0 y1 y2 y3 y4
                  go_wp2
                  go_roundg gg
                  case measure => omega
                  case rel => exact ⟨k + 1, by omega, by go_num, HBz.out⟩
          · have hk1' : ((k : Int) == 0) = false := by rw [beq_eq_false_iff_ne]; omega
            clear hk0
            go_upto_region 17 with fail
            have LM := HLM.out
            have hb11 := hbl
            obtain ⟨W11, hW11⟩ : ∃ W11, W10 = W11 := ⟨_, rfl⟩
            rw [hW11] at LM hb11
            try rw [hW11]
            clear hW11
            replace HBr := Lib.hid (bel_step HBr.out hb11)
            replace HBB := Lib.hid (HBB.out.below hb11)
            have b0 := cell_later hb11 HBC.out
            obtain ⟨T, hT⟩ : ∃ T, Im.parseV (Hd.limits (4096) (65536) (65535)) bl = T := ⟨_, rfl⟩
            have HP1 : Hid (∀ W, Bt.Bs W ba bn bc bl → Calls Tryz.prog 18 #[.slice ba bn bc, .agg #[.int .i64 (4096), .int .i64 (65536), .int .i64 (65535)]] W (ImParR T W)) := Lib.hid fun W h => by have := imParse_any ba bn bc bl HBN.out (4096) (65536) (65535) W h; rwa [hT] at this
            have HP2 : Hid (∀ W, Bt.Bs W ba bn bc bl → Calls Tryz.prog 19 #[.slice ba bn bc, .agg #[.int .i64 (4096), .int .i64 (65536), .int .i64 (65535)]] W (ImParR T W)) := Lib.hid fun W h => by have := refImParse_any ba bn bc bl HBN.out (4096) (65536) (65535) W h; rwa [hT] at this
            have hTl : T.l.length ≤ 9223372036854775807 := by
              have h1 := Im.parse_len (Hd.limits (4096) (65536) (65535)) bl HBB.out.2.2.2
              have h2 := HBN.out
              have h3 := HBB.out.1.1
              rw [hT] at h1
              omega
            obtain ⟨tc, tm, tw, th, tl, tu, te⟩ := T
            unfold ImParR agI at HP1 HP2
            simp only at HP1 HP2 hTl
            obtain ⟨nl, hnl⟩ : ∃ nl, tl.length = nl := ⟨_, rfl⟩
            rw [hnl] at HP1 HP2 hTl
            have HTL := Lib.hid hTl
            obtain ⟨t0, t1, t2⟩ := LM.cells
            have HLM2 := Lib.hid LM
            clear hT LM hb11 hnl hTl HLM hbl hlb2
            have hBt := Below.refl W11.heap.size W11
            have hal9 : W11.heap.size ≠ al := by have := World.block_lt_of_cell? W11 _ b0; simp at this; omega
            have hlb9 : W11.heap.size ≠ lb := by have := HLM2.out.lt; omega
            go_upto_region 17 with fail
            go_cut [22, 23, 24] from 71 to 113 (fun s22 s23 s24 wx => ∃ pbk pa pc, s22 = .pointer (some ⟨pbk, 0, none⟩) ∧ s23 = .int .i64 tu ∧ s24 = .int .i64 te ∧ Ib wx pbk 46 tc tm tw th (.slice pa nl pc) ∧ SlK .u64 wx pa nl tl ∧ Below W11.heap.size W11 wx)
            case first =>
              go_region_held3 (fun w' => w'.cell? ⟨al, k, none⟩ = some (.slice ba bn bc) ∧ w'.cell? ⟨lb, 0, none⟩ = some (.int .i64 (4096)) ∧ w'.cell? ⟨lb, 1, none⟩ = some (.int .i64 (65536)) ∧ w'.cell? ⟨lb, 2, none⟩ = some (.int .i64 (65535)))
                (first | (with_reducible exact ⟨b0, t0, t1, t2⟩) | (with_reducible exact ⟨im5_other hal9 c0, im5_other hlb9 c1, im5_other hlb9 c2, im5_other hlb9 c3⟩) | (refine Im.imp ?_ (fun hG => ⟨cell_later hG b0, cell_later hG t0, cell_later hG t1, cell_later hG t2⟩); repeat' (first | (with_reducible first | exact hBt | refine Below.alloc ?_ ?_ _ | refine Below.drew ?_ | refine below_drewN ?_ _ | refine Below.setCell ?_ ?_ _) | exact hBt.size | (have := hBt.size; first | omega | (simp; done) | (simp; omega)))))
                (first
                  | (go_at_call 18; refine (HP1.out _ (HBB.out.below (by repeat' (first | (with_reducible first | exact hBt | refine Below.alloc ?_ ?_ _ | refine Below.drew ?_ | refine below_drewN ?_ _ | refine Below.setCell ?_ ?_ _) | exact hBt.size | (have := hBt.size; first | omega | (simp; done) | (simp; omega)))))).mono ?_; rintro e w8 ⟨pa, pc, rfl, hps, hb9⟩; (try replace hNB := hNB.later hb9); (try (with_reducible (first | have hNB := Ib.later (Ib.new _ _ _ _ _ _ _) hb9 | have hNB := Ib.later (Ib.new_drew _ _ _ _ _ _ _) hb9))); replace hBt := bel_step (w := W11) (by repeat' (first | (with_reducible first | exact hBt | refine Below.alloc ?_ ?_ _ | refine Below.drew ?_ | refine below_drewN ?_ _ | refine Below.setCell ?_ ?_ _) | exact hBt.size | (have := hBt.size; first | omega | (simp; done) | (simp; omega)))) hb9; have hsz9 := hBt.size; have c0 := cell_later hBt b0; have c1 := cell_later hBt t0; have c2 := cell_later hBt t1; have c3 := cell_later hBt t2; (try obtain ⟨z0, z1, z2, z3, z4⟩ := hNB.cells); (try obtain ⟨y0, y1, y2, y3, y4⟩ := hNB.fr)))
              all_goals
                go_wp2_with fail
                go_meet
                case rel =>
                  refine ⟨_, pa, pc, rfl, rfl, rfl, ?_, ?_, ?_⟩
                  · first | exact hNB.put _ _ _ _ _ | exact Ib.new _ _ _ _ _ _ _
                  · first | exact Im.slk_store hNB hps (fun k l v hne hc => im5_other hne hc) | exact hps.below (box1 _ _)
                  · exact (by repeat' (first | (with_reducible first | exact hBt | refine Below.alloc ?_ ?_ _ | refine Below.drew ?_ | refine below_drewN ?_ _ | refine Below.setCell ?_ ?_ _) | exact hBt.size | (have := hBt.size; first | omega | (simp; done) | (simp; omega))))
            case rest =>
              obtain ⟨pbk, pa, pc, rfl, rfl, rfl, hP, hPS, hbx⟩ := hcut
              replace HBr := Lib.hid (bel_step HBr.out hbx)
              replace HBB := Lib.hid (HBB.out.below hbx)
              replace b0 := cell_later hbx b0
              have HPI := Lib.hid hP
              have HPS := Lib.hid hPS
              obtain ⟨t0, t1, t2⟩ := (HLM2.out.later hbx).cells
              obtain ⟨W12, hW12⟩ : ∃ W12, wc = W12 := ⟨_, rfl⟩
              rw [hW12] at HBr HBB b0 HPI HPS t0 t1 t2
              try rw [hW12]
              clear hbx hP hPS HLM2 hW12 hBt
              have hBt := Below.refl W12.heap.size W12
              have hal9 : W12.heap.size ≠ al := by have := World.block_lt_of_cell? W12 _ b0; simp at this; omega
              have hlb9 : W12.heap.size ≠ lb := by have := World.block_lt_of_cell? W12 _ t0; simp at this; omega
              go_upto_region 18 with fail
              go_cut [25, 26, 27] from 71 to 113 (fun s22 s23 s24 wx => ∃ pbk pa pc, s22 = .pointer (some ⟨pbk, 0, none⟩) ∧ s23 = .int .i64 tu ∧ s24 = .int .i64 te ∧ Ib wx pbk 34 tc tm tw th (.slice pa nl pc) ∧ SlK .u64 wx pa nl tl ∧ Below W12.heap.size W12 wx)
              case first =>
                go_region_held3 (fun w' => w'.cell? ⟨al, k, none⟩ = some (.slice ba bn bc) ∧ w'.cell? ⟨lb, 0, none⟩ = some (.int .i64 (4096)) ∧ w'.cell? ⟨lb, 1, none⟩ = some (.int .i64 (65536)) ∧ w'.cell? ⟨lb, 2, none⟩ = some (.int .i64 (65535)))
                  (first | (with_reducible exact ⟨b0, t0, t1, t2⟩) | (with_reducible exact ⟨im5_other hal9 c0, im5_other hlb9 c1, im5_other hlb9 c2, im5_other hlb9 c3⟩) | (refine Im.imp ?_ (fun hG => ⟨cell_later hG b0, cell_later hG t0, cell_later hG t1, cell_later hG t2⟩); repeat' (first | (with_reducible first | exact hBt | refine Below.alloc ?_ ?_ _ | refine Below.drew ?_ | refine below_drewN ?_ _ | refine Below.setCell ?_ ?_ _) | exact hBt.size | (have := hBt.size; first | omega | (simp; done) | (simp; omega)))))
                  (first
                    | (go_at_call 19; refine (HP2.out _ (HBB.out.below (by repeat' (first | (with_reducible first | exact hBt | refine Below.alloc ?_ ?_ _ | refine Below.drew ?_ | refine below_drewN ?_ _ | refine Below.setCell ?_ ?_ _) | exact hBt.size | (have := hBt.size; first | omega | (simp; done) | (simp; omega)))))).mono ?_; rintro e w8 ⟨pa, pc, rfl, hps, hb9⟩; (try replace hNB := hNB.later hb9); (try (with_reducible (first | have hNB := Ib.later (Ib.new _ _ _ _ _ _ _) hb9 | have hNB := Ib.later (Ib.new_drew _ _ _ _ _ _ _) hb9))); replace hBt := bel_step (w := W12) (by repeat' (first | (with_reducible first | exact hBt | refine Below.alloc ?_ ?_ _ | refine Below.drew ?_ | refine below_drewN ?_ _ | refine Below.setCell ?_ ?_ _) | exact hBt.size | (have := hBt.size; first | omega | (simp; done) | (simp; omega)))) hb9; have hsz9 := hBt.size; have c0 := cell_later hBt b0; have c1 := cell_later hBt t0; have c2 := cell_later hBt t1; have c3 := cell_later hBt t2; (try obtain ⟨z0, z1, z2, z3, z4⟩ := hNB.cells); (try obtain ⟨y0, y1, y2, y3, y4⟩ := hNB.fr)))
                all_goals
                  go_wp2_with fail
                  go_meet
                  case rel =>
                    refine ⟨_, pa, pc, rfl, rfl, rfl, ?_, ?_, ?_⟩
                    · first | exact hNB.put _ _ _ _ _ | exact Ib.new _ _ _ _ _ _ _
                    · first | exact Im.slk_store hNB hps (fun k l v hne hc => im5_other hne hc) | exact hps.below (box1 _ _)
                    · exact (by repeat' (first | (with_reducible first | exact hBt | refine Below.alloc ?_ ?_ _ | refine Below.drew ?_ | refine below_drewN ?_ _ | refine Below.setCell ?_ ?_ _) | exact hBt.size | (have := hBt.size; first | omega | (simp; done) | (simp; omega))))
              case rest =>
                obtain ⟨qbk, qa, qc, rfl, rfl, rfl, hQ, hQS, hbx⟩ := hcut
                replace HBr := Lib.hid (bel_step HBr.out hbx)
                have HPI2 := HPI.out.later hbx
                obtain ⟨x0, x1, x2, x3, x4⟩ := HPI2.cells
                obtain ⟨y0, y1, y2, y3, y4⟩ := hQ.cells
                have HPS2 := Lib.hid (HPS.out.below hbx)
                have HQS := Lib.hid hQS
                have HAS : Hid (∀ W, Calls Tryz.prog 21 #[agI tc tm tw th (.slice pa nl pc)] W fun e w' => e = .returned (agI tc tm tw th (.slice pa nl pc)) ∧ Below W.heap.size W w') := Lib.hid fun W => imAs_any _ _ _ _ _ _ _ _
                have HSM : Hid (∀ W, SlK .u64 W pa nl tl → SlK .u64 W qa nl tl → Calls Tryz.prog 20 #[agI tc tm tw th (.slice pa nl pc), agI tc tm tw th (.slice qa nl qc)] W fun e w' => e = .returned (.bool true) ∧ Below W.heap.size W w') := Lib.hid fun W h1 h2 => by
                  have := refImSame_any tc tm tw th tc tm tw th pa qa nl nl pc qc tl tl W HTL.out h1 h2
                  rwa [Im.same_self] at this
                unfold agI at HAS HSM
                have g1 : (te != te) = false := by simp
                have g2 : (tu != tu) = false := by simp
                have hBt := Below.refl wc.heap.size wc
                clear hbx hQ hQS HPI2 t0 t1 t2 b0 HPS
                go_upto_region 19 with fail
                go_region_held3 (fun w' => w'.cell? ⟨pbk, 0, none⟩ = some (.int .i64 tc) ∧ w'.cell? ⟨pbk, 1, none⟩ = some (.int .i64 tm) ∧ w'.cell? ⟨pbk, 2, none⟩ = some (.int .i64 tw) ∧ w'.cell? ⟨pbk, 3, none⟩ = some (.int .i64 th) ∧ w'.cell? ⟨pbk, 4, none⟩ = some (.slice pa nl pc) ∧ w'.cell? ⟨qbk, 0, none⟩ = some (.int .i64 tc) ∧ w'.cell? ⟨qbk, 1, none⟩ = some (.int .i64 tm) ∧ w'.cell? ⟨qbk, 2, none⟩ = some (.int .i64 tw) ∧ w'.cell? ⟨qbk, 3, none⟩ = some (.int .i64 th) ∧ w'.cell? ⟨qbk, 4, none⟩ = some (.slice qa nl qc))
                  (first | exact ⟨x0, x1, x2, x3, x4, y0, y1, y2, y3, y4⟩ | (refine Im.imp ?_ (fun hG => ⟨cell_later hG x0, cell_later hG x1, cell_later hG x2, cell_later hG x3, cell_later hG x4, cell_later hG y0, cell_later hG y1, cell_later hG y2, cell_later hG y3, cell_later hG y4⟩); repeat' (first | (with_reducible first | exact hBt | refine Below.alloc ?_ ?_ _ | refine Below.drew ?_ | refine below_drewN ?_ _ | refine Below.setCell ?_ ?_ _) | exact hBt.size | (have := hBt.size; first | omega | (simp; done) | (simp; omega)))))
                  (first
                    | (go_at_call 21; refine (HAS.out _).mono ?_; rintro e w9 ⟨rfl, hb9⟩; replace hBt := bel_step (w := wc) (by repeat' (first | (with_reducible first | exact hBt | refine Below.alloc ?_ ?_ _ | refine Below.drew ?_ | refine below_drewN ?_ _ | refine Below.setCell ?_ ?_ _) | exact hBt.size | (have := hBt.size; first | omega | (simp; done) | (simp; omega)))) hb9; have hsz9 := hBt.size)
                    | (go_at_call 20; refine (HSM.out _ (HPS2.out.below (by repeat' (first | (with_reducible first | exact hBt | refine Below.alloc ?_ ?_ _ | refine Below.drew ?_ | refine below_drewN ?_ _ | refine Below.setCell ?_ ?_ _) | exact hBt.size | (have := hBt.size; first | omega | (simp; done) | (simp; omega))))) (HQS.out.below (by repeat' (first | (with_reducible first | exact hBt | refine Below.alloc ?_ ?_ _ | refine Below.drew ?_ | refine below_drewN ?_ _ | refine Below.setCell ?_ ?_ _) | exact hBt.size | (have := hBt.size; first | omega | (simp; done) | (simp; omega)))))).mono ?_; rintro e w9 ⟨rfl, hb9⟩; replace hBt := bel_step (w := wc) (by repeat' (first | (with_reducible first | exact hBt | refine Below.alloc ?_ ?_ _ | refine Below.drew ?_ | refine below_drewN ?_ _ | refine Below.setCell ?_ ?_ _) | exact hBt.size | (have := hBt.size; first | omega | (simp; done) | (simp; omega)))) hb9; have hsz9 := hBt.size))
                all_goals
                  have HBz := Lib.hid (bel_step HBr.out hBt)
                  clear hBt x0 x1 x2 x3 x4 y0 y1 y2 y3 y4
                  go_wp2
                  go_roundg gg
                  case measure => omega
                  case rel => exact ⟨k + 1, by omega, by go_num, HBz.out⟩
end Go.Proofs.YtkjkepnailamnaaGreat
