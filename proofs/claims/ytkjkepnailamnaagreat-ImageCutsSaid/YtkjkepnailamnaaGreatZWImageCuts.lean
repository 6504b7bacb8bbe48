/- ImageCuts: an image's bytes, cut off, are no image's: the walk of the law. No condition. -/
import Derived.Test.YtkjkepnailamnaaGreatZgAJ
import Derived.Test.YtkjkepnailamnaaGreatZImL
import Derived.Test.YtkjkepnailamnaaGreatZImR
import Derived.Test.YtkjkepnailamnaaGreatZgAD
import Derived.Test.YtkjkepnailamnaaGreatZgAH
import Derived.Deep.RegionHeld3
import Derived.Deep.DeepCutAuto
namespace Go.Proofs.YtkjkepnailamnaaGreat
open Go.RowKit
set_option linter.unusedVariables false
theorem Im.may_of_good {c m : Int} {W H : Int} {n : Nat} {l : List Int} (hp : ∀ p ∈ l, Pq.GoodP p c m) (m1 : 1 ≤ m) (m2 : m ≤ 65535) (hw : 1 ≤ W ∧ W ≤ 9) (hh : 1 ≤ H ∧ H ≤ 9) (hn : (n : Int) = W * H) : Im.mayV c m W H n l = true := by
  have h9 : W * H ≤ 9 * 9 := Int.mul_le_mul hw.2 hh.2 (by omega) (by omega)
  unfold Im.mayV
  rw [Bool.and_eq_true]
  refine ⟨Rc.mayV_iff.2 ⟨⟨hw.1, by omega, hh.1, by omega, by omega⟩, hn⟩, ?_⟩
  unfold fitL
  rw [List.all_eq_true]
  exact fun p h => Pl.fits_true (hp p h) m1 m2
set_option maxRecDepth 100000 in
set_option maxHeartbeats 8000000 in
theorem imageCuts_walk (a0t0 : Bool) (a0m1 : Int) (a0w2 : Int) (a0h3 : Int) (a0 : Option Addr) (len0 cap0 : Nat) (z0 : List Int) (a1 : Int) (a2 : Int) (w : World) (w01 : (Lit.int .i64 a0m1).wf = true) (w02 : (Lit.int .i64 a0w2).wf = true) (w03 : (Lit.int .i64 a0h3).wf = true) (w04 : IsRow .i64 w a0 len0 cap0 z0) (w1 : (Lit.int .i64 a1).wf = true) (w2 : (Lit.int .i64 a2).wf = true) :
    Calls Tryz.prog 6 #[.agg #[.bool a0t0, .int .i64 a0m1, .int .i64 a0w2, .int .i64 a0h3, .slice a0 len0 cap0], .int .i64 a1, .int .i64 a2] w fun e w' => e = .returned (.bool true) ∧ Below w.heap.size w w' := by
  obtain ⟨l1, l2, l3, l4⟩ := isrow_len w04
  have S1 := isrow_takeK w04 len0 (Nat.le_refl _)
  have J1 : ∀ x ∈ z0.take len0, Nu.I x := fun x hx => wfI (isrow_wfK w04 x (List.mem_of_mem_take hx))
  have i21 := wfI w01; have i22 := wfI w02; have i23 := wfI w03; have i3 := wfI w1; have i4 := wfI w2
  obtain ⟨C0, hC0⟩ : ∃ x, Im.chanV a0t0 = x := ⟨_, rfl⟩
  obtain ⟨D0, hD0⟩ : ∃ x, Im.formM a0m1 = x := ⟨_, rfl⟩
  have gw0 := goodW_in a0w2 5 (by omega)
  have gh0 := goodW_in a0h3 5 (by omega)
  obtain ⟨GW0, hGW0⟩ : ∃ x, goodW a0w2 5 = x := ⟨_, rfl⟩
  obtain ⟨GH0, hGH0⟩ : ∃ x, goodW a0h3 5 = x := ⟨_, rfl⟩
  have HG0 : Hid (∀ W', Below w.heap.size w W' → Calls Tryz.prog 12 #[.agg #[.bool a0t0, .int .i64 a0m1, .int .i64 a0w2, .int .i64 a0h3, .slice a0 len0 cap0], .int .i64 5] W' (ImGoodR C0 D0 GW0 GH0 W')) := Lib.hid fun W' hb => by
    have := refImGood_any a0t0 a0m1 a0w2 a0h3 5 a0 len0 cap0 (z0.take len0) i21 i22 i23 (by omega) (by omega) (by omega) W' (S1.below hb) J1
    rw [hC0, hD0, hGW0, hGH0] at this
    exact this
  unfold ImGoodR agI at HG0
  rw [hGW0] at gw0
  rw [hGH0] at gh0
  have HCC : Hid (C0 = 1 ∨ C0 = 3) := Lib.hid (by rw [← hC0]; unfold Im.chanV; cases a0t0 <;> simp)
  have HDD := Lib.hid (show 1 ≤ D0 ∧ D0 ≤ 65535 by rw [← hD0]; exact Im.form_at a0m1)
  have hB0 := box1 w (.cells #[.bool a0t0, .int .i64 a0m1, .int .i64 a0w2, .int .i64 a0h3, .slice a0 len0 cap0] 27)
  have fA := Fv.new w 27 (.bool a0t0) (.int .i64 a0m1) (.int .i64 a0w2) (.int .i64 a0h3) (.slice a0 len0 cap0)
  obtain ⟨W2, hW2⟩ : ∃ W2, w.alloc (.cells #[.bool a0t0, .int .i64 a0m1, .int .i64 a0w2, .int .i64 a0h3, .slice a0 len0 cap0] 27) = W2 := ⟨_, rfl⟩
  rw [hW2] at hB0 fA
  have HB := Lib.hid hB0
  have HI3 := Lib.hid i3; have HI4 := Lib.hid i4
  obtain ⟨x0, x1, x2, x3, x4⟩ := fA.cells
  clear S1 J1 i21 i22 i23 i3 i4 hB0 fA w01 w02 w03 w04 w1 w2 hC0 hD0 hGW0 hGH0
  go_enter Tryz.func6, Tryz.ntmps6
  go_upto_region 1 with fail
  try rw [hW2]
  clear hW2
  go_wp2_with fail
  refine (HG0.out _ HB.out).mono ?_
  rintro e w3 ⟨ad0, cp0, gs0, rfl, hgl0, hgp0, ho0, hc0, hd0, hb⟩
  have HU := Lib.hid (Im.good_U hgp0)
  have HGP := Lib.hid hgp0
  have HGL := Lib.hid hgl0
  obtain ⟨n0, hn0⟩ : ∃ k, gs0.length = k := ⟨_, rfl⟩
  have HN0 := Lib.hid hn0
  have HV := Lib.hid (show SlK .u64 w3 ad0 n0 gs0 by have := ho0.sl; rwa [hn0] at this)
  rw [hn0]
  clear x0 x1 x2 x3 x4
  replace HB := Lib.hid (HB.out.trans (hb.mono HB.out.size))
  go_upto_region 2 with fail
  have X := Ib.new w3 34 C0 D0 GW0 GH0 (.slice ad0 n0 cp0)
  have hb4 := box1 w3 (.cells #[.int .i64 C0, .int .i64 D0, .int .i64 GW0, .int .i64 GH0, .slice ad0 n0 cp0] 34)
  obtain ⟨W4, hW4⟩ : ∃ W4, w3.alloc (.cells #[.int .i64 C0, .int .i64 D0, .int .i64 GW0, .int .i64 GH0, .slice ad0 n0 cp0] 34) = W4 := ⟨_, rfl⟩
  rw [hW4] at X hb4
  try rw [hW4]
  obtain ⟨mb, hmb⟩ : ∃ mb, w3.heap.size = mb := ⟨_, rfl⟩
  rw [hmb] at X
  try rw [hmb]
  replace HV := Lib.hid (HV.out.below hb4)
  replace HB := Lib.hid (HB.out.trans (hb4.mono HB.out.size))
  have HX := Lib.hid X
  clear hW4 hb4 X hb hmb hgp0 hgl0 ho0 hc0 hd0 HG0 hn0
  obtain ⟨x0, x1, x2, x3, x4⟩ := HX.out.cells
  obtain ⟨nk, hnk⟩ : ∃ nk, (Im.kindsV C0 D0).length = nk := ⟨_, rfl⟩
  obtain ⟨kl, hkl⟩ : ∃ kl, Im.kindsV C0 D0 = kl := ⟨_, rfl⟩
  have HKI : Hid (∀ W, Calls Tryz.prog 13 #[.agg #[.int .i64 C0, .int .i64 D0]] W fun e w' => ∃ (a : Option Addr) (cap : Nat), e = .returned (.slice a nk cap) ∧ SlK .i64 w' a nk kl ∧ Below W.heap.size W w') := Lib.hid fun W => by
    have h1 := HCC.out
    have h2 := HDD.out
    exact (refKinds_any C0 D0 (by unfold Nu.I; omega) (by unfold Nu.I; omega) W).mono fun e w' h => ik_sl hnk hkl h
  have hk1 : 1 ≤ nk := by rw [← hnk]; exact Im.kinds_pos HCC.out HDD.out.1 HDD.out.2
  have hk6 : nk ≤ 6 := by rw [← hnk]; exact Im.kinds_len _ 6
  have HKL := Lib.hid hkl
  clear hnk hkl
  go_wp2_with fail
  refine (HKI.out _).mono ?_
  rintro e w5 ⟨ka, kc, rfl, hks, hb⟩
  clear x0 x1 x2 x3 x4 HKI
  replace HV := Lib.hid (HV.out.below hb)
  replace HX := Lib.hid (HX.out.later hb)
  replace HB := Lib.hid (HB.out.trans (hb.mono HB.out.size))
  clear hb
  obtain ⟨x0, x1, x2, x3, x4⟩ := HX.out.cells
  obtain ⟨kb, ko, rfl, hkc⟩ := slk_pos hks (by omega)
  have hj := Ar.around_lt a1 (nk : Int) (by omega)
  have HAR : Hid (∀ W, Calls Tryz.prog 15 #[.int .i64 a1, .int .i64 (nk : Int)] W fun e w' => e = .returned (.int .i64 (Ar.around a1 nk)) ∧ W = w') := Lib.hid fun W => aroundOf a1 nk HI3.out.1 HI3.out.2 (by omega) (by omega) W
  obtain ⟨q, hq⟩ : ∃ q : Nat, Ar.around a1 (nk : Int) = (q : Int) := ⟨(Ar.around a1 nk).toNat, by omega⟩
  rw [hq] at HAR hj
  have hqk : q < nk := by omega
  have hqc := hkc q hqk
  obtain ⟨kd, hkd⟩ : ∃ kd, kl.getD q 0 = kd := ⟨_, rfl⟩
  rw [hkd] at hqc
  have hq0 : (0 : Int) ≤ (q : Int) := Int.natCast_nonneg _
  have hq1 : (q : Int) < (nk : Int) := by omega
  obtain ⟨gw, hgw⟩ : ∃ gw : Nat, GW0 = (gw : Int) := ⟨GW0.toNat, by omega⟩
  obtain ⟨gh, hgh⟩ : ∃ gh : Nat, GH0 = (gh : Int) := ⟨GH0.toNat, by omega⟩
  have hn3 : n0 = gw * gh := by rw [← HN0.out, HGL.out, hgw, hgh]; simp
  have hL3 : gs0.length = gw * gh := by rw [HN0.out]; exact hn3
  have htell : Im.tellV C0 D0 (gw : Int) (gh : Int) n0 gs0 kd = true := by
    have hmem : kd ∈ Im.kindsV C0 D0 := by
      rw [HKL.out, ← hkd, List.getD_eq_getElem?_getD, List.getElem?_eq_getElem (by rw [hks.1]; exact hqk)]
      exact List.getElem_mem _
    unfold Im.tellV
    rw [Im.mem_kinds.1 hmem, Im.may_of_good HGP.out HDD.out.1 HDD.out.2 (by omega) (by omega) (by rw [hn3]; simp)]
    rfl
  have HWR : Hid (∀ W, SlK .u64 W ad0 n0 gs0 → Calls Tryz.prog 14 #[agI C0 D0 GW0 GH0 (.slice ad0 n0 cp0), .int .i64 kd] W (ImWrR (Im.writeV C0 D0 kd gw gh n0 gs0) W)) := Lib.hid fun W hs => by
    have h1 := HCC.out
    have h2 := HDD.out
    have h4 : gw * gh ≤ 5 * 5 := Nat.mul_le_mul (by omega) (by omega)
    have := refImWrite_any C0 D0 kd gw gh (by unfold Nu.I; omega) (by unfold Nu.I; omega) ad0 n0 cp0 gs0 (by omega) hn3 HU.out W hs
    rw [← hgw, ← hgh] at this
    exact this
  have hwl := Im.write_len C0 D0 kd gw gh n0 gs0 HU.out (by omega) (by omega) hL3
  have hfacts : ∃ (bs : List Int) (u : Nat), Im.writeV C0 D0 kd gw gh n0 gs0 = (bs, 0) ∧ Im.parseV (Hd.limits 4096 65536 65535) bs = ⟨C0, D0, GW0, GH0, gs0, (u : Int), 0⟩ ∧ bs.length ≤ u + 1 ∧ 7 ≤ bs.length ∧ (3 < kd → ∀ k, k < bs.length → (Im.parseV (Hd.limits 4096 65536 65535) (bs.take k)).e = 6) := by
    have hd7 : 7 ≤ (Hd.bytes ⟨kd, (gw : Int), (gh : Int), D0⟩).length := Im.bytes_seven _
    unfold Im.writeV
    rw [if_pos htell, hgw, hgh]
    by_cases h4 : kd < 4
    · rw [if_pos h4]
      obtain ⟨u, h1, h2⟩ := Im.parse_plain HU.out htell hL3 h4
      exact ⟨_, u, rfl, h1, h2, by unfold Im.plainV; rw [List.length_append]; omega, fun h => by omega⟩
    · rw [if_neg h4]
      exact ⟨_, _, rfl, Im.parse_raw HU.out htell hL3 (by omega), by omega, by unfold Im.rawV; rw [List.length_append]; omega, fun h k hk => Im.parse_cut HU.out htell hL3 (by omega) hk⟩
  obtain ⟨bs, u, hw1, hp1, hu1, hb7, hcut⟩ := hfacts
  rw [hw1] at HWR hwl
  unfold ImWrR agI at HWR
  simp only at HWR hwl
  have HP0 := Lib.hid hp1
  have HCUT := Lib.hid hcut
  obtain ⟨nb, hnb⟩ : ∃ nb, bs.length = nb := ⟨_, rfl⟩
  rw [hnb] at HWR hwl hu1 hb7
  have HNB := Lib.hid hnb
  clear hq hkd hkc hks hgw hgh hj hp1 hcut hw1 hnb hn3 hL3 htell
  go_wp2_with (go_at_call 15; (with_reducible refine (HAR.out _).mono ?_); rintro e w9 ⟨rfl, rfl⟩)
  refine (HWR.out _ HV.out).mono ?_
  rintro e w6 ⟨oa, oc, rfl, hos, hb⟩
  have HOS := Lib.hid hos
  replace HV := Lib.hid (HV.out.below hb)
  replace HX := Lib.hid (HX.out.later hb)
  replace HB := Lib.hid (HB.out.trans (hb.mono HB.out.size))
  clear hb hos x0 x1 x2 x3 x4 hqc HAR HWR hqk hq0 hq1
  have HWL := Lib.hid hwl
  have HU1 := Lib.hid hu1
  have HB7 := Lib.hid hb7
  clear hwl hu1 hb7 gw0 gh0 hk1 hk6 l1 l2 l3 l4
  go_upto_if 42 with fail
  go_cut [12] (fun s12 wx => ∃ le : Nat, s12 = .int .i64 le ∧ (le = 1 ∨ le = 2) ∧ w6 = wx)
  case first =>
    by_cases h4 : kd < 4
    · have hk2 : decide (kd < 4) = true := decide_eq_true h4
      go_wp2_with fail
      go_meet
      case rel => exact ⟨2, rfl, .inr rfl, rfl⟩
    · have hk2 : decide (kd < 4) = false := decide_eq_false h4
      go_wp2_with fail
      go_meet
      case rel => exact ⟨1, rfl, .inl rfl, rfl⟩
  case rest =>
    obtain ⟨le, rfl, hle, hw6⟩ := hcut
    subst hw6
    have hwl := HWL.out
    have hb7 := HB7.out
    have hle2 : le ≤ 2 := by omega
    have hle1 : 1 ≤ le := by omega
    have hj := Ar.around_lt a2 ((nb : Int) - (le : Int)) (by omega)
    have HAR : Hid (∀ W, Calls Tryz.prog 15 #[.int .i64 a2, .int .i64 ((nb : Int) - (le : Int))] W fun e w' => e = .returned (.int .i64 (Ar.around a2 ((nb : Int) - (le : Int)))) ∧ W = w') := Lib.hid fun W => aroundOf a2 _ HI4.out.1 HI4.out.2 (by omega) (by omega) W
    obtain ⟨r, hr⟩ : ∃ r : Nat, Ar.around a2 ((nb : Int) - (le : Int)) = (r : Int) := ⟨(Ar.around a2 ((nb : Int) - (le : Int))).toNat, by omega⟩
    rw [hr] at HAR hj
    have hr1 : r + le < nb := by omega
    clear hr hj hle
    go_upto_region 9 with (go_at_call 15; (with_reducible refine (HAR.out _).mono ?_); rintro e w9 ⟨rfl, rfl⟩)
    obtain ⟨N, hN⟩ : ∃ N : Nat, (nb : Int) - (le : Int) - (r : Int) = (N : Int) := ⟨nb - le - r, by omega⟩
    have hNn : N < nb := by omega
    (try rw [hN])
    have HNn := Lib.hid hNn
    clear hN hNn hr1 hle2 hle1 HAR hwl hb7
    have HPA : Hid (∀ W, Bt.Bs W oa nb oc bs → Calls Tryz.prog 18 #[.slice oa nb oc, .agg #[.int .i64 4096, .int .i64 65536, .int .i64 65535]] W fun e w' => ∃ (pa : Option Addr) (pc : Nat), e = .returned (.tuple #[.agg #[.int .i64 C0, .int .i64 D0, .int .i64 GW0, .int .i64 GH0, .slice pa n0 pc], .int .i64 (u : Int), .int .i64 0]) ∧ SlK .u64 w' pa n0 gs0 ∧ Below W.heap.size W w') := Lib.hid fun W h => by
      have := imParse_any oa nb oc bs HWL.out 4096 65536 65535 W h
      rw [HP0.out] at this
      unfold ImParR agI at this
      simp only at this
      rw [HN0.out] at this
      exact this
    go_wp2_with (go_at_call 17; refine (hall_any _).mono ?_; rintro e w7 ⟨rfl, hb⟩; have HB7' := Lib.hid hb; clear hb)
    replace HV := Lib.hid (HV.out.below HB7'.out)
    replace HX := Lib.hid (HX.out.later HB7'.out)
    replace HOS := Lib.hid (HOS.out.below HB7'.out)
    replace HB := Lib.hid (HB.out.trans (HB7'.out.mono HB.out.size))
    refine (HPA.out _ HOS.out).mono ?_
    rintro e w8 ⟨pa, pc, rfl, hps, hb⟩
    have HPS := Lib.hid hps
    replace HV := Lib.hid (HV.out.below hb)
    replace HX := Lib.hid (HX.out.later hb)
    replace HOS := Lib.hid (HOS.out.below hb)
    replace HB := Lib.hid (HB.out.trans (hb.mono HB.out.size))
    clear hps hb HPA HB7'
    go_upto_region 10 with fail
    have X := Ib.new w8 46 C0 D0 GW0 GH0 (.slice pa n0 pc)
    have hb4 := box1 w8 (.cells #[.int .i64 C0, .int .i64 D0, .int .i64 GW0, .int .i64 GH0, .slice pa n0 pc] 46)
    obtain ⟨W9, hW9⟩ : ∃ W9, w8.alloc (.cells #[.int .i64 C0, .int .i64 D0, .int .i64 GW0, .int .i64 GH0, .slice pa n0 pc] 46) = W9 := ⟨_, rfl⟩
    rw [hW9] at X hb4
    try rw [hW9]
    obtain ⟨pbk, hpbk⟩ : ∃ b, w8.heap.size = b := ⟨_, rfl⟩
    rw [hpbk] at X
    try rw [hpbk]
    replace HV := Lib.hid (HV.out.below hb4)
    replace HX := Lib.hid (HX.out.later hb4)
    replace HOS := Lib.hid (HOS.out.below hb4)
    replace HPS := Lib.hid (HPS.out.below hb4)
    replace HB := Lib.hid (HB.out.trans (hb4.mono HB.out.size))
    clear hW9 hb4 hpbk
    obtain ⟨x0, x1, x2, x3, x4⟩ := HX.out.cells
    obtain ⟨y0, y1, y2, y3, y4⟩ := X.cells
    have HAS : Hid (∀ W, Calls Tryz.prog 21 #[agI C0 D0 GW0 GH0 (.slice pa n0 pc)] W fun e w' => e = .returned (agI C0 D0 GW0 GH0 (.slice pa n0 pc)) ∧ Below W.heap.size W w') := Lib.hid fun W => imAs_any _ _ _ _ _ _ _ _
    have hn9 : n0 ≤ 9223372036854775807 := by
      have h1 := Im.parse_len (Hd.limits 4096 65536 65535) bs HOS.out.2.2.2
      have h2 := HWL.out
      have h3 := HNB.out
      rw [HP0.out] at h1
      simp only at h1
      rw [HN0.out] at h1
      omega
    have HSM : Hid (∀ W, SlK .u64 W pa n0 gs0 → SlK .u64 W ad0 n0 gs0 → Calls Tryz.prog 20 #[agI C0 D0 GW0 GH0 (.slice pa n0 pc), agI C0 D0 GW0 GH0 (.slice ad0 n0 cp0)] W fun e w' => e = .returned (.bool true) ∧ Below W.heap.size W w') := Lib.hid fun W h1 h2 => by
      have := refImSame_any C0 D0 GW0 GH0 C0 D0 GW0 GH0 pa ad0 n0 n0 pc cp0 gs0 gs0 W hn9 h1 h2
      rwa [Im.same_self] at this
    unfold agI at HAS HSM
    have hwl := HWL.out
    have hb7 := HB7.out
    have hu1 := HU1.out
    have hw1 : IntKind.i64.wrap ((nb : Int) - 1) = (nb : Int) - 1 := by rw [IntWalk.i64_in] <;> omega
    have hd1 : decide ((u : Int) < (nb : Int) - 1) = false := decide_eq_false (by omega)
    have hd2 : ¬ (u : Int) < (nb : Int) - 1 := by omega
    have hBt := Below.refl W9.heap.size W9
    clear hn9 hwl hb7 hu1
    go_region_held3 (fun w' => w'.cell? ⟨pbk, 0, none⟩ = some (.int .i64 C0) ∧ w'.cell? ⟨pbk, 1, none⟩ = some (.int .i64 D0) ∧ w'.cell? ⟨pbk, 2, none⟩ = some (.int .i64 GW0) ∧ w'.cell? ⟨pbk, 3, none⟩ = some (.int .i64 GH0) ∧ w'.cell? ⟨pbk, 4, none⟩ = some (.slice pa n0 pc) ∧ w'.cell? ⟨mb, 0, none⟩ = some (.int .i64 C0) ∧ w'.cell? ⟨mb, 1, none⟩ = some (.int .i64 D0) ∧ w'.cell? ⟨mb, 2, none⟩ = some (.int .i64 GW0) ∧ w'.cell? ⟨mb, 3, none⟩ = some (.int .i64 GH0) ∧ w'.cell? ⟨mb, 4, none⟩ = some (.slice ad0 n0 cp0))
      (first | exact ⟨y0, y1, y2, y3, y4, x0, x1, x2, x3, x4⟩ | (refine Im.imp (P := Below W9.heap.size W9 _) ?_ (fun hG => ⟨cell_later hG y0, cell_later hG y1, cell_later hG y2, cell_later hG y3, cell_later hG y4, cell_later hG x0, cell_later hG x1, cell_later hG x2, cell_later hG x3, cell_later hG x4⟩); repeat' (first | (with_reducible first | exact hBt | refine Below.alloc ?_ ?_ _ | refine Below.drew ?_ | refine below_drewN ?_ _ | refine Below.setCell ?_ ?_ _) | exact hBt.size | (have := hBt.size; first | omega | (simp; done) | (simp; omega)))))
      (first
        | (go_at_call 21; refine (HAS.out _).mono ?_; rintro e w9 ⟨rfl, hb9⟩; replace hBt := bel_step (w := W9) (by repeat' (first | (with_reducible first | exact hBt | refine Below.alloc ?_ ?_ _ | refine Below.drew ?_ | refine below_drewN ?_ _ | refine Below.setCell ?_ ?_ _) | exact hBt.size | (have := hBt.size; first | omega | (simp; done) | (simp; omega)))) hb9; have hsz9 := hBt.size)
        | (go_at_call 20; refine (HSM.out _ (HPS.out.below (by repeat' (first | (with_reducible first | exact hBt | refine Below.alloc ?_ ?_ _ | refine Below.drew ?_ | refine below_drewN ?_ _ | refine Below.setCell ?_ ?_ _) | exact hBt.size | (have := hBt.size; first | omega | (simp; done) | (simp; omega))))) (HV.out.below (by repeat' (first | (with_reducible first | exact hBt | refine Below.alloc ?_ ?_ _ | refine Below.drew ?_ | refine below_drewN ?_ _ | refine Below.setCell ?_ ?_ _) | exact hBt.size | (have := hBt.size; first | omega | (simp; done) | (simp; omega)))))).mono ?_; rintro e w9 ⟨rfl, hb9⟩; replace hBt := bel_step (w := W9) (by repeat' (first | (with_reducible first | exact hBt | refine Below.alloc ?_ ?_ _ | refine Below.drew ?_ | refine below_drewN ?_ _ | refine Below.setCell ?_ ?_ _) | exact hBt.size | (have := hBt.size; first | omega | (simp; done) | (simp; omega)))) hb9; have hsz9 := hBt.size))
    all_goals
      replace HOS := Lib.hid (HOS.out.below hBt)
      replace HB := Lib.hid (HB.out.trans (hBt.mono HB.out.size))
      clear hBt x0 x1 x2 x3 x4 y0 y1 y2 y3 y4 HAS HSM HX HV HPS X hw1 hd1 hd2
      have hNn := HNn.out
      have hN0 : (0 : Int) ≤ (N : Int) := Int.natCast_nonneg _
      have hNc : N ≤ oc := by have := HOS.out.2.1; omega
      have hNc1 : (N : Int) ≤ (oc : Int) := by omega
      have HOC := Lib.hid (rws_cut HOS.out (Nat.le_of_lt hNn))
      have HN9 := Lib.hid (show N ≤ 100000 by have := HWL.out; omega)
      obtain ⟨te, hte⟩ : ∃ te, (Im.parseV (Hd.limits 4096 65536 65535) (bs.take N)).e = te := ⟨_, rfl⟩
      have hT6 : 3 < kd → te = 6 := fun h => by rw [← hte]; exact HCUT.out h N (by rw [HNB.out]; exact hNn)
      have HT6 := Lib.hid hT6
      have HQ1 : Hid (∀ W, Bt.Bs W oa N oc (bs.take N) → Calls Tryz.prog 18 #[.slice oa N oc, .agg #[.int .i64 4096, .int .i64 65536, .int .i64 65535]] W fun e w' => ∃ (tc tm tw th : Int) (qa : Option Addr) (qn qc : Nat) (pu : Int), e = .returned (.tuple #[.agg #[.int .i64 tc, .int .i64 tm, .int .i64 tw, .int .i64 th, .slice qa qn qc], .int .i64 pu, .int .i64 te]) ∧ Below W.heap.size W w') := Lib.hid fun W h => (imParse_any oa N oc (bs.take N) HN9.out 4096 65536 65535 W h).mono fun e w' => by
        rintro ⟨a, cp, rfl, _, hb⟩
        rw [hte]
        exact ⟨_, _, _, _, a, _, cp, _, rfl, hb⟩
      have HQ2 : Hid (∀ W, Bt.Bs W oa N oc (bs.take N) → Calls Tryz.prog 19 #[.slice oa N oc, .agg #[.int .i64 4096, .int .i64 65536, .int .i64 65535]] W fun e w' => ∃ (tc tm tw th : Int) (qa : Option Addr) (qn qc : Nat) (pu : Int), e = .returned (.tuple #[.agg #[.int .i64 tc, .int .i64 tm, .int .i64 tw, .int .i64 th, .slice qa qn qc], .int .i64 pu, .int .i64 te]) ∧ Below W.heap.size W w') := Lib.hid fun W h => (refImParse_any oa N oc (bs.take N) HN9.out 4096 65536 65535 W h).mono fun e w' => by
        rintro ⟨a, cp, rfl, _, hb⟩
        rw [hte]
        exact ⟨_, _, _, _, a, _, cp, _, rfl, hb⟩
      clear hte hT6 hNn hNc
      go_wp2_with fail
      go_upto_region 12 with fail
      obtain ⟨WA, hWA⟩ : ∃ WA, w9 = WA := ⟨_, rfl⟩
      rw [hWA] at HOC HOS HB
      try rw [hWA]
      clear hWA
      have hBt := Below.refl WA.heap.size WA
      go_upto_region 12 with fail
      go_cut [19] (fun s19 wx => s19 = .int .i64 te ∧ Below WA.heap.size WA wx)
      case first =>
        go_region_held3 (fun w' => True) (trivial)
          (first
            | (go_at_call 17; refine (hall_any _).mono ?_; rintro e w9 ⟨rfl, hb9⟩; (try replace hNB := hNB.later hb9); (try (with_reducible (first | have hNB := Ib.later (Ib.new _ _ _ _ _ _ _) hb9 | have hNB := Ib.later (Ib.new_drew _ _ _ _ _ _ _) hb9))); replace hBt := bel_step (w := WA) (by repeat' (first | (with_reducible first | exact hBt | refine Below.alloc ?_ ?_ _ | refine Below.drew ?_ | refine below_drewN ?_ _ | refine Below.setCell ?_ ?_ _) | exact hBt.size | (have := hBt.size; first | omega | (simp; done) | (simp; omega)))) hb9; have hsz9 := hBt.size)
            | (go_at_call 18; refine (HQ1.out _ (HOC.out.below (by repeat' (first | (with_reducible first | exact hBt | refine Below.alloc ?_ ?_ _ | refine Below.drew ?_ | refine below_drewN ?_ _ | refine Below.setCell ?_ ?_ _) | exact hBt.size | (have := hBt.size; first | omega | (simp; done) | (simp; omega)))))).mono ?_; rintro e w9 ⟨tc, tm, tw, th, qa, qn, qc, pu, rfl, hb9⟩; (try replace hNB := hNB.later hb9); (try (with_reducible (first | have hNB := Ib.later (Ib.new _ _ _ _ _ _ _) hb9 | have hNB := Ib.later (Ib.new_drew _ _ _ _ _ _ _) hb9))); replace hBt := bel_step (w := WA) (by repeat' (first | (with_reducible first | exact hBt | refine Below.alloc ?_ ?_ _ | refine Below.drew ?_ | refine below_drewN ?_ _ | refine Below.setCell ?_ ?_ _) | exact hBt.size | (have := hBt.size; first | omega | (simp; done) | (simp; omega)))) hb9; have hsz9 := hBt.size; (try obtain ⟨z0, z1, z2, z3, z4⟩ := hNB.cells); (try obtain ⟨y0, y1, y2, y3, y4⟩ := hNB.fr)))
        all_goals
          go_wp2_with fail
          go_meet
          case rel => exact ⟨rfl, (by repeat' (first | (with_reducible first | exact hBt | refine Below.alloc ?_ ?_ _ | refine Below.drew ?_ | refine below_drewN ?_ _ | refine Below.setCell ?_ ?_ _) | exact hBt.size | (have := hBt.size; first | omega | (simp; done) | (simp; omega))))⟩
      case rest =>
        obtain ⟨rfl, hbx⟩ := hcut
        replace HOC := Lib.hid (HOC.out.below hbx)
        replace HB := Lib.hid (HB.out.trans (hbx.mono HB.out.size))
        obtain ⟨WB, hWB⟩ : ∃ WB, wc = WB := ⟨_, rfl⟩
        rw [hWB] at HOC HB
        try rw [hWB]
        clear hbx hWB hBt
        have hBt := Below.refl WB.heap.size WB
        go_upto_region 13 with fail
        go_cut [22] (fun s19 wx => s19 = .int .i64 te ∧ Below WB.heap.size WB wx)
        case first =>
          go_region_held3 (fun w' => True) (trivial)
            (first
              | (go_at_call 17; refine (hall_any _).mono ?_; rintro e w9 ⟨rfl, hb9⟩; (try replace hNB := hNB.later hb9); (try (with_reducible (first | have hNB := Ib.later (Ib.new _ _ _ _ _ _ _) hb9 | have hNB := Ib.later (Ib.new_drew _ _ _ _ _ _ _) hb9))); replace hBt := bel_step (w := WB) (by repeat' (first | (with_reducible first | exact hBt | refine Below.alloc ?_ ?_ _ | refine Below.drew ?_ | refine below_drewN ?_ _ | refine Below.setCell ?_ ?_ _) | exact hBt.size | (have := hBt.size; first | omega | (simp; done) | (simp; omega)))) hb9; have hsz9 := hBt.size)
              | (go_at_call 19; refine (HQ2.out _ (HOC.out.below (by repeat' (first | (with_reducible first | exact hBt | refine Below.alloc ?_ ?_ _ | refine Below.drew ?_ | refine below_drewN ?_ _ | refine Below.setCell ?_ ?_ _) | exact hBt.size | (have := hBt.size; first | omega | (simp; done) | (simp; omega)))))).mono ?_; rintro e w9 ⟨tc, tm, tw, th, qa, qn, qc, pu, rfl, hb9⟩; (try replace hNB := hNB.later hb9); (try (with_reducible (first | have hNB := Ib.later (Ib.new _ _ _ _ _ _ _) hb9 | have hNB := Ib.later (Ib.new_drew _ _ _ _ _ _ _) hb9))); replace hBt := bel_step (w := WB) (by repeat' (first | (with_reducible first | exact hBt | refine Below.alloc ?_ ?_ _ | refine Below.drew ?_ | refine below_drewN ?_ _ | refine Below.setCell ?_ ?_ _) | exact hBt.size | (have := hBt.size; first | omega | (simp; done) | (simp; omega)))) hb9; have hsz9 := hBt.size; (try obtain ⟨z0, z1, z2, z3, z4⟩ := hNB.cells); (try obtain ⟨y0, y1, y2, y3, y4⟩ := hNB.fr)))
          all_goals
            go_wp2_with fail
            go_meet
            case rel => exact ⟨rfl, (by repeat' (first | (with_reducible first | exact hBt | refine Below.alloc ?_ ?_ _ | refine Below.drew ?_ | refine below_drewN ?_ _ | refine Below.setCell ?_ ?_ _) | exact hBt.size | (have := hBt.size; first | omega | (simp; done) | (simp; omega))))⟩
        case rest =>
          obtain ⟨rfl, hbx⟩ := hcut
          replace HB := Lib.hid (HB.out.trans (hbx.mono HB.out.size))
          clear hbx HOC
          have h6 : (decide (kd < 4) || (te == 6)) = true := by
            by_cases h4 : kd < 4
            · simp [h4]
            · have := HT6.out (by omega)
              rw [this]; simp
          by_cases h4 : kd < 4
          · have hk2 : decide (kd < 4) = true := decide_eq_true h4
            go_wp2_with (go_at_call 16; refine (lives10_any _).mono ?_; rintro e w9 ⟨rfl, hb9⟩; have HBt := Lib.hid hb9; clear hb9)
            go_ret
            exact ⟨by first | rfl | simp, HB.out.trans (HBt.out.mono HB.out.size)⟩
          · have hk2 : decide (kd < 4) = false := decide_eq_false h4
            have hte6 := HT6.out (by omega)
            subst hte6
            go_wp2_with (go_at_call 16; refine (lives10_any _).mono ?_; rintro e w9 ⟨rfl, hb9⟩; have HBt := Lib.hid hb9; clear hb9)
            go_ret
            exact ⟨by first | rfl | simp, HB.out.trans (HBt.out.mono HB.out.size)⟩
end Go.Proofs.YtkjkepnailamnaaGreat
