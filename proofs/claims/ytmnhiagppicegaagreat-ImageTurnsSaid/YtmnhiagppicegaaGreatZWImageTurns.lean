/- ImageTurns: dark for light each pixel is the document's; twice it is as it was; found as often: the walk of the law. No condition. -/
import Derived.Test.YtmnhiagppicegaaGreatZgAG
import Derived.Test.YtmnhiagppicegaaGreatZImG
import Derived.Test.YtmnhiagppicegaaGreatZImL
import Derived.Test.YtmnhiagppicegaaGreatZgAD
import Derived.Test.YtmnhiagppicegaaGreatZgAB
import Derived.Deep.RegionHeld3
import Derived.Deep.DeepCutAuto
import Derived.BigQuiet
namespace Go.Proofs.YtmnhiagppicegaaGreat
open Go.RowKit
set_option linter.unusedVariables false
theorem bel_und {w w' : World} (h : Below w.drew.heap.size w.drew w') : Below w.heap.size w w' := ((Below.refl w.heap.size w).drew).trans (h.mono (Nat.le_refl _))
theorem Im.n_pos {W H : Int} {L : List Int} (h : Rc.Ok W H L) (hw : W ≤ 9) (hh : H ≤ 9) : 1 ≤ L.length ∧ L.length ≤ 81 := by
  obtain ⟨h1, _, h3, _, _, h6⟩ := h
  rw [h6]
  have a1 : 1 ≤ H.toNat := by omega
  have a2 : 1 ≤ W.toNat := by omega
  have b1 : H.toNat ≤ 9 := by omega
  have b2 : W.toNat ≤ 9 := by omega
  have h7 := Nat.mul_le_mul a1 a2
  have h8 := Nat.mul_le_mul b1 b2
  omega
theorem Im.len_eq {L : List Int} {n : Nat} (f : Int → Int) (h : L.length = n) : (L.map f).length = n := by rw [List.length_map]; exact h
set_option maxRecDepth 100000 in
set_option maxHeartbeats 8000000 in
theorem imageTurns_walk (a0t0 : Bool) (a0m1 : Int) (a0w2 : Int) (a0h3 : Int) (a0 : Option Addr) (len0 cap0 : Nat) (z0 : List Int) (a1t0 : Bool) (a1m1 : Int) (a1w2 : Int) (a1h3 : Int) (a1 : Option Addr) (len1 cap1 : Nat) (z1 : List Int) (w : World) (w01 : (Lit.int .i64 a0m1).wf = true) (w02 : (Lit.int .i64 a0w2).wf = true) (w03 : (Lit.int .i64 a0h3).wf = true) (w04 : IsRow .i64 w a0 len0 cap0 z0) (w11 : (Lit.int .i64 a1m1).wf = true) (w12 : (Lit.int .i64 a1w2).wf = true) (w13 : (Lit.int .i64 a1h3).wf = true) (w14 : IsRow .i64 w a1 len1 cap1 z1) :
    Calls Tryz.prog 4 #[.agg #[.bool a0t0, .int .i64 a0m1, .int .i64 a0w2, .int .i64 a0h3, .slice a0 len0 cap0], .agg #[.bool a1t0, .int .i64 a1m1, .int .i64 a1w2, .int .i64 a1h3, .slice a1 len1 cap1]] w fun e w' => e = .returned (.bool true) ∧ Below w.heap.size w w' := by
  obtain ⟨l1, l2, l3, l4⟩ := isrow_len w04
  obtain ⟨m1, m2, m3, m4⟩ := isrow_len w14
  have S0 := isrow_takeK w04 len0 (Nat.le_refl _)
  have S1 := isrow_takeK w14 len1 (Nat.le_refl _)
  have J0 : ∀ x ∈ z0.take len0, Nu.I x := fun x hx => wfI (isrow_wfK w04 x (List.mem_of_mem_take hx))
  have J1 : ∀ x ∈ z1.take len1, Nu.I x := fun x hx => wfI (isrow_wfK w14 x (List.mem_of_mem_take hx))
  have i01 := wfI w01; have i02 := wfI w02; have i03 := wfI w03; have i11 := wfI w11; have i12 := wfI w12; have i13 := wfI w13
  obtain ⟨C0, hC0⟩ : ∃ x, Im.chanV a0t0 = x := ⟨_, rfl⟩
  obtain ⟨D0, hD0⟩ : ∃ x, Im.formM a0m1 = x := ⟨_, rfl⟩
  have gw0 := goodW_in a0w2 8 (by omega)
  have gh0 := goodW_in a0h3 8 (by omega)
  obtain ⟨GW0, hGW0⟩ : ∃ x, goodW a0w2 8 = x := ⟨_, rfl⟩
  obtain ⟨GH0, hGH0⟩ : ∃ x, goodW a0h3 8 = x := ⟨_, rfl⟩
  have HG0 : Hid (∀ W', Below w.heap.size w W' → Calls Tryz.prog 10 #[.agg #[.bool a0t0, .int .i64 a0m1, .int .i64 a0w2, .int .i64 a0h3, .slice a0 len0 cap0], .int .i64 8] W' (ImGoodR C0 D0 GW0 GH0 W')) := Lib.hid fun W' hb => by
    have := refImGood_any a0t0 a0m1 a0w2 a0h3 8 a0 len0 cap0 (z0.take len0) i01 i02 i03 (by omega) (by omega) (by omega) W' (S0.below hb) J0
    rw [hC0, hD0, hGW0, hGH0] at this
    exact this
  unfold ImGoodR agI at HG0
  rw [hGW0] at gw0
  rw [hGH0] at gh0
  obtain ⟨C1, hC1⟩ : ∃ x, Im.chanV a0t0 = x := ⟨_, rfl⟩
  obtain ⟨D1, hD1⟩ : ∃ x, Im.formM a0m1 = x := ⟨_, rfl⟩
  have gw1 := goodW_in a1w2 2 (by omega)
  have gh1 := goodW_in a1h3 2 (by omega)
  obtain ⟨GW1, hGW1⟩ : ∃ x, goodW a1w2 2 = x := ⟨_, rfl⟩
  obtain ⟨GH1, hGH1⟩ : ∃ x, goodW a1h3 2 = x := ⟨_, rfl⟩
  have HG1 : Hid (∀ W', Below w.heap.size w W' → Calls Tryz.prog 10 #[.agg #[.bool a0t0, .int .i64 a0m1, .int .i64 a1w2, .int .i64 a1h3, .slice a1 len1 cap1], .int .i64 2] W' (ImGoodR C1 D1 GW1 GH1 W')) := Lib.hid fun W' hb => by
    have := refImGood_any a0t0 a0m1 a1w2 a1h3 2 a1 len1 cap1 (z1.take len1) i01 i12 i13 (by omega) (by omega) (by omega) W' (S1.below hb) J1
    rw [hC1, hD1, hGW1, hGH1] at this
    exact this
  unfold ImGoodR agI at HG1
  rw [hGW1] at gw1
  rw [hGH1] at gh1
  obtain rfl : C0 = C1 := hC0.symm.trans hC1
  obtain rfl : D0 = D1 := hD0.symm.trans hD1
  have hm01 := Im.form_at a0m1
  rw [hD0] at hm01
  have hB0 := box2 w (.cells #[.bool a0t0, .int .i64 a0m1, .int .i64 a0w2, .int .i64 a0h3, .slice a0 len0 cap0] 24) (.cells #[.bool a1t0, .int .i64 a1m1, .int .i64 a1w2, .int .i64 a1h3, .slice a1 len1 cap1] 24)
  obtain ⟨W2, hW2⟩ : ∃ W2, (w.alloc (.cells #[.bool a0t0, .int .i64 a0m1, .int .i64 a0w2, .int .i64 a0h3, .slice a0 len0 cap0] 24)).alloc (.cells #[.bool a1t0, .int .i64 a1m1, .int .i64 a1w2, .int .i64 a1h3, .slice a1 len1 cap1] 24) = W2 := ⟨_, rfl⟩
  have fA : Fv W2 w.heap.size 24 (.bool a0t0) (.int .i64 a0m1) (.int .i64 a0w2) (.int .i64 a0h3) (.slice a0 len0 cap0) := by rw [← hW2]; exact (Fv.new w _ _ _ _ _ _).later (box1 _ _)
  have fB : Fv W2 (w.heap.size + 1) 24 (.bool a1t0) (.int .i64 a1m1) (.int .i64 a1w2) (.int .i64 a1h3) (.slice a1 len1 cap1) := by
    rw [← hW2]
    have := Fv.new (w.alloc (.cells #[.bool a0t0, .int .i64 a0m1, .int .i64 a0w2, .int .i64 a0h3, .slice a0 len0 cap0] 24)) 24 (.bool a1t0) (.int .i64 a1m1) (.int .i64 a1w2) (.int .i64 a1h3) (.slice a1 len1 cap1)
    rwa [show (w.alloc (.cells #[.bool a0t0, .int .i64 a0m1, .int .i64 a0w2, .int .i64 a0h3, .slice a0 len0 cap0] 24)).heap.size = w.heap.size + 1 by simp] at this
  rw [hW2] at hB0
  have HB := Lib.hid hB0
  have FA := Lib.hid fA
  have FB := Lib.hid fB
  obtain ⟨x0, x1, x2, x3, x4⟩ := fA.cells
  clear S0 S1 J0 J1 i01 i02 i03 i11 i12 i13 hB0 fA fB w01 w02 w03 w04 w11 w12 w13 w14 hC0 hC1 hD0 hD1 hGW0 hGW1 hGH0 hGH1
  go_enter Tryz.func4, Tryz.ntmps4
  go_upto_region 1 with fail
  try rw [hW2]
  have hz2 : W2.heap.size = w.heap.size + 2 := by rw [← hW2]; simp
  clear hW2
  go_wp2_with fail
  refine (HG0.out _ HB.out).mono ?_
  rintro e w3 ⟨ad0, cp0, gs0, rfl, hgl0, hgp0, ho0, hc0, hd0, hb⟩
  have HO0 := Lib.hid ho0
  have hok0 := Im.good_ok (c := 0) (m := 0) (gw := 0) (gh := 0) (n := 0) (W := GW0) (H := GH0) (by omega) (by omega) hgl0
  have HOK0 := Lib.hid hok0
  obtain ⟨n0, hn0⟩ : ∃ k, gs0.length = k := ⟨_, rfl⟩
  have HN0 := Lib.hid hn0
  have HGP0 := Lib.hid hgp0
  have HC0 := Lib.hid hc0
  have HD0 := Lib.hid hd0
  rw [hn0]
  clear x0 x1 x2 x3 x4
  replace FA := Lib.hid (FA.out.later hb)
  replace FB := Lib.hid (FB.out.later hb)
  replace HB := Lib.hid (HB.out.trans (hb.mono HB.out.size))
  go_upto_region 2 with fail
  have X := Ib.new w3 33 C0 D0 GW0 GH0 (.slice ad0 n0 cp0)
  have hb4 := box1 w3 (.cells #[.int .i64 C0, .int .i64 D0, .int .i64 GW0, .int .i64 GH0, .slice ad0 n0 cp0] 33)
  obtain ⟨W4, hW4⟩ : ∃ W4, w3.alloc (.cells #[.int .i64 C0, .int .i64 D0, .int .i64 GW0, .int .i64 GH0, .slice ad0 n0 cp0] 33) = W4 := ⟨_, rfl⟩
  rw [hW4] at X hb4
  try rw [hW4]
  obtain ⟨mb, hmb⟩ : ∃ mb, w3.heap.size = mb := ⟨_, rfl⟩
  rw [hmb] at X
  try rw [hmb]
  have hmb2 : w.heap.size + 2 ≤ mb := by have := HB.out.size; have := hb.size; have := FB.out.lt; omega
  replace FA := Lib.hid (FA.out.later hb4)
  replace FB := Lib.hid (FB.out.later hb4)
  replace HO0 := Lib.hid (HO0.out.later hb4)
  replace HB := Lib.hid (HB.out.trans (hb4.mono HB.out.size))
  have HX := Lib.hid X
  clear hW4 hb4 X hb hmb
  obtain ⟨x0, x1, x2, x3, x4⟩ := FA.out.cells
  obtain ⟨y0, y1, y2, y3, y4⟩ := FB.out.cells
  obtain ⟨z0', z1', z2', z3', z4'⟩ := FB.out.fr
  go_upto_region 4 with fail
  have hbw : w.heap.size + 1 < W2.heap.size := by rw [hz2]; omega
  have HX0 := Lib.hid ((HX.out.far (a := ⟨w.heap.size + 1, 0, none⟩) (by simp; omega) (.bool a0t0)).far (a := ⟨w.heap.size + 1, 1, none⟩) (by simp; omega) (.int .i64 a0m1))
  replace FA := Lib.hid ((FA.out.far (a := ⟨w.heap.size + 1, 0, none⟩) (by simp) (.bool a0t0)).far (a := ⟨w.heap.size + 1, 1, none⟩) (by simp) (.int .i64 a0m1))
  replace FB := Lib.hid ((FB.out.set0 (.bool a0t0)).set1 (.int .i64 a0m1))
  replace HO0 := Lib.hid (ownK_set (ownK_set HO0.out (a := ⟨w.heap.size + 1, 0, none⟩) hbw (.bool a0t0)) (a := ⟨w.heap.size + 1, 1, none⟩) hbw (.int .i64 a0m1))
  replace HB := Lib.hid ((HB.out.setCell (p := ⟨w.heap.size + 1, 0, none⟩) (by simp) (.bool a0t0)).setCell (p := ⟨w.heap.size + 1, 1, none⟩) (by simp) (.int .i64 a0m1))
  obtain ⟨W5, hW5⟩ : ∃ W5, (W4.setCell ⟨w.heap.size + 1, 0, none⟩ (.bool a0t0)).setCell ⟨w.heap.size + 1, 1, none⟩ (.int .i64 a0m1) = W5 := ⟨_, rfl⟩
  rw [hW5] at HX0 FA FB HO0 HB
  try rw [hW5]
  have hz5 : w.heap.size + 1 < W5.heap.size := FB.out.lt
  clear hW5 HX x0 x1 x2 x3 x4 y0 y1 y2 y3 y4 z0' z1' z2' z3' z4'
  obtain ⟨y0, y1, y2, y3, y4⟩ := FB.out.cells
  go_wp2_with fail
  refine (HG1.out _ HB.out).mono ?_
  rintro e w6 ⟨ad1, cp1, gs1, rfl, hgl1, hgp1, ho1, hc1, hd1, hb⟩
  have HO1 := Lib.hid ho1
  have hok1 := Im.good_ok (c := 0) (m := 0) (gw := 0) (gh := 0) (n := 0) (W := GW1) (H := GH1) (by omega) (by omega) hgl1
  have HOK1 := Lib.hid hok1
  obtain ⟨n1, hn1⟩ : ∃ k, gs1.length = k := ⟨_, rfl⟩
  have HN1 := Lib.hid hn1
  have HGP1 := Lib.hid hgp1
  have HC1 := Lib.hid hc1
  have HD1 := Lib.hid hd1
  rw [hn1]
  clear y0 y1 y2 y3 y4
  replace FA := Lib.hid (FA.out.later hb)
  replace FB := Lib.hid (FB.out.later hb)
  replace HX0 := Lib.hid (HX0.out.later hb)
  replace HO0 := Lib.hid (HO0.out.later hb)
  replace HB := Lib.hid (HB.out.trans (hb.mono HB.out.size))
  go_upto_region 5 with fail
  have X := Ib.new w6 33 C0 D0 GW1 GH1 (.slice ad1 n1 cp1)
  have hb4 := box1 w6 (.cells #[.int .i64 C0, .int .i64 D0, .int .i64 GW1, .int .i64 GH1, .slice ad1 n1 cp1] 33)
  obtain ⟨W7, hW4⟩ : ∃ W4, w6.alloc (.cells #[.int .i64 C0, .int .i64 D0, .int .i64 GW1, .int .i64 GH1, .slice ad1 n1 cp1] 33) = W4 := ⟨_, rfl⟩
  rw [hW4] at X hb4
  try rw [hW4]
  obtain ⟨ob, hmb⟩ : ∃ mb, w6.heap.size = mb := ⟨_, rfl⟩
  rw [hmb] at X
  try rw [hmb]
  have hob : w.heap.size + 2 ≤ ob := by have := HB.out.size; have := hb.size; have := FB.out.lt; omega
  replace FA := Lib.hid (FA.out.later hb4)
  replace FB := Lib.hid (FB.out.later hb4)
  replace HX0 := Lib.hid (HX0.out.later hb4)
  replace HO0 := Lib.hid (HO0.out.later hb4)
  replace HO1 := Lib.hid (HO1.out.later hb4)
  replace HB := Lib.hid (HB.out.trans (hb4.mono HB.out.size))
  have HX1 := Lib.hid X
  clear hW4 hb4 X hb hmb ho1 hgp1 hgl1 hok1 hc1 hd1
  obtain ⟨y0, y1, y2, y3, y4⟩ := FB.out.cells
  obtain ⟨z0', z1', z2', z3', z4'⟩ := FB.out.fr
  have HB5 := Lib.hid HB.out
  obtain ⟨p0, o0, e0, hcl0⟩ := slk_pos (show SlK .u64 W7 ad0 n0 gs0 by have := HO0.out.sl; rwa [HN0.out] at this) (by have := (Im.n_pos HOK0.out (by omega) (by omega)).1; rw [HN0.out] at this; omega)
  obtain ⟨p1, o1, e1, hcl1⟩ := slk_pos (show SlK .u64 W7 ad1 n1 gs1 by have := HO1.out.sl; rwa [HN1.out] at this) (by have := (Im.n_pos HOK1.out (by omega) (by omega)).1; rw [HN1.out] at this; omega)
  subst e0
  subst e1
  have V0 := Lib.hid (show SlK .u64 W7 (some ⟨p0, o0, none⟩) n0 gs0 by have := HO0.out.sl; rwa [HN0.out] at this)
  have V1 := Lib.hid (show SlK .u64 W7 (some ⟨p1, o1, none⟩) n1 gs1 by have := HO1.out.sl; rwa [HN1.out] at this)
  have hn0b : 1 ≤ n0 ∧ n0 ≤ 81 := by have := Im.n_pos HOK0.out (by omega) (by omega); rwa [HN0.out] at this
  have hn1b : 1 ≤ n1 ∧ n1 ≤ 81 := by have := Im.n_pos HOK1.out (by omega) (by omega); rwa [HN1.out] at this
  obtain ⟨hn01, hn02⟩ := hn0b
  obtain ⟨hn11, hn12⟩ := hn1b
  obtain ⟨dm0, dm1⟩ := hm01
  have hta0 := Im.tn_all HGP0.out dm0 dm1
  have hta1 := Im.tn_all HGP1.out dm0 dm1
  have HMA0 := Lib.hid (Im.may_good HOK0.out HGP0.out dm0 dm1 HN0.out)
  have HMA1 := Lib.hid (Im.may_good HOK1.out HGP1.out dm0 dm1 HN1.out)
  have HOKt : Hid (Rc.Ok GW0 GH0 (gs0.map (Im.tn C0 D0))) := Lib.hid (by
    obtain ⟨q1, q2, q3, q4, q5, q6⟩ := HOK0.out
    exact ⟨q1, q2, q3, q4, q5, by rw [List.length_map]; exact q6⟩)
  have HOKu : Hid (Rc.Ok GW1 GH1 (gs1.map (Im.tn C0 D0))) := Lib.hid (by
    obtain ⟨q1, q2, q3, q4, q5, q6⟩ := HOK1.out
    exact ⟨q1, q2, q3, q4, q5, by rw [List.length_map]; exact q6⟩)
  have HMAt := Lib.hid (Im.may_good HOKt.out hta0.1 dm0 dm1 (Im.len_eq _ HN0.out))
  have HTA0 := Lib.hid hta0
  have HFT := Lib.hid (Im.find_turned (W := GW0) (H := GH0) (w := GW1) (h := GH1) HGP0.out HGP1.out dm0 dm1)
  have HPX := Lib.hid (fun (k : Nat) (hk : k < n0) => Im.tn_facts (HGP0.out (gs0.getD k 0) (by rw [List.getD_eq_getElem?_getD, List.getElem?_eq_getElem (by rw [HN0.out]; exact hk)]; exact List.getElem_mem _)) dm0 dm1)
  have HU0 := Lib.hid (Im.good_u HGP0.out)
  have HU1 := Lib.hid (Im.good_u HGP1.out)
  have HUt := Lib.hid (Im.good_u hta0.1)
  have HTU0 := Lib.hid (fun (W' : World) (hw : Below W7.heap.size W7 W') => imTurned_any C0 D0 GW0 GH0 p0 o0 n0 cp0 gs0 (by omega) hn01 HU0.out HMA0.out W' (V0.out.below hw))
  have HTU1 := Lib.hid (fun (W' : World) (hw : Below W7.heap.size W7 W') => imTurned_any C0 D0 GW1 GH1 p1 o1 n1 cp1 gs1 (by omega) hn11 HU1.out HMA1.out W' (V1.out.below hw))
  unfold agI at HTU0 HTU1
  have QO0 : Hid (∀ W2, Calls Tryz.prog 13 #[.agg #[.int .i64 C0, .int .i64 D0, .int .i64 GW0, .int .i64 GH0, .slice (some ⟨p0, o0, none⟩) n0 cp0]] W2 fun e w' => e = .returned (.agg #[.int .i64 C0, .int .i64 D0, .int .i64 GW0, .int .i64 GH0, .slice (some ⟨p0, o0, none⟩) n0 cp0]) ∧ Below W2.heap.size W2 w') := Lib.hid fun W2 => imOf_any _ _ _ _ _ _ _ _
  have QO1 : Hid (∀ W2, Calls Tryz.prog 13 #[.agg #[.int .i64 C0, .int .i64 D0, .int .i64 GW1, .int .i64 GH1, .slice (some ⟨p1, o1, none⟩) n1 cp1]] W2 fun e w' => e = .returned (.agg #[.int .i64 C0, .int .i64 D0, .int .i64 GW1, .int .i64 GH1, .slice (some ⟨p1, o1, none⟩) n1 cp1]) ∧ Below W2.heap.size W2 w') := Lib.hid fun W2 => imOf_any _ _ _ _ _ _ _ _
  clear hta0 hta1 hcl0 hcl1 HG0 HG1 HO0 HO1 FB y0 y1 y2 y3 y4 gw0 gh0 gw1 gh1 hmb2 hob hbw hz5 hz2 l1 l2 l3 l4 hn0 hn1 z0' z1' z2' z3' z4'
  obtain ⟨x0, x1, x2, x3, x4⟩ := HX0.out.cells
  go_upto_region 6 with (first
    | (go_at_call 13; refine (QO0.out _).mono ?_; rintro e u1 ⟨rfl, hb9⟩; have HQ1 := Lib.hid hb9; clear hb9)
    | (go_at_call 24; refine (HTU0.out _ HQ1.out).mono ?_; rintro e u2 ⟨g1, rfl, hs1, hb9⟩; have HS1 := Lib.hid hs1; have HQ2 := Lib.hid (bel_step HQ1.out hb9); clear hs1 hb9))
  clear x0 x1 x2 x3 x4
  have X := Ib.new u2 40 C0 D0 GW0 GH0 (.slice (some ⟨g1, 0, none⟩) n0 n0)
  have hba := box1 u2 (.cells #[.int .i64 C0, .int .i64 D0, .int .i64 GW0, .int .i64 GH0, .slice (some ⟨g1, 0, none⟩) n0 n0] 40)
  obtain ⟨WA, hV⟩ : ∃ V, u2.alloc (.cells #[.int .i64 C0, .int .i64 D0, .int .i64 GW0, .int .i64 GH0, .slice (some ⟨g1, 0, none⟩) n0 n0] 40) = V := ⟨_, rfl⟩
  rw [hV] at X hba
  try rw [hV]
  obtain ⟨tb, hblk⟩ : ∃ b, u2.heap.size = b := ⟨_, rfl⟩
  rw [hblk] at X
  try rw [hblk]
  have XT := Lib.hid X
  have HBA := Lib.hid (bel_step HQ2.out hba)
  have SA := Lib.hid (HS1.out.below hba)
  clear X hba hV hblk
  obtain ⟨x0, x1, x2, x3, x4⟩ := (HX1.out.later HBA.out).cells
  go_upto_region 7 with (first
    | (go_at_call 13; refine (QO1.out _).mono ?_; rintro e u3 ⟨rfl, hb9⟩; have HQ3 := Lib.hid (bel_step HBA.out hb9); have HQ3a := Lib.hid hb9; clear hb9)
    | (go_at_call 24; refine (HTU1.out _ HQ3.out).mono ?_; rintro e u4 ⟨g2, rfl, hs1, hb9⟩; have HS2 := Lib.hid hs1; have HQ4 := Lib.hid (bel_step HQ3.out hb9); have HQ4a := Lib.hid (bel_step HQ3a.out hb9); clear hs1 hb9))
  clear x0 x1 x2 x3 x4
  have X := Ib.new u4 40 C0 D0 GW1 GH1 (.slice (some ⟨g2, 0, none⟩) n1 n1)
  have hba := box1 u4 (.cells #[.int .i64 C0, .int .i64 D0, .int .i64 GW1, .int .i64 GH1, .slice (some ⟨g2, 0, none⟩) n1 n1] 40)
  obtain ⟨WB, hV⟩ : ∃ V, u4.alloc (.cells #[.int .i64 C0, .int .i64 D0, .int .i64 GW1, .int .i64 GH1, .slice (some ⟨g2, 0, none⟩) n1 n1] 40) = V := ⟨_, rfl⟩
  rw [hV] at X hba
  try rw [hV]
  obtain ⟨ub, hblk⟩ : ∃ b, u4.heap.size = b := ⟨_, rfl⟩
  rw [hblk] at X
  try rw [hblk]
  have XU := Lib.hid X
  have HBB := Lib.hid (bel_step HQ4.out hba)
  have HAB := Lib.hid (bel_step HQ4a.out hba)
  have SB := Lib.hid (HS2.out.below hba)
  clear X hba hV hblk
  have HTU2 := Lib.hid (fun (W' : World) (hw : Below WB.heap.size WB W') => imTurned_any C0 D0 GW0 GH0 g1 0 n0 n0 (gs0.map (Im.tn C0 D0)) (by omega) hn01 HUt.out HMAt.out W' (SA.out.below (bel_step HAB.out hw)))
  rw [HTA0.out.2] at HTU2
  unfold agI at HTU2
  obtain ⟨x0, x1, x2, x3, x4⟩ := (XT.out.later HAB.out).cells
  go_upto_region 8 with (go_at_call 24; refine (HTU2.out _ (Below.refl _ _)).mono ?_; rintro e u5 ⟨g3, rfl, hs1, hb9⟩; have HS3 := Lib.hid hs1; have HQ5 := Lib.hid hb9; clear hs1 hb9)
  clear x0 x1 x2 x3 x4
  have X := Ib.new u5 40 C0 D0 GW0 GH0 (.slice (some ⟨g3, 0, none⟩) n0 n0)
  have hba := box1 u5 (.cells #[.int .i64 C0, .int .i64 D0, .int .i64 GW0, .int .i64 GH0, .slice (some ⟨g3, 0, none⟩) n0 n0] 40)
  obtain ⟨V, hV⟩ : ∃ V, u5.alloc (.cells #[.int .i64 C0, .int .i64 D0, .int .i64 GW0, .int .i64 GH0, .slice (some ⟨g3, 0, none⟩) n0 n0] 40) = V := ⟨_, rfl⟩
  rw [hV] at X hba
  try rw [hV]
  obtain ⟨kb, hblk⟩ : ∃ b, u5.heap.size = b := ⟨_, rfl⟩
  rw [hblk] at X
  try rw [hblk]
  have XK := Lib.hid X
  have HBV := Lib.hid (bel_step HQ5.out hba)
  have SK3 := Lib.hid (HS3.out.below hba)
  clear X hba hV hblk
  have HV7 := Lib.hid (bel_step HBB.out HBV.out)
  have HVA := Lib.hid (bel_step HAB.out HBV.out)
  have XTv := Lib.hid (XT.out.later HVA.out)
  have XUv := Lib.hid (XU.out.later HBV.out)
  have XMv := Lib.hid (HX0.out.later HV7.out)
  have XOv := Lib.hid (HX1.out.later HV7.out)
  have SMv := Lib.hid (V0.out.below HV7.out)
  have SOv := Lib.hid (V1.out.below HV7.out)
  have STv := Lib.hid (SA.out.below HVA.out)
  have SUv := Lib.hid (SB.out.below HBV.out)
  clear XT XU HX0 HX1 V0 V1 SA SB HTU0 HTU1 HTU2 HMA0 HMA1 HMAt HU0 HU1 HUt HQ1 HQ2 HQ3 HQ3a HQ4 HQ4a HQ5 HS1 HS2 HS3 HAB HVA HBA HBB
  have hn09 : n0 ≤ 9223372036854775807 := by omega
  have QA : Hid (∀ W2, Calls Tryz.prog 21 #[.agg #[.int .i64 C0, .int .i64 D0, .int .i64 GW0, .int .i64 GH0, .slice (some ⟨g3, 0, none⟩) n0 n0]] W2 fun e w' => e = .returned (.agg #[.int .i64 C0, .int .i64 D0, .int .i64 GW0, .int .i64 GH0, .slice (some ⟨g3, 0, none⟩) n0 n0]) ∧ Below W2.heap.size W2 w') := Lib.hid fun W2 => imAs_any _ _ _ _ _ _ _ _
  have QS : Hid (∀ W2, Below V.heap.size V W2 → Calls Tryz.prog 20 #[.agg #[.int .i64 C0, .int .i64 D0, .int .i64 GW0, .int .i64 GH0, .slice (some ⟨g3, 0, none⟩) n0 n0], .agg #[.int .i64 C0, .int .i64 D0, .int .i64 GW0, .int .i64 GH0, .slice (some ⟨p0, o0, none⟩) n0 cp0]] W2 fun e w' => e = .returned (.bool true) ∧ Below W2.heap.size W2 w') := Lib.hid fun W2 hw => by
    have := refImSame_any C0 D0 GW0 GH0 C0 D0 GW0 GH0 (some ⟨g3, 0, none⟩) (some ⟨p0, o0, none⟩) n0 n0 n0 cp0 gs0 gs0 W2 hn09 (SK3.out.below hw) (SMv.out.below hw)
    rw [Im.same_self] at this
    exact this
  have enn : ((n0 : Int) != (n0 : Int)) = false := by simp
  go_upto_region 8 with fail
  have HS8 : Hid (∀ W', Below V.heap.size V W' → W'.cell? ⟨kb, 0, none⟩ = some (.int .i64 C0) ∧ W'.cell? ⟨kb, 1, none⟩ = some (.int .i64 D0) ∧ W'.cell? ⟨kb, 2, none⟩ = some (.int .i64 GW0) ∧ W'.cell? ⟨kb, 3, none⟩ = some (.int .i64 GH0) ∧ W'.cell? ⟨kb, 4, none⟩ = some (.slice (some ⟨g3, 0, none⟩) n0 n0) ∧ W'.cell? ⟨mb, 0, none⟩ = some (.int .i64 C0) ∧ W'.cell? ⟨mb, 1, none⟩ = some (.int .i64 D0) ∧ W'.cell? ⟨mb, 2, none⟩ = some (.int .i64 GW0) ∧ W'.cell? ⟨mb, 3, none⟩ = some (.int .i64 GH0) ∧ W'.cell? ⟨mb, 4, none⟩ = some (.slice (some ⟨p0, o0, none⟩) n0 cp0) ∧ W'.cell? ⟨tb, 4, none⟩ = some (.slice (some ⟨g1, 0, none⟩) n0 n0)) := Lib.hid (fun W' hw => by
    obtain ⟨a0, a1, a2, a3, a4⟩ := (XK.out.later hw).cells
    obtain ⟨b0, b1, b2, b3, b4⟩ := (XMv.out.later hw).cells
    exact ⟨a0, a1, a2, a3, a4, b0, b1, b2, b3, b4, (XTv.out.later hw).cells.2.2.2.2⟩)
  have hS : V.drew.cell? ⟨kb, 0, none⟩ = some (.int .i64 C0) ∧ V.drew.cell? ⟨kb, 1, none⟩ = some (.int .i64 D0) ∧ V.drew.cell? ⟨kb, 2, none⟩ = some (.int .i64 GW0) ∧ V.drew.cell? ⟨kb, 3, none⟩ = some (.int .i64 GH0) ∧ V.drew.cell? ⟨kb, 4, none⟩ = some (.slice (some ⟨g3, 0, none⟩) n0 n0) ∧ V.drew.cell? ⟨mb, 0, none⟩ = some (.int .i64 C0) ∧ V.drew.cell? ⟨mb, 1, none⟩ = some (.int .i64 D0) ∧ V.drew.cell? ⟨mb, 2, none⟩ = some (.int .i64 GW0) ∧ V.drew.cell? ⟨mb, 3, none⟩ = some (.int .i64 GH0) ∧ V.drew.cell? ⟨mb, 4, none⟩ = some (.slice (some ⟨p0, o0, none⟩) n0 cp0) ∧ V.drew.cell? ⟨tb, 4, none⟩ = some (.slice (some ⟨g1, 0, none⟩) n0 n0) := HS8.out _ (Below.refl _ _).drew
  refine wp_region_held_drew (S := fun w' => w'.cell? ⟨kb, 0, none⟩ = some (.int .i64 C0) ∧ w'.cell? ⟨kb, 1, none⟩ = some (.int .i64 D0) ∧ w'.cell? ⟨kb, 2, none⟩ = some (.int .i64 GW0) ∧ w'.cell? ⟨kb, 3, none⟩ = some (.int .i64 GH0) ∧ w'.cell? ⟨kb, 4, none⟩ = some (.slice (some ⟨g3, 0, none⟩) n0 n0) ∧ w'.cell? ⟨mb, 0, none⟩ = some (.int .i64 C0) ∧ w'.cell? ⟨mb, 1, none⟩ = some (.int .i64 D0) ∧ w'.cell? ⟨mb, 2, none⟩ = some (.int .i64 GW0) ∧ w'.cell? ⟨mb, 3, none⟩ = some (.int .i64 GH0) ∧ w'.cell? ⟨mb, 4, none⟩ = some (.slice (some ⟨p0, o0, none⟩) n0 cp0) ∧ w'.cell? ⟨tb, 4, none⟩ = some (.slice (some ⟨g1, 0, none⟩) n0 n0)) (by kernel_rfl) hS (fun _ => ?_)
  refine wpAnyH_take (i := 0) (v := .int .i64 0) rfl (by kernel_rfl) (by kernel_rfl) (by kernel_rfl) (fun _ _ _ h => h) (Or.inl ⟨by kernel_rfl, fun w9 hSw => ?_⟩) hS ?_
  · obtain ⟨s1, s2, s3, s4, s5, s6, s7, s8, s9, s10, s11⟩ := hSw
    go_simp
  change wpAnyH _ _ _ _ _ _ _ (Act.put _ (some 45) (.int .i64 0)) _
  (try simp only [Act.put, List.setIfInBounds_toArray, List.set_cons_zero, List.set_cons_succ])
  refine wpAnyH_take (i := 1) (v := .bool false) rfl (by kernel_rfl) (by kernel_rfl) (by kernel_rfl) (fun _ _ _ h => h) (Or.inl ⟨by kernel_rfl, fun w9 hSw => ?_⟩) hS ?_
  · obtain ⟨s1, s2, s3, s4, s5, s6, s7, s8, s9, s10, s11⟩ := hSw
    go_simp
  change wpAnyH _ _ _ _ _ _ _ (Act.put _ (some 46) (.bool false)) _
  (try simp only [Act.put, List.setIfInBounds_toArray, List.set_cons_zero, List.set_cons_succ])
  refine wpAnyH_take (i := 2) (v := .bool false) rfl (by kernel_rfl) (by kernel_rfl) (by kernel_rfl) (fun _ _ _ h => h) (Or.inl ⟨by kernel_rfl, fun w9 hSw => ?_⟩) hS ?_
  · obtain ⟨s1, s2, s3, s4, s5, s6, s7, s8, s9, s10, s11⟩ := hSw
    go_simp
  change wpAnyH _ _ _ _ _ _ _ (Act.put _ (some 47) (.bool false)) _
  (try simp only [Act.put, List.setIfInBounds_toArray, List.set_cons_zero, List.set_cons_succ])
  refine wpAnyH_take (i := 3) (v := .int .i64 0) rfl (by kernel_rfl) (by kernel_rfl) (by kernel_rfl) (fun _ _ _ h => h) (Or.inl ⟨by kernel_rfl, fun w9 hSw => ?_⟩) hS ?_
  · obtain ⟨s1, s2, s3, s4, s5, s6, s7, s8, s9, s10, s11⟩ := hSw
    go_simp
  change wpAnyH _ _ _ _ _ _ _ (Act.put _ (some 48) (.int .i64 0)) _
  (try simp only [Act.put, List.setIfInBounds_toArray, List.set_cons_zero, List.set_cons_succ])
  refine wpAnyH_take (i := 4) (v := .bool false) rfl (by kernel_rfl) (by kernel_rfl) (by kernel_rfl) (fun _ _ _ h => h) (Or.inl ⟨by kernel_rfl, fun w9 hSw => ?_⟩) hS ?_
  · obtain ⟨s1, s2, s3, s4, s5, s6, s7, s8, s9, s10, s11⟩ := hSw
    go_simp
  change wpAnyH _ _ _ _ _ _ _ (Act.put _ (some 49) (.bool false)) _
  (try simp only [Act.put, List.setIfInBounds_toArray, List.set_cons_zero, List.set_cons_succ])
  refine wpAnyH_take (i := 5) (v := .bool false) rfl (by kernel_rfl) (by kernel_rfl) (by kernel_rfl) (fun _ _ _ h => h) (Or.inl ⟨by kernel_rfl, fun w9 hSw => ?_⟩) hS ?_
  · obtain ⟨s1, s2, s3, s4, s5, s6, s7, s8, s9, s10, s11⟩ := hSw
    go_simp
  change wpAnyH _ _ _ _ _ _ _ (Act.put _ (some 50) (.bool false)) _
  (try simp only [Act.put, List.setIfInBounds_toArray, List.set_cons_zero, List.set_cons_succ])
  refine wpAnyH_take (i := 6) (v := .bool false) rfl (by kernel_rfl) (by kernel_rfl) (by kernel_rfl) (fun _ _ _ h => h) (Or.inl ⟨by kernel_rfl, fun w9 hSw => ?_⟩) hS ?_
  · obtain ⟨s1, s2, s3, s4, s5, s6, s7, s8, s9, s10, s11⟩ := hSw
    go_simp
  change wpAnyH _ _ _ _ _ _ _ (Act.put _ (some 51) (.bool false)) _
  (try simp only [Act.put, List.setIfInBounds_toArray, List.set_cons_zero, List.set_cons_succ])
  refine wpAnyH_take (i := 7) (v := .int .i64 0) rfl (by kernel_rfl) (by kernel_rfl) (by kernel_rfl) (fun _ _ _ h => h) (Or.inl ⟨by kernel_rfl, fun w9 hSw => ?_⟩) hS ?_
  · obtain ⟨s1, s2, s3, s4, s5, s6, s7, s8, s9, s10, s11⟩ := hSw
    go_simp
  change wpAnyH _ _ _ _ _ _ _ (Act.put _ (some 52) (.int .i64 0)) _
  (try simp only [Act.put, List.setIfInBounds_toArray, List.set_cons_zero, List.set_cons_succ])
  refine wpAnyH_take (i := 8) (v := .bool false) rfl (by kernel_rfl) (by kernel_rfl) (by kernel_rfl) (fun _ _ _ h => h) (Or.inl ⟨by kernel_rfl, fun w9 hSw => ?_⟩) hS ?_
  · obtain ⟨s1, s2, s3, s4, s5, s6, s7, s8, s9, s10, s11⟩ := hSw
    go_simp
  change wpAnyH _ _ _ _ _ _ _ (Act.put _ (some 53) (.bool false)) _
  (try simp only [Act.put, List.setIfInBounds_toArray, List.set_cons_zero, List.set_cons_succ])
  refine wpAnyH_take (i := 9) (v := .bool false) rfl (by kernel_rfl) (by kernel_rfl) (by kernel_rfl) (fun _ _ _ h => h) (Or.inl ⟨by kernel_rfl, fun w9 hSw => ?_⟩) hS ?_
  · obtain ⟨s1, s2, s3, s4, s5, s6, s7, s8, s9, s10, s11⟩ := hSw
    go_simp
  change wpAnyH _ _ _ _ _ _ _ (Act.put _ (some 54) (.bool false)) _
  (try simp only [Act.put, List.setIfInBounds_toArray, List.set_cons_zero, List.set_cons_succ])
  refine wpAnyH_take (i := 10) (v := .bool false) rfl (by kernel_rfl) (by kernel_rfl) (by kernel_rfl) (fun _ _ _ h => h) (Or.inl ⟨by kernel_rfl, fun w9 hSw => ?_⟩) hS ?_
  · obtain ⟨s1, s2, s3, s4, s5, s6, s7, s8, s9, s10, s11⟩ := hSw
    go_simp
  change wpAnyH _ _ _ _ _ _ _ (Act.put _ (some 55) (.bool false)) _
  (try simp only [Act.put, List.setIfInBounds_toArray, List.set_cons_zero, List.set_cons_succ])
  refine wpAnyH_take (i := 11) (v := .agg #[.int .i64 C0, .int .i64 D0, .int .i64 GW0, .int .i64 GH0, .slice (some ⟨g3, 0, none⟩) n0 n0]) rfl (by kernel_rfl) (by kernel_rfl) (by kernel_rfl) (fun _ _ _ h => h) (Or.inl ⟨by kernel_rfl, fun w9 hSw => ?_⟩) hS ?_
  · obtain ⟨s1, s2, s3, s4, s5, s6, s7, s8, s9, s10, s11⟩ := hSw
    go_simp
  change wpAnyH _ _ _ _ _ _ _ (Act.put _ (some 56) (.agg #[.int .i64 C0, .int .i64 D0, .int .i64 GW0, .int .i64 GH0, .slice (some ⟨g3, 0, none⟩) n0 n0])) _
  (try simp only [Act.put, List.setIfInBounds_toArray, List.set_cons_zero, List.set_cons_succ])
  refine wpAnyH_take (i := 13) (v := .agg #[.int .i64 C0, .int .i64 D0, .int .i64 GW0, .int .i64 GH0, .slice (some ⟨p0, o0, none⟩) n0 cp0]) rfl (by kernel_rfl) (by kernel_rfl) (by kernel_rfl) (fun _ _ _ h => h) (Or.inl ⟨by kernel_rfl, fun w9 hSw => ?_⟩) hS ?_
  · obtain ⟨s1, s2, s3, s4, s5, s6, s7, s8, s9, s10, s11⟩ := hSw
    go_simp
  change wpAnyH _ _ _ _ _ _ _ (Act.put _ (some 58) (.agg #[.int .i64 C0, .int .i64 D0, .int .i64 GW0, .int .i64 GH0, .slice (some ⟨p0, o0, none⟩) n0 cp0])) _
  (try simp only [Act.put, List.setIfInBounds_toArray, List.set_cons_zero, List.set_cons_succ])
  refine wpAnyH_ready (rs := [12]) (by kernel_rfl) (by simp) ?_
  refine AllReadyH.cons rfl (fun K hK => ?_) AllReadyH.nil
  go_simp
  refine (QA.out _).mono ?_
  rintro e v1 ⟨rfl, hbb⟩
  have HY1 := Lib.hid (bel_und hbb)
  have hS2 := HS8.out _ HY1.out
  clear hS hbb
  have hS := hS2
  clear hS2
  refine hK.out _ _ hS (fun _ => ?_)
  clear hK K
  (try simp only [Act.put, List.setIfInBounds_toArray, List.set_cons_zero, List.set_cons_succ])
  refine wpAnyH_ready (rs := [14]) (by kernel_rfl) (by simp) ?_
  refine AllReadyH.cons rfl (fun K hK => ?_) AllReadyH.nil
  go_simp
  refine (QS.out _ HY1.out).mono ?_
  rintro e v2 ⟨rfl, hbb⟩
  have HY2 := Lib.hid (bel_step HY1.out hbb)
  have hS2 := HS8.out _ HY2.out
  clear hS hbb
  have hS := hS2
  clear hS2
  refine hK.out _ _ hS (fun _ => ?_)
  clear hK K
  (try simp only [Act.put, List.setIfInBounds_toArray, List.set_cons_zero, List.set_cons_succ])
  refine wpAnyH_take (i := 15) (v := .bool false) rfl (by kernel_rfl) (by kernel_rfl) (by kernel_rfl) (fun _ _ _ h => h) (Or.inl ⟨by kernel_rfl, fun w9 hSw => ?_⟩) hS ?_
  · obtain ⟨s1, s2, s3, s4, s5, s6, s7, s8, s9, s10, s11⟩ := hSw
    go_simp
  change wpAnyH _ _ _ _ _ _ _ (Act.put _ (some 60) (.bool false)) _
  (try simp only [Act.put, List.setIfInBounds_toArray, List.set_cons_zero, List.set_cons_succ])
  refine wpAnyH_take (i := 16) (v := .bool false) rfl (by kernel_rfl) (by kernel_rfl) (by kernel_rfl) (fun _ _ _ h => h) (Or.inl ⟨by kernel_rfl, fun w9 hSw => ?_⟩) hS ?_
  · obtain ⟨s1, s2, s3, s4, s5, s6, s7, s8, s9, s10, s11⟩ := hSw
    go_simp
  change wpAnyH _ _ _ _ _ _ _ (Act.put _ (some 61) (.bool false)) _
  (try simp only [Act.put, List.setIfInBounds_toArray, List.set_cons_zero, List.set_cons_succ])
  refine wpAnyH_take (i := 17) (v := .bool false) rfl (by kernel_rfl) (by kernel_rfl) (by kernel_rfl) (fun _ _ _ h => h) (Or.inl ⟨by kernel_rfl, fun w9 hSw => ?_⟩) hS ?_
  · obtain ⟨s1, s2, s3, s4, s5, s6, s7, s8, s9, s10, s11⟩ := hSw
    go_simp
  change wpAnyH _ _ _ _ _ _ _ (Act.put _ (some 62) (.bool false)) _
  (try simp only [Act.put, List.setIfInBounds_toArray, List.set_cons_zero, List.set_cons_succ])
  refine wpAnyH_take (i := 18) (v := .pointer (some ⟨tb, 2, none⟩)) rfl (by kernel_rfl) (by kernel_rfl) (by kernel_rfl) (fun _ _ _ h => h) (Or.inl ⟨by kernel_rfl, fun w9 hSw => ?_⟩) hS ?_
  · obtain ⟨s1, s2, s3, s4, s5, s6, s7, s8, s9, s10, s11⟩ := hSw
    go_simp
  change wpAnyH _ _ _ _ _ _ _ (Act.put _ (some 63) (.pointer (some ⟨tb, 2, none⟩))) _
  (try simp only [Act.put, List.setIfInBounds_toArray, List.set_cons_zero, List.set_cons_succ])
  refine wpAnyH_take (i := 19) (v := .pointer (some ⟨tb, 4, none⟩)) rfl (by kernel_rfl) (by kernel_rfl) (by kernel_rfl) (fun _ _ _ h => h) (Or.inl ⟨by kernel_rfl, fun w9 hSw => ?_⟩) hS ?_
  · obtain ⟨s1, s2, s3, s4, s5, s6, s7, s8, s9, s10, s11⟩ := hSw
    go_simp
  change wpAnyH _ _ _ _ _ _ _ (Act.put _ (some 64) (.pointer (some ⟨tb, 4, none⟩))) _
  (try simp only [Act.put, List.setIfInBounds_toArray, List.set_cons_zero, List.set_cons_succ])
  refine wpAnyH_take (i := 20) (v := .slice (some ⟨g1, 0, none⟩) n0 n0) rfl (by kernel_rfl) (by kernel_rfl) (by kernel_rfl) (fun _ _ _ h => h) (Or.inl ⟨by kernel_rfl, fun w9 hSw => ?_⟩) hS ?_
  · obtain ⟨s1, s2, s3, s4, s5, s6, s7, s8, s9, s10, s11⟩ := hSw
    go_simp
  change wpAnyH _ _ _ _ _ _ _ (Act.put _ (some 65) (.slice (some ⟨g1, 0, none⟩) n0 n0)) _
  (try simp only [Act.put, List.setIfInBounds_toArray, List.set_cons_zero, List.set_cons_succ])
  refine wpAnyH_take (i := 21) (v := .int .i64 (n0 : Int)) rfl (by kernel_rfl) (by kernel_rfl) (by kernel_rfl) (fun _ _ _ h => h) (Or.inl ⟨by kernel_rfl, fun w9 hSw => ?_⟩) hS ?_
  · obtain ⟨s1, s2, s3, s4, s5, s6, s7, s8, s9, s10, s11⟩ := hSw
    go_simp
  change wpAnyH _ _ _ _ _ _ _ (Act.put _ (some 66) (.int .i64 (n0 : Int))) _
  (try simp only [Act.put, List.setIfInBounds_toArray, List.set_cons_zero, List.set_cons_succ])
  refine wpAnyH_take (i := 22) (v := .pointer (some ⟨mb, 2, none⟩)) rfl (by kernel_rfl) (by kernel_rfl) (by kernel_rfl) (fun _ _ _ h => h) (Or.inl ⟨by kernel_rfl, fun w9 hSw => ?_⟩) hS ?_
  · obtain ⟨s1, s2, s3, s4, s5, s6, s7, s8, s9, s10, s11⟩ := hSw
    go_simp
  change wpAnyH _ _ _ _ _ _ _ (Act.put _ (some 67) (.pointer (some ⟨mb, 2, none⟩))) _
  (try simp only [Act.put, List.setIfInBounds_toArray, List.set_cons_zero, List.set_cons_succ])
  refine wpAnyH_take (i := 23) (v := .pointer (some ⟨mb, 4, none⟩)) rfl (by kernel_rfl) (by kernel_rfl) (by kernel_rfl) (fun _ _ _ h => h) (Or.inl ⟨by kernel_rfl, fun w9 hSw => ?_⟩) hS ?_
  · obtain ⟨s1, s2, s3, s4, s5, s6, s7, s8, s9, s10, s11⟩ := hSw
    go_simp
  change wpAnyH _ _ _ _ _ _ _ (Act.put _ (some 68) (.pointer (some ⟨mb, 4, none⟩))) _
  (try simp only [Act.put, List.setIfInBounds_toArray, List.set_cons_zero, List.set_cons_succ])
  refine wpAnyH_take (i := 24) (v := .slice (some ⟨p0, o0, none⟩) n0 cp0) rfl (by kernel_rfl) (by kernel_rfl) (by kernel_rfl) (fun _ _ _ h => h) (Or.inl ⟨by kernel_rfl, fun w9 hSw => ?_⟩) hS ?_
  · obtain ⟨s1, s2, s3, s4, s5, s6, s7, s8, s9, s10, s11⟩ := hSw
    go_simp
  change wpAnyH _ _ _ _ _ _ _ (Act.put _ (some 69) (.slice (some ⟨p0, o0, none⟩) n0 cp0)) _
  (try simp only [Act.put, List.setIfInBounds_toArray, List.set_cons_zero, List.set_cons_succ])
  refine wpAnyH_take (i := 25) (v := .int .i64 (n0 : Int)) rfl (by kernel_rfl) (by kernel_rfl) (by kernel_rfl) (fun _ _ _ h => h) (Or.inl ⟨by kernel_rfl, fun w9 hSw => ?_⟩) hS ?_
  · obtain ⟨s1, s2, s3, s4, s5, s6, s7, s8, s9, s10, s11⟩ := hSw
    go_simp
  change wpAnyH _ _ _ _ _ _ _ (Act.put _ (some 70) (.int .i64 (n0 : Int))) _
  (try simp only [Act.put, List.setIfInBounds_toArray, List.set_cons_zero, List.set_cons_succ])
  refine wpAnyH_take (i := 26) (v := .bool false) rfl (by kernel_rfl) (by kernel_rfl) (by kernel_rfl) (fun _ _ _ h => h) (Or.inl ⟨by kernel_rfl, fun w9 hSw => ?_⟩) hS ?_
  · obtain ⟨s1, s2, s3, s4, s5, s6, s7, s8, s9, s10, s11⟩ := hSw
    go_simp
  change wpAnyH _ _ _ _ _ _ _ (Act.put _ (some 71) (.bool false)) _
  (try simp only [Act.put, List.setIfInBounds_toArray, List.set_cons_zero, List.set_cons_succ])
  refine wpAnyH_take (i := 27) (v := .bool false) rfl (by kernel_rfl) (by kernel_rfl) (by kernel_rfl) (fun _ _ _ h => h) (Or.inl ⟨by kernel_rfl, fun w9 hSw => ?_⟩) hS ?_
  · obtain ⟨s1, s2, s3, s4, s5, s6, s7, s8, s9, s10, s11⟩ := hSw
    go_simp
  change wpAnyH _ _ _ _ _ _ _ (Act.put _ (some 72) (.bool false)) _
  (try simp only [Act.put, List.setIfInBounds_toArray, List.set_cons_zero, List.set_cons_succ])
  refine wpAnyH_done (by kernel_rfl) ?_ _
  (try simp only [Act.put, List.setIfInBounds_toArray, List.set_cons_zero, List.set_cons_succ])
  clear hS
  have QT : Hid (∀ (p : Int) (W2 : World), Pq.Px.U p → Calls Tryz.prog 25 #[.int .u64 p, .agg #[.int .i64 C0, .int .i64 D0]] W2 fun e w' => e = .returned (.tuple #[.int .u64 (Pq.Px.turnedV p C0 D0).1, .int .i64 (Pq.Px.turnedV p C0 D0).2]) ∧ Below W2.heap.size W2 w') := Lib.hid fun p W2 hu => Pq.refTurned_any p C0 D0 hu W2
  have HUM := Lib.hid (Im.good_u HGP0.out)
  obtain ⟨b0, b1, b2, b3, b4⟩ := (XMv.out.later HY2.out).cells
  go_wp2_with fail
  go_loopw [13] (fun s13 wr => ∃ k : Nat, k ≤ n0 ∧ s13 = .int .i64 k ∧ Below V.heap.size V wr) (fun s13 _ => n0 - (intOf s13).toNat)
  case atStart => exact ⟨0, by omega, rfl, HY2.out⟩
  case round =>
    clear b0 b1 b2 b3 b4
    obtain ⟨k, hk, rfl, hb⟩ := hrel
    have HB9 := Lib.hid hb
    clear hb
    obtain ⟨b0, b1, b2, b3, b4⟩ := (XMv.out.later HB9.out).cells
    by_cases hkt : k < n0
    · have hktI : (k : Int) < (n0 : Int) := by omega
      have hk0 : (0 : Int) ≤ (k : Int) := Int.natCast_nonneg _
      obtain ⟨t1, t2, t3, t4⟩ := HPX.out k hkt
      obtain ⟨q1, q2, qe, hcm⟩ := slk_pos (SMv.out.below HB9.out) (by omega)
      injection qe with qe
      injection qe with qe1 qe2 qe3
      subst qe1
      subst qe2
      have hcmk := hcm k hkt
      obtain ⟨q3, q4, qf, hct⟩ := slk_pos (STv.out.below HB9.out) (by omega)
      injection qf with qf
      injection qf with qf1 qf2 qf3
      subst qf1
      subst qf2
      have hctk := hct k hkt
      rw [Nat.zero_add, show (gs0.map (Im.tn C0 D0)).getD k 0 = Im.tn C0 D0 (gs0.getD k 0) by rw [List.getD_eq_getElem?_getD, List.getD_eq_getElem?_getD, List.getElem?_map, List.getElem?_eq_getElem (by rw [HN0.out]; exact hkt)]; rfl] at hctk
      have hup : Pq.Px.U (gs0.getD k 0) := HUM.out _ (by rw [List.getD_eq_getElem?_getD, List.getElem?_eq_getElem (by rw [HN0.out]; exact hkt)]; exact List.getElem_mem _)
      obtain ⟨p, hp⟩ : ∃ p, gs0.getD k 0 = p := ⟨_, rfl⟩
      rw [hp] at t1 hcmk hctk hup
      have HTP := Lib.hid (fun (W2 : World) => QT.out p W2 hup)
      rw [t1] at HTP
      obtain ⟨y, hy⟩ : ∃ y, Im.tn C0 D0 p = y := ⟨_, rfl⟩
      rw [hy] at HTP hctk
      have HCM := Lib.hid (fun (W' : World) (hw : Below wr.heap.size wr W') => cell_later hw hcmk)
      have HCT := Lib.hid (fun (W' : World) (hw : Below wr.heap.size wr W') => cell_later hw hctk)
      have eyy : (y != y) = false := by simp
      clear t1 t2 t3 t4 hcm hct hcmk hctk hup hp hy
      go_upto_region 13 with fail
      have HS13 : Hid (∀ W', Below wr.heap.size wr W' → W'.cell? ⟨mb, 0, none⟩ = some (.int .i64 C0) ∧ W'.cell? ⟨mb, 1, none⟩ = some (.int .i64 D0) ∧ W'.cell? ⟨mb, 2, none⟩ = some (.int .i64 GW0) ∧ W'.cell? ⟨mb, 3, none⟩ = some (.int .i64 GH0) ∧ W'.cell? ⟨mb, 4, none⟩ = some (.slice (some ⟨p0, o0, none⟩) n0 cp0) ∧ W'.cell? ⟨p0, o0 + k, none⟩ = some (.int .u64 p)) := Lib.hid (fun W' hw => by
        obtain ⟨b0, b1, b2, b3, b4⟩ := (XMv.out.later (bel_step HB9.out hw)).cells
        exact ⟨b0, b1, b2, b3, b4, HCM.out W' hw⟩)
      have hS : wr.drew.cell? ⟨mb, 0, none⟩ = some (.int .i64 C0) ∧ wr.drew.cell? ⟨mb, 1, none⟩ = some (.int .i64 D0) ∧ wr.drew.cell? ⟨mb, 2, none⟩ = some (.int .i64 GW0) ∧ wr.drew.cell? ⟨mb, 3, none⟩ = some (.int .i64 GH0) ∧ wr.drew.cell? ⟨mb, 4, none⟩ = some (.slice (some ⟨p0, o0, none⟩) n0 cp0) ∧ wr.drew.cell? ⟨p0, o0 + k, none⟩ = some (.int .u64 p) := HS13.out _ (Below.refl _ _).drew
      refine wp_region_held_drew (S := fun w' => w'.cell? ⟨mb, 0, none⟩ = some (.int .i64 C0) ∧ w'.cell? ⟨mb, 1, none⟩ = some (.int .i64 D0) ∧ w'.cell? ⟨mb, 2, none⟩ = some (.int .i64 GW0) ∧ w'.cell? ⟨mb, 3, none⟩ = some (.int .i64 GH0) ∧ w'.cell? ⟨mb, 4, none⟩ = some (.slice (some ⟨p0, o0, none⟩) n0 cp0) ∧ w'.cell? ⟨p0, o0 + k, none⟩ = some (.int .u64 p)) (by kernel_rfl) hS (fun _ => ?_)
      refine wpAnyH_take (i := 0) (v := .pointer (some ⟨mb, 2, none⟩)) rfl (by kernel_rfl) (by kernel_rfl) (by kernel_rfl) (fun _ _ _ h => h) (Or.inl ⟨by kernel_rfl, fun w9 hSw => ?_⟩) hS ?_
      · obtain ⟨s1, s2, s3, s4, s5, s6⟩ := hSw
        go_simp
      change wpAnyH _ _ _ _ _ _ _ (Act.put _ (some 82) (.pointer (some ⟨mb, 2, none⟩))) _
      (try simp only [Act.put, List.setIfInBounds_toArray, List.set_cons_zero, List.set_cons_succ])
      refine wpAnyH_take (i := 1) (v := .pointer (some ⟨mb, 4, none⟩)) rfl (by kernel_rfl) (by kernel_rfl) (by kernel_rfl) (fun _ _ _ h => h) (Or.inl ⟨by kernel_rfl, fun w9 hSw => ?_⟩) hS ?_
      · obtain ⟨s1, s2, s3, s4, s5, s6⟩ := hSw
        go_simp
      change wpAnyH _ _ _ _ _ _ _ (Act.put _ (some 83) (.pointer (some ⟨mb, 4, none⟩))) _
      (try simp only [Act.put, List.setIfInBounds_toArray, List.set_cons_zero, List.set_cons_succ])
      refine wpAnyH_take (i := 2) (v := .slice (some ⟨p0, o0, none⟩) n0 cp0) rfl (by kernel_rfl) (by kernel_rfl) (by kernel_rfl) (fun _ _ _ h => h) (Or.inl ⟨by kernel_rfl, fun w9 hSw => ?_⟩) hS ?_
      · obtain ⟨s1, s2, s3, s4, s5, s6⟩ := hSw
        go_simp
      change wpAnyH _ _ _ _ _ _ _ (Act.put _ (some 84) (.slice (some ⟨p0, o0, none⟩) n0 cp0)) _
      (try simp only [Act.put, List.setIfInBounds_toArray, List.set_cons_zero, List.set_cons_succ])
      refine wpAnyH_take (i := 3) (v := .int .i64 (k : Int)) rfl (by kernel_rfl) (by kernel_rfl) (by kernel_rfl) (fun _ _ _ h => h) (Or.inl ⟨by kernel_rfl, fun w9 hSw => ?_⟩) hS ?_
      · obtain ⟨s1, s2, s3, s4, s5, s6⟩ := hSw
        go_simp
      change wpAnyH _ _ _ _ _ _ _ (Act.put _ (some 85) (.int .i64 (k : Int))) _
      (try simp only [Act.put, List.setIfInBounds_toArray, List.set_cons_zero, List.set_cons_succ])
      refine wpAnyH_take (i := 4) (v := .pointer (some ⟨p0, o0 + k, none⟩)) rfl (by kernel_rfl) (by kernel_rfl) (by kernel_rfl) (fun _ _ _ h => h) (Or.inl ⟨by kernel_rfl, fun w9 hSw => ?_⟩) hS ?_
      · obtain ⟨s1, s2, s3, s4, s5, s6⟩ := hSw
        go_simp
      change wpAnyH _ _ _ _ _ _ _ (Act.put _ (some 86) (.pointer (some ⟨p0, o0 + k, none⟩))) _
      (try simp only [Act.put, List.setIfInBounds_toArray, List.set_cons_zero, List.set_cons_succ])
      refine wpAnyH_take (i := 5) (v := .int .u64 p) rfl (by kernel_rfl) (by kernel_rfl) (by kernel_rfl) (fun _ _ _ h => h) (Or.inl ⟨by kernel_rfl, fun w9 hSw => ?_⟩) hS ?_
      · obtain ⟨s1, s2, s3, s4, s5, s6⟩ := hSw
        go_simp
      change wpAnyH _ _ _ _ _ _ _ (Act.put _ (some 87) (.int .u64 p)) _
      (try simp only [Act.put, List.setIfInBounds_toArray, List.set_cons_zero, List.set_cons_succ])
      refine wpAnyH_take (i := 6) (v := .pointer (some ⟨mb, 0, none⟩)) rfl (by kernel_rfl) (by kernel_rfl) (by kernel_rfl) (fun _ _ _ h => h) (Or.inl ⟨by kernel_rfl, fun w9 hSw => ?_⟩) hS ?_
      · obtain ⟨s1, s2, s3, s4, s5, s6⟩ := hSw
        go_simp
      change wpAnyH _ _ _ _ _ _ _ (Act.put _ (some 88) (.pointer (some ⟨mb, 0, none⟩))) _
      (try simp only [Act.put, List.setIfInBounds_toArray, List.set_cons_zero, List.set_cons_succ])
      refine wpAnyH_take (i := 7) (v := .agg #[.int .i64 C0, .int .i64 D0]) rfl (by kernel_rfl) (by kernel_rfl) (by kernel_rfl) (fun _ _ _ h => h) (Or.inl ⟨by kernel_rfl, fun w9 hSw => ?_⟩) hS ?_
      · obtain ⟨s1, s2, s3, s4, s5, s6⟩ := hSw
        go_simp
      change wpAnyH _ _ _ _ _ _ _ (Act.put _ (some 89) (.agg #[.int .i64 C0, .int .i64 D0])) _
      (try simp only [Act.put, List.setIfInBounds_toArray, List.set_cons_zero, List.set_cons_succ])
      refine wpAnyH_ready (rs := [8]) (by kernel_rfl) (by simp) ?_
      refine AllReadyH.cons rfl (fun K hK => ?_) AllReadyH.nil
      go_simp
      refine (HTP.out _).mono ?_
      rintro e v3 ⟨rfl, hbb⟩
      have HY3 := Lib.hid (bel_und hbb)
      have hS2 := HS13.out _ HY3.out
      clear hS hbb
      have hS := hS2
      clear hS2
      refine hK.out _ _ hS (fun _ => ?_)
      clear hK K
      refine wpAnyH_take (i := 9) (v := .tuple #[.int .u64 y, .int .i64 0]) rfl (by kernel_rfl) (by kernel_rfl) (by kernel_rfl) (fun _ _ _ h => h) (Or.inl ⟨by kernel_rfl, fun w9 hSw => ?_⟩) hS ?_
      · obtain ⟨s1, s2, s3, s4, s5, s6⟩ := hSw
        go_simp
      change wpAnyH _ _ _ _ _ _ _ (Act.put _ (some 81) (.tuple #[.int .u64 y, .int .i64 0])) _
      (try simp only [Act.put, List.setIfInBounds_toArray, List.set_cons_zero, List.set_cons_succ])
      refine wpAnyH_take (i := 10) (v := .int .u64 y) rfl (by kernel_rfl) (by kernel_rfl) (by kernel_rfl) (fun _ _ _ h => h) (Or.inl ⟨by kernel_rfl, fun w9 hSw => ?_⟩) hS ?_
      · obtain ⟨s1, s2, s3, s4, s5, s6⟩ := hSw
        go_simp
      change wpAnyH _ _ _ _ _ _ _ (Act.put _ (some 91) (.int .u64 y)) _
      (try simp only [Act.put, List.setIfInBounds_toArray, List.set_cons_zero, List.set_cons_succ])
      refine wpAnyH_take (i := 11) (v := .int .i64 0) rfl (by kernel_rfl) (by kernel_rfl) (by kernel_rfl) (fun _ _ _ h => h) (Or.inl ⟨by kernel_rfl, fun w9 hSw => ?_⟩) hS ?_
      · obtain ⟨s1, s2, s3, s4, s5, s6⟩ := hSw
        go_simp
      change wpAnyH _ _ _ _ _ _ _ (Act.put _ (some 92) (.int .i64 0)) _
      (try simp only [Act.put, List.setIfInBounds_toArray, List.set_cons_zero, List.set_cons_succ])
      refine wpAnyH_take (i := 12) (v := .int .u64 y) rfl (by kernel_rfl) (by kernel_rfl) (by kernel_rfl) (fun _ _ _ h => h) (Or.inl ⟨by kernel_rfl, fun w9 hSw => ?_⟩) hS ?_
      · obtain ⟨s1, s2, s3, s4, s5, s6⟩ := hSw
        go_simp
      change wpAnyH _ _ _ _ _ _ _ (Act.put _ (some 14) (.int .u64 y)) _
      (try simp only [Act.put, List.setIfInBounds_toArray, List.set_cons_zero, List.set_cons_succ])
      refine wpAnyH_take (i := 13) (v := .int .i64 0) rfl (by kernel_rfl) (by kernel_rfl) (by kernel_rfl) (fun _ _ _ h => h) (Or.inl ⟨by kernel_rfl, fun w9 hSw => ?_⟩) hS ?_
      · obtain ⟨s1, s2, s3, s4, s5, s6⟩ := hSw
        go_simp
      change wpAnyH _ _ _ _ _ _ _ (Act.put _ (some 15) (.int .i64 0)) _
      (try simp only [Act.put, List.setIfInBounds_toArray, List.set_cons_zero, List.set_cons_succ])
      refine wpAnyH_done (by kernel_rfl) ?_ _
      (try simp only [Act.put, List.setIfInBounds_toArray, List.set_cons_zero, List.set_cons_succ])
      clear hS
      have ct := HCT.out _ HY3.out
      have ct4 := (XTv.out.later (bel_step HB9.out HY3.out)).cells.2.2.2.2
      clear b0 b1 b2 b3 b4
      go_wp2_with fail
      go_roundw
      case rel => exact ⟨k + 1, by omega, by go_num, bel_step HB9.out HY3.out⟩
      case measure => simp [intOf]; omega
    · obtain rfl : k = n0 := by omega
      have hktI : ¬ (k : Int) < (k : Int) := by omega
      go_upto_region 17 with (go_at_call 24; refine (imTurned_zero _).mono ?_; rintro e u6 ⟨rfl, hb9⟩; have HQ6 := Lib.hid (bel_step HB9.out hb9); clear hb9)
      obtain ⟨W6, hW6⟩ : ∃ W6, u6.alloc (.cells #[.int .i64 0, .int .i64 0, .int .i64 0, .int .i64 0, .slice none 0 0] 40) = W6 := ⟨_, rfl⟩
      have hb6 := box1 u6 (.cells #[.int .i64 0, .int .i64 0, .int .i64 0, .int .i64 0, .slice none 0 0] 40)
      rw [hW6] at hb6
      try rw [hW6]
      have HV6 := Lib.hid (bel_step HQ6.out hb6)
      clear hW6 hb6 b0 b1 b2 b3 b4
      have HF1 : Hid (∀ W', Below W6.heap.size W6 W' → Calls Tryz.prog 26 #[.agg #[.int .i64 C0, .int .i64 D0, .int .i64 GW0, .int .i64 GH0, .slice (some ⟨g1, 0, none⟩) k k], .agg #[.int .i64 C0, .int .i64 D0, .int .i64 GW1, .int .i64 GH1, .slice (some ⟨g2, 0, none⟩) n1 n1]] W' (ImFindR (Im.findV C0 D0 GW0 GH0 gs0 C0 D0 GW1 GH1 gs1) W')) := Lib.hid fun W' hw => by
        have e1 : (gs0.map (Im.tn C0 D0)).length = k := Im.len_eq _ HN0.out
        have e2 : (gs1.map (Im.tn C0 D0)).length = n1 := Im.len_eq _ HN1.out
        have := imFind_any C0 D0 GW0 GH0 C0 D0 GW1 GH1 (some ⟨g1, 0, none⟩) (some ⟨g2, 0, none⟩) k n1 (gs0.map (Im.tn C0 D0)) (gs1.map (Im.tn C0 D0)) HOKt.out HOKu.out (by omega) (by omega) (by omega) (by omega) W' (by rw [e1]; exact STv.out.below (bel_step HV6.out hw)) (by rw [e2]; exact SUv.out.below (bel_step HV6.out hw))
        rw [e1, e2, HFT.out] at this
        exact this
      have HF2 : Hid (∀ W', Below W6.heap.size W6 W' → Calls Tryz.prog 27 #[.agg #[.int .i64 C0, .int .i64 D0, .int .i64 GW0, .int .i64 GH0, .slice (some ⟨p0, o0, none⟩) k cp0], .agg #[.int .i64 C0, .int .i64 D0, .int .i64 GW1, .int .i64 GH1, .slice (some ⟨p1, o1, none⟩) n1 cp1]] W' (ImFindR (Im.findV C0 D0 GW0 GH0 gs0 C0 D0 GW1 GH1 gs1) W')) := Lib.hid fun W' hw => by
        have := refImFind_any C0 D0 GW0 GH0 C0 D0 GW1 GH1 (some ⟨p0, o0, none⟩) (some ⟨p1, o1, none⟩) cp0 cp1 gs0 gs1 HOK0.out HOK1.out HC0.out HD0.out HC1.out HD1.out W' (by rw [HN0.out]; exact SMv.out.below (bel_step HV6.out hw)) (by rw [HN1.out]; exact SOv.out.below (bel_step HV6.out hw))
        rw [HN0.out, HN1.out] at this
        exact this
      obtain ⟨FF, hFF⟩ : ∃ F, Im.findV C0 D0 GW0 GH0 gs0 C0 D0 GW1 GH1 gs1 = F := ⟨_, rfl⟩
      rw [hFF] at HF1 HF2
      unfold ImFindR at HF1 HF2
      obtain ⟨nF, hnF⟩ : ∃ n, FF.length = n := ⟨_, rfl⟩
      rw [hnF] at HF1 HF2
      have eFF : ((nF : Int) == (nF : Int)) = true := by simp
      clear hFF hnF
      have HS17 : Hid (∀ W', Below W6.heap.size W6 W' → W'.cell? ⟨tb, 0, none⟩ = some (.int .i64 C0) ∧ W'.cell? ⟨tb, 1, none⟩ = some (.int .i64 D0) ∧ W'.cell? ⟨tb, 2, none⟩ = some (.int .i64 GW0) ∧ W'.cell? ⟨tb, 3, none⟩ = some (.int .i64 GH0) ∧ W'.cell? ⟨tb, 4, none⟩ = some (.slice (some ⟨g1, 0, none⟩) k k) ∧ W'.cell? ⟨ub, 0, none⟩ = some (.int .i64 C0) ∧ W'.cell? ⟨ub, 1, none⟩ = some (.int .i64 D0) ∧ W'.cell? ⟨ub, 2, none⟩ = some (.int .i64 GW1) ∧ W'.cell? ⟨ub, 3, none⟩ = some (.int .i64 GH1) ∧ W'.cell? ⟨ub, 4, none⟩ = some (.slice (some ⟨g2, 0, none⟩) n1 n1) ∧ W'.cell? ⟨mb, 0, none⟩ = some (.int .i64 C0) ∧ W'.cell? ⟨mb, 1, none⟩ = some (.int .i64 D0) ∧ W'.cell? ⟨mb, 2, none⟩ = some (.int .i64 GW0) ∧ W'.cell? ⟨mb, 3, none⟩ = some (.int .i64 GH0) ∧ W'.cell? ⟨mb, 4, none⟩ = some (.slice (some ⟨p0, o0, none⟩) k cp0) ∧ W'.cell? ⟨ob, 0, none⟩ = some (.int .i64 C0) ∧ W'.cell? ⟨ob, 1, none⟩ = some (.int .i64 D0) ∧ W'.cell? ⟨ob, 2, none⟩ = some (.int .i64 GW1) ∧ W'.cell? ⟨ob, 3, none⟩ = some (.int .i64 GH1) ∧ W'.cell? ⟨ob, 4, none⟩ = some (.slice (some ⟨p1, o1, none⟩) n1 cp1)) := Lib.hid (fun W' hw => by
        obtain ⟨a0, a1, a2, a3, a4⟩ := (XTv.out.later (bel_step HV6.out hw)).cells
        obtain ⟨b0, b1, b2, b3, b4⟩ := (XUv.out.later (bel_step HV6.out hw)).cells
        obtain ⟨c0, c1, c2, c3, c4⟩ := (XMv.out.later (bel_step HV6.out hw)).cells
        obtain ⟨d0, d1, d2, d3, d4⟩ := (XOv.out.later (bel_step HV6.out hw)).cells
        exact ⟨a0, a1, a2, a3, a4, b0, b1, b2, b3, b4, c0, c1, c2, c3, c4, d0, d1, d2, d3, d4⟩)
      have hS : W6.drew.cell? ⟨tb, 0, none⟩ = some (.int .i64 C0) ∧ W6.drew.cell? ⟨tb, 1, none⟩ = some (.int .i64 D0) ∧ W6.drew.cell? ⟨tb, 2, none⟩ = some (.int .i64 GW0) ∧ W6.drew.cell? ⟨tb, 3, none⟩ = some (.int .i64 GH0) ∧ W6.drew.cell? ⟨tb, 4, none⟩ = some (.slice (some ⟨g1, 0, none⟩) k k) ∧ W6.drew.cell? ⟨ub, 0, none⟩ = some (.int .i64 C0) ∧ W6.drew.cell? ⟨ub, 1, none⟩ = some (.int .i64 D0) ∧ W6.drew.cell? ⟨ub, 2, none⟩ = some (.int .i64 GW1) ∧ W6.drew.cell? ⟨ub, 3, none⟩ = some (.int .i64 GH1) ∧ W6.drew.cell? ⟨ub, 4, none⟩ = some (.slice (some ⟨g2, 0, none⟩) n1 n1) ∧ W6.drew.cell? ⟨mb, 0, none⟩ = some (.int .i64 C0) ∧ W6.drew.cell? ⟨mb, 1, none⟩ = some (.int .i64 D0) ∧ W6.drew.cell? ⟨mb, 2, none⟩ = some (.int .i64 GW0) ∧ W6.drew.cell? ⟨mb, 3, none⟩ = some (.int .i64 GH0) ∧ W6.drew.cell? ⟨mb, 4, none⟩ = some (.slice (some ⟨p0, o0, none⟩) k cp0) ∧ W6.drew.cell? ⟨ob, 0, none⟩ = some (.int .i64 C0) ∧ W6.drew.cell? ⟨ob, 1, none⟩ = some (.int .i64 D0) ∧ W6.drew.cell? ⟨ob, 2, none⟩ = some (.int .i64 GW1) ∧ W6.drew.cell? ⟨ob, 3, none⟩ = some (.int .i64 GH1) ∧ W6.drew.cell? ⟨ob, 4, none⟩ = some (.slice (some ⟨p1, o1, none⟩) n1 cp1) := HS17.out _ (Below.refl _ _).drew
      refine wp_region_held_drew (S := fun w' => w'.cell? ⟨tb, 0, none⟩ = some (.int .i64 C0) ∧ w'.cell? ⟨tb, 1, none⟩ = some (.int .i64 D0) ∧ w'.cell? ⟨tb, 2, none⟩ = some (.int .i64 GW0) ∧ w'.cell? ⟨tb, 3, none⟩ = some (.int .i64 GH0) ∧ w'.cell? ⟨tb, 4, none⟩ = some (.slice (some ⟨g1, 0, none⟩) k k) ∧ w'.cell? ⟨ub, 0, none⟩ = some (.int .i64 C0) ∧ w'.cell? ⟨ub, 1, none⟩ = some (.int .i64 D0) ∧ w'.cell? ⟨ub, 2, none⟩ = some (.int .i64 GW1) ∧ w'.cell? ⟨ub, 3, none⟩ = some (.int .i64 GH1) ∧ w'.cell? ⟨ub, 4, none⟩ = some (.slice (some ⟨g2, 0, none⟩) n1 n1) ∧ w'.cell? ⟨mb, 0, none⟩ = some (.int .i64 C0) ∧ w'.cell? ⟨mb, 1, none⟩ = some (.int .i64 D0) ∧ w'.cell? ⟨mb, 2, none⟩ = some (.int .i64 GW0) ∧ w'.cell? ⟨mb, 3, none⟩ = some (.int .i64 GH0) ∧ w'.cell? ⟨mb, 4, none⟩ = some (.slice (some ⟨p0, o0, none⟩) k cp0) ∧ w'.cell? ⟨ob, 0, none⟩ = some (.int .i64 C0) ∧ w'.cell? ⟨ob, 1, none⟩ = some (.int .i64 D0) ∧ w'.cell? ⟨ob, 2, none⟩ = some (.int .i64 GW1) ∧ w'.cell? ⟨ob, 3, none⟩ = some (.int .i64 GH1) ∧ w'.cell? ⟨ob, 4, none⟩ = some (.slice (some ⟨p1, o1, none⟩) n1 cp1)) (by kernel_rfl) hS (fun _ => ?_)
      refine wpAnyH_take (i := 0) (v := .agg #[.int .i64 C0, .int .i64 D0, .int .i64 GW0, .int .i64 GH0, .slice (some ⟨g1, 0, none⟩) k k]) rfl (by kernel_rfl) (by kernel_rfl) (by kernel_rfl) (fun _ _ _ h => h) (Or.inl ⟨by kernel_rfl, fun w9 hSw => ?_⟩) hS ?_
      · obtain ⟨s1, s2, s3, s4, s5, s6, s7, s8, s9, s10, s11, s12, s13, s14, s15, s16, s17, s18, s19, s20⟩ := hSw
        go_simp
      change wpAnyH _ _ _ _ _ _ _ (Act.put _ (some 106) (.agg #[.int .i64 C0, .int .i64 D0, .int .i64 GW0, .int .i64 GH0, .slice (some ⟨g1, 0, none⟩) k k])) _
      (try simp only [Act.put, List.setIfInBounds_toArray, List.set_cons_zero, List.set_cons_succ])
      refine wpAnyH_take (i := 1) (v := .agg #[.int .i64 C0, .int .i64 D0, .int .i64 GW1, .int .i64 GH1, .slice (some ⟨g2, 0, none⟩) n1 n1]) rfl (by kernel_rfl) (by kernel_rfl) (by kernel_rfl) (fun _ _ _ h => h) (Or.inl ⟨by kernel_rfl, fun w9 hSw => ?_⟩) hS ?_
      · obtain ⟨s1, s2, s3, s4, s5, s6, s7, s8, s9, s10, s11, s12, s13, s14, s15, s16, s17, s18, s19, s20⟩ := hSw
        go_simp
      change wpAnyH _ _ _ _ _ _ _ (Act.put _ (some 107) (.agg #[.int .i64 C0, .int .i64 D0, .int .i64 GW1, .int .i64 GH1, .slice (some ⟨g2, 0, none⟩) n1 n1])) _
      (try simp only [Act.put, List.setIfInBounds_toArray, List.set_cons_zero, List.set_cons_succ])
      refine wpAnyH_take (i := 4) (v := .agg #[.int .i64 C0, .int .i64 D0, .int .i64 GW0, .int .i64 GH0, .slice (some ⟨p0, o0, none⟩) k cp0]) rfl (by kernel_rfl) (by kernel_rfl) (by kernel_rfl) (fun _ _ _ h => h) (Or.inl ⟨by kernel_rfl, fun w9 hSw => ?_⟩) hS ?_
      · obtain ⟨s1, s2, s3, s4, s5, s6, s7, s8, s9, s10, s11, s12, s13, s14, s15, s16, s17, s18, s19, s20⟩ := hSw
        go_simp
      change wpAnyH _ _ _ _ _ _ _ (Act.put _ (some 110) (.agg #[.int .i64 C0, .int .i64 D0, .int .i64 GW0, .int .i64 GH0, .slice (some ⟨p0, o0, none⟩) k cp0])) _
      (try simp only [Act.put, List.setIfInBounds_toArray, List.set_cons_zero, List.set_cons_succ])
      refine wpAnyH_take (i := 5) (v := .agg #[.int .i64 C0, .int .i64 D0, .int .i64 GW1, .int .i64 GH1, .slice (some ⟨p1, o1, none⟩) n1 cp1]) rfl (by kernel_rfl) (by kernel_rfl) (by kernel_rfl) (fun _ _ _ h => h) (Or.inl ⟨by kernel_rfl, fun w9 hSw => ?_⟩) hS ?_
      · obtain ⟨s1, s2, s3, s4, s5, s6, s7, s8, s9, s10, s11, s12, s13, s14, s15, s16, s17, s18, s19, s20⟩ := hSw
        go_simp
      change wpAnyH _ _ _ _ _ _ _ (Act.put _ (some 111) (.agg #[.int .i64 C0, .int .i64 D0, .int .i64 GW1, .int .i64 GH1, .slice (some ⟨p1, o1, none⟩) n1 cp1])) _
      (try simp only [Act.put, List.setIfInBounds_toArray, List.set_cons_zero, List.set_cons_succ])
      refine wpAnyH_ready (rs := [2]) (by kernel_rfl) (by simp) ?_
      refine AllReadyH.cons rfl (fun K hK => ?_) AllReadyH.nil
      go_simp
      refine (HF1.out _ (Below.refl _ _).drew).mono ?_
      rintro e v4 ⟨vv, rfl, hof, hbb⟩
      obtain ⟨fa1, fc1, rfl⟩ := ownsRow_val hof
      clear hof
      have HY4 := Lib.hid (bel_und hbb)
      have hS2 := HS17.out _ HY4.out
      clear hS hbb
      have hS := hS2
      clear hS2
      refine hK.out _ _ hS (fun _ => ?_)
      clear hK K
      (try simp only [Act.put, List.setIfInBounds_toArray, List.set_cons_zero, List.set_cons_succ])
      refine wpAnyH_take (i := 3) (v := .int .i64 (nF : Int)) rfl (by kernel_rfl) (by kernel_rfl) (by kernel_rfl) (fun _ _ _ h => h) (Or.inl ⟨by kernel_rfl, fun w9 hSw => ?_⟩) hS ?_
      · obtain ⟨s1, s2, s3, s4, s5, s6, s7, s8, s9, s10, s11, s12, s13, s14, s15, s16, s17, s18, s19, s20⟩ := hSw
        go_simp
      change wpAnyH _ _ _ _ _ _ _ (Act.put _ (some 109) (.int .i64 (nF : Int))) _
      (try simp only [Act.put, List.setIfInBounds_toArray, List.set_cons_zero, List.set_cons_succ])
      refine wpAnyH_ready (rs := [6]) (by kernel_rfl) (by simp) ?_
      refine AllReadyH.cons rfl (fun K hK => ?_) AllReadyH.nil
      go_simp
      refine (HF2.out _ HY4.out).mono ?_
      rintro e v5 ⟨vv, rfl, hof, hbb⟩
      obtain ⟨fa2, fc2, rfl⟩ := ownsRow_val hof
      clear hof
      have HY5 := Lib.hid (bel_step HY4.out hbb)
      have hS2 := HS17.out _ HY5.out
      clear hS hbb
      have hS := hS2
      clear hS2
      refine hK.out _ _ hS (fun _ => ?_)
      clear hK K
      (try simp only [Act.put, List.setIfInBounds_toArray, List.set_cons_zero, List.set_cons_succ])
      refine wpAnyH_take (i := 7) (v := .int .i64 (nF : Int)) rfl (by kernel_rfl) (by kernel_rfl) (by kernel_rfl) (fun _ _ _ h => h) (Or.inl ⟨by kernel_rfl, fun w9 hSw => ?_⟩) hS ?_
      · obtain ⟨s1, s2, s3, s4, s5, s6, s7, s8, s9, s10, s11, s12, s13, s14, s15, s16, s17, s18, s19, s20⟩ := hSw
        go_simp
      change wpAnyH _ _ _ _ _ _ _ (Act.put _ (some 113) (.int .i64 (nF : Int))) _
      (try simp only [Act.put, List.setIfInBounds_toArray, List.set_cons_zero, List.set_cons_succ])
      refine wpAnyH_take (i := 8) (v := .bool true) rfl (by kernel_rfl) (by kernel_rfl) (by kernel_rfl) (fun _ _ _ h => h) (Or.inl ⟨by kernel_rfl, fun w9 hSw => ?_⟩) hS ?_
      · obtain ⟨s1, s2, s3, s4, s5, s6, s7, s8, s9, s10, s11, s12, s13, s14, s15, s16, s17, s18, s19, s20⟩ := hSw
        go_simp
      change wpAnyH _ _ _ _ _ _ _ (Act.put _ (some 114) (.bool true)) _
      (try simp only [Act.put, List.setIfInBounds_toArray, List.set_cons_zero, List.set_cons_succ])
      refine wpAnyH_take (i := 9) (v := .bool true) rfl (by kernel_rfl) (by kernel_rfl) (by kernel_rfl) (fun _ _ _ h => h) (Or.inl ⟨by kernel_rfl, fun w9 hSw => ?_⟩) hS ?_
      · obtain ⟨s1, s2, s3, s4, s5, s6, s7, s8, s9, s10, s11, s12, s13, s14, s15, s16, s17, s18, s19, s20⟩ := hSw
        go_simp
      change wpAnyH _ _ _ _ _ _ _ (Act.put _ (some 115) (.bool true)) _
      (try simp only [Act.put, List.setIfInBounds_toArray, List.set_cons_zero, List.set_cons_succ])
      refine wpAnyH_take (i := 10) (v := .int .i64 1) rfl (by kernel_rfl) (by kernel_rfl) (by kernel_rfl) (fun _ _ _ h => h) (Or.inl ⟨by kernel_rfl, fun w9 hSw => ?_⟩) hS ?_
      · obtain ⟨s1, s2, s3, s4, s5, s6, s7, s8, s9, s10, s11, s12, s13, s14, s15, s16, s17, s18, s19, s20⟩ := hSw
        go_simp
      change wpAnyH _ _ _ _ _ _ _ (Act.put _ (some 116) (.int .i64 1)) _
      (try simp only [Act.put, List.setIfInBounds_toArray, List.set_cons_zero, List.set_cons_succ])
      refine wpAnyH_take (i := 11) (v := .bool true) rfl (by kernel_rfl) (by kernel_rfl) (by kernel_rfl) (fun _ _ _ h => h) (Or.inl ⟨by kernel_rfl, fun w9 hSw => ?_⟩) hS ?_
      · obtain ⟨s1, s2, s3, s4, s5, s6, s7, s8, s9, s10, s11, s12, s13, s14, s15, s16, s17, s18, s19, s20⟩ := hSw
        go_simp
      change wpAnyH _ _ _ _ _ _ _ (Act.put _ (some 117) (.bool true)) _
      (try simp only [Act.put, List.setIfInBounds_toArray, List.set_cons_zero, List.set_cons_succ])
      refine wpAnyH_take (i := 12) (v := .bool true) rfl (by kernel_rfl) (by kernel_rfl) (by kernel_rfl) (fun _ _ _ h => h) (Or.inl ⟨by kernel_rfl, fun w9 hSw => ?_⟩) hS ?_
      · obtain ⟨s1, s2, s3, s4, s5, s6, s7, s8, s9, s10, s11, s12, s13, s14, s15, s16, s17, s18, s19, s20⟩ := hSw
        go_simp
      change wpAnyH _ _ _ _ _ _ _ (Act.put _ (some 118) (.bool true)) _
      (try simp only [Act.put, List.setIfInBounds_toArray, List.set_cons_zero, List.set_cons_succ])
      refine wpAnyH_take (i := 13) (v := .bool true) rfl (by kernel_rfl) (by kernel_rfl) (by kernel_rfl) (fun _ _ _ h => h) (Or.inl ⟨by kernel_rfl, fun w9 hSw => ?_⟩) hS ?_
      · obtain ⟨s1, s2, s3, s4, s5, s6, s7, s8, s9, s10, s11, s12, s13, s14, s15, s16, s17, s18, s19, s20⟩ := hSw
        go_simp
      change wpAnyH _ _ _ _ _ _ _ (Act.put _ (some 119) (.bool true)) _
      (try simp only [Act.put, List.setIfInBounds_toArray, List.set_cons_zero, List.set_cons_succ])
      refine wpAnyH_ready (rs := [14]) (by kernel_rfl) (by simp) ?_
      refine AllReadyH.cons rfl (fun K hK => ?_) AllReadyH.nil
      go_simp
      refine (lives10_any _).mono ?_
      rintro e v6 ⟨rfl, hbb⟩
      have HY6 := Lib.hid (bel_step HY5.out hbb)
      have hS2 := HS17.out _ HY6.out
      clear hS hbb
      have hS := hS2
      clear hS2
      refine hK.out _ _ hS (fun _ => ?_)
      clear hK K
      (try simp only [Act.put, List.setIfInBounds_toArray, List.set_cons_zero, List.set_cons_succ])
      refine wpAnyH_take (i := 15) (v := .bool true) rfl (by kernel_rfl) (by kernel_rfl) (by kernel_rfl) (fun _ _ _ h => h) (Or.inl ⟨by kernel_rfl, fun w9 hSw => ?_⟩) hS ?_
      · obtain ⟨s1, s2, s3, s4, s5, s6, s7, s8, s9, s10, s11, s12, s13, s14, s15, s16, s17, s18, s19, s20⟩ := hSw
        go_simp
      change wpAnyH _ _ _ _ _ _ _ (Act.put _ (some 121) (.bool true)) _
      (try simp only [Act.put, List.setIfInBounds_toArray, List.set_cons_zero, List.set_cons_succ])
      refine wpAnyH_take (i := 16) (v := .bool true) rfl (by kernel_rfl) (by kernel_rfl) (by kernel_rfl) (fun _ _ _ h => h) (Or.inl ⟨by kernel_rfl, fun w9 hSw => ?_⟩) hS ?_
      · obtain ⟨s1, s2, s3, s4, s5, s6, s7, s8, s9, s10, s11, s12, s13, s14, s15, s16, s17, s18, s19, s20⟩ := hSw
        go_simp
      change wpAnyH _ _ _ _ _ _ _ (Act.put _ (some 4) (.bool true)) _
      (try simp only [Act.put, List.setIfInBounds_toArray, List.set_cons_zero, List.set_cons_succ])
      refine wpAnyH_done (by kernel_rfl) ?_ _
      (try simp only [Act.put, List.setIfInBounds_toArray, List.set_cons_zero, List.set_cons_succ])
      go_wp2_with fail
      go_ret
      exact ⟨rfl, HB5.out.trans ((bel_step HV7.out (bel_step HV6.out HY6.out)).mono HB5.out.size)⟩
end Go.Proofs.YtmnhiagppicegaaGreat
