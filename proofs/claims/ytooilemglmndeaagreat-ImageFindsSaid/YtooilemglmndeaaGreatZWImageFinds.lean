/- ImageFinds: where an image is in another one is the document's: the walk of the law. No condition. -/
import Derived.Test.YtooilemglmndeaaGreatZImG
import Derived.Test.YtooilemglmndeaaGreatZImL
import Derived.Test.YtooilemglmndeaaGreatZgAD
import Derived.Test.YtooilemglmndeaaGreatZgAB
import Derived.Deep.RegionHeld3
import Derived.Deep.DeepCutAuto
import Derived.BigQuiet
namespace Go.Proofs.YtooilemglmndeaaGreat
set_option linter.unusedVariables false
open Go.RowKit
set_option maxRecDepth 100000 in
set_option maxHeartbeats 8000000 in
theorem imageFinds_walk (a0t0 : Bool) (a0m1 : Int) (a0w2 : Int) (a0h3 : Int) (a0 : Option Addr) (len0 cap0 : Nat) (z0 : List Int) (a1t0 : Bool) (a1m1 : Int) (a1w2 : Int) (a1h3 : Int) (a1 : Option Addr) (len1 cap1 : Nat) (z1 : List Int) (w : World) (w01 : (Lit.int .i64 a0m1).wf = true) (w02 : (Lit.int .i64 a0w2).wf = true) (w03 : (Lit.int .i64 a0h3).wf = true) (w04 : IsRow .i64 w a0 len0 cap0 z0) (w11 : (Lit.int .i64 a1m1).wf = true) (w12 : (Lit.int .i64 a1w2).wf = true) (w13 : (Lit.int .i64 a1h3).wf = true) (w14 : IsRow .i64 w a1 len1 cap1 z1) :
    Calls Tryz.prog 6 #[.agg #[.bool a0t0, .int .i64 a0m1, .int .i64 a0w2, .int .i64 a0h3, .slice a0 len0 cap0], .agg #[.bool a1t0, .int .i64 a1m1, .int .i64 a1w2, .int .i64 a1h3, .slice a1 len1 cap1]] w fun e w' => e = .returned (.bool true) ∧ Below w.heap.size w w' := by
  obtain ⟨l1, l2, l3, l4⟩ := isrow_len w04
  obtain ⟨m1, m2, m3, m4⟩ := isrow_len w14
  have S0 := isrow_takeK w04 len0 (Nat.le_refl _)
  have S1 := isrow_takeK w14 len1 (Nat.le_refl _)
  have J0 : ∀ x ∈ z0.take len0, Nu.I x := fun x hx => wfI (isrow_wfK w04 x (List.mem_of_mem_take hx))
  have J1 : ∀ x ∈ z1.take len1, Nu.I x := fun x hx => wfI (isrow_wfK w14 x (List.mem_of_mem_take hx))
  have i01 := wfI w01; have i02 := wfI w02; have i03 := wfI w03; have i11 := wfI w11; have i12 := wfI w12; have i13 := wfI w13
  have hmp : ∃ mp : Int, IntKind.i64.wrap ((IntKind.i64.wrap (a0m1.tmod 5)) + 1) = mp ∧ IntKind.i64.wrap (a0m1.tmod 5 + 1) = mp ∧ a0m1.tmod 5 + 1 = mp ∧ Nu.I mp := by
    have h1 := Int.tmod_lt_of_pos a0m1 (by omega : (0 : Int) < 5)
    have h2 : -5 < a0m1.tmod 5 := Int.lt_tmod_of_pos a0m1 (by omega)
    refine ⟨a0m1.tmod 5 + 1, ?_, ?_, rfl, ?_⟩
    · have e : IntKind.i64.wrap (a0m1.tmod 5) = a0m1.tmod 5 := by rw [IntWalk.i64_in] <;> omega
      rw [e, IntWalk.i64_in] <;> omega
    · rw [IntWalk.i64_in] <;> omega
    · unfold Nu.I; omega
  obtain ⟨mp, hmp1, hmp2, hmp3, hmpI⟩ := hmp

  obtain ⟨C0, hC0⟩ : ∃ x, Im.chanV a0t0 = x := ⟨_, rfl⟩
  obtain ⟨D0, hD0⟩ : ∃ x, Im.formM a0m1 = x := ⟨_, rfl⟩
  have gw0 := goodW_in a0w2 8 (by omega)
  have gh0 := goodW_in a0h3 8 (by omega)
  obtain ⟨GW0, hGW0⟩ : ∃ x, goodW a0w2 8 = x := ⟨_, rfl⟩
  obtain ⟨GH0, hGH0⟩ : ∃ x, goodW a0h3 8 = x := ⟨_, rfl⟩
  have HG0 : Hid (∀ W', Below w.heap.size w W' → Calls Tryz.prog 14 #[.agg #[.bool a0t0, .int .i64 a0m1, .int .i64 a0w2, .int .i64 a0h3, .slice a0 len0 cap0], .int .i64 8] W' (ImGoodR C0 D0 GW0 GH0 W')) := Lib.hid fun W' hb => by
    have := refImGood_any a0t0 a0m1 a0w2 a0h3 8 a0 len0 cap0 (z0.take len0) i01 i02 i03 (by omega) (by omega) (by omega) W' (S0.below hb) J0
    rw [hC0, hD0, hGW0, hGH0] at this
    exact this
  unfold ImGoodR agI at HG0
  rw [hGW0] at gw0
  rw [hGH0] at gh0
  obtain ⟨C1, hC1⟩ : ∃ x, Im.chanV a0t0 = x := ⟨_, rfl⟩
  obtain ⟨D1, hD1⟩ : ∃ x, Im.formM a0m1 = x := ⟨_, rfl⟩
  have gw1 := goodW_in a1w2 3 (by omega)
  have gh1 := goodW_in a1h3 3 (by omega)
  obtain ⟨GW1, hGW1⟩ : ∃ x, goodW a1w2 3 = x := ⟨_, rfl⟩
  obtain ⟨GH1, hGH1⟩ : ∃ x, goodW a1h3 3 = x := ⟨_, rfl⟩
  have HG1 : Hid (∀ W', Below w.heap.size w W' → Calls Tryz.prog 14 #[.agg #[.bool a0t0, .int .i64 a0m1, .int .i64 a1w2, .int .i64 a1h3, .slice a1 len1 cap1], .int .i64 3] W' (ImGoodR C1 D1 GW1 GH1 W')) := Lib.hid fun W' hb => by
    have := refImGood_any a0t0 a0m1 a1w2 a1h3 3 a1 len1 cap1 (z1.take len1) i01 i12 i13 (by omega) (by omega) (by omega) W' (S1.below hb) J1
    rw [hC1, hD1, hGW1, hGH1] at this
    exact this
  unfold ImGoodR agI at HG1
  rw [hGW1] at gw1
  rw [hGH1] at gh1
  obtain ⟨C2, hC2⟩ : ∃ x, Im.chanV a0t0 = x := ⟨_, rfl⟩
  obtain ⟨D2, hD2⟩ : ∃ x, Im.formM mp = x := ⟨_, rfl⟩
  have gw2 := goodW_in a1w2 3 (by omega)
  have gh2 := goodW_in a1h3 3 (by omega)
  obtain ⟨GW2, hGW2⟩ : ∃ x, goodW a1w2 3 = x := ⟨_, rfl⟩
  obtain ⟨GH2, hGH2⟩ : ∃ x, goodW a1h3 3 = x := ⟨_, rfl⟩
  have HG2 : Hid (∀ W', Below w.heap.size w W' → Calls Tryz.prog 14 #[.agg #[.bool a0t0, .int .i64 mp, .int .i64 a1w2, .int .i64 a1h3, .slice a1 len1 cap1], .int .i64 3] W' (ImGoodR C2 D2 GW2 GH2 W')) := Lib.hid fun W' hb => by
    have := refImGood_any a0t0 mp a1w2 a1h3 3 a1 len1 cap1 (z1.take len1) hmpI i12 i13 (by omega) (by omega) (by omega) W' (S1.below hb) J1
    rw [hC2, hD2, hGW2, hGH2] at this
    exact this
  unfold ImGoodR agI at HG2
  rw [hGW2] at gw2
  rw [hGH2] at gh2
  have hB0 := box2 w (.cells #[.bool a0t0, .int .i64 a0m1, .int .i64 a0w2, .int .i64 a0h3, .slice a0 len0 cap0] 27) (.cells #[.bool a1t0, .int .i64 a1m1, .int .i64 a1w2, .int .i64 a1h3, .slice a1 len1 cap1] 27)
  obtain ⟨W2, hW2⟩ : ∃ W2, (w.alloc (.cells #[.bool a0t0, .int .i64 a0m1, .int .i64 a0w2, .int .i64 a0h3, .slice a0 len0 cap0] 27)).alloc (.cells #[.bool a1t0, .int .i64 a1m1, .int .i64 a1w2, .int .i64 a1h3, .slice a1 len1 cap1] 27) = W2 := ⟨_, rfl⟩
  have fA : Fv W2 w.heap.size 27 (.bool a0t0) (.int .i64 a0m1) (.int .i64 a0w2) (.int .i64 a0h3) (.slice a0 len0 cap0) := by rw [← hW2]; exact (Fv.new w _ _ _ _ _ _).later (box1 _ _)
  have fB : Fv W2 (w.heap.size + 1) 27 (.bool a1t0) (.int .i64 a1m1) (.int .i64 a1w2) (.int .i64 a1h3) (.slice a1 len1 cap1) := by
    rw [← hW2]
    have := Fv.new (w.alloc (.cells #[.bool a0t0, .int .i64 a0m1, .int .i64 a0w2, .int .i64 a0h3, .slice a0 len0 cap0] 27)) 27 (.bool a1t0) (.int .i64 a1m1) (.int .i64 a1w2) (.int .i64 a1h3) (.slice a1 len1 cap1)
    rwa [show (w.alloc (.cells #[.bool a0t0, .int .i64 a0m1, .int .i64 a0w2, .int .i64 a0h3, .slice a0 len0 cap0] 27)).heap.size = w.heap.size + 1 by simp] at this
  rw [hW2] at hB0
  have HB := Lib.hid hB0
  have FA := Lib.hid fA
  have FB := Lib.hid fB
  obtain ⟨x0, x1, x2, x3, x4⟩ := fA.cells
  clear S0 S1 J0 J1 i01 i02 i03 i11 i12 i13 hmpI hB0 fA fB w01 w02 w03 w04 w11 w12 w13 w14 hC0 hC1 hC2 hD0 hD1 hD2 hGW0 hGW1 hGW2 hGH0 hGH1 hGH2
  have HMP := Lib.hid hmp3
  clear hmp3
  go_enter Tryz.func6, Tryz.ntmps6
  go_upto_region 1 with fail
  try rw [hW2]
  have hz2 : W2.heap.size = w.heap.size + 2 := by rw [← hW2]; simp
  clear hW2
  go_wp2_with fail
  refine (HG0.out _ HB.out).mono ?_
  rintro e w3 ⟨ad0, cp0, gs0, rfl, hgl0, hgp0, ho0, hc0, hd0, hb⟩
  have HO0 := Lib.hid ho0
  have hok0 := Im.good_ok (c := 0) (m := 0) (gw := 0) (gh := 0) (n := 0) (W := GW0) (H := GH0) (by omega) (by omega) hgl0
  have HOK0 := Lib.hid hok0
  obtain ⟨n0, hn0⟩ : ∃ k, gs0.length = k := ⟨_, rfl⟩
  have HN0 := Lib.hid hn0
  have HC0 := Lib.hid hc0
  have HD0 := Lib.hid hd0
  rw [hn0]
  clear x0 x1 x2 x3 x4
  replace FA := Lib.hid (FA.out.later hb)
  replace FB := Lib.hid (FB.out.later hb)
  replace HB := Lib.hid (HB.out.trans (hb.mono HB.out.size))
  go_upto_region 2 with fail
  have X := Ib.new w3 34 C0 D0 GW0 GH0 (.slice ad0 n0 cp0)
  have hb4 := box1 w3 (.cells #[.int .i64 C0, .int .i64 D0, .int .i64 GW0, .int .i64 GH0, .slice ad0 n0 cp0] 34)
  obtain ⟨W4, hW4⟩ : ∃ W4, w3.alloc (.cells #[.int .i64 C0, .int .i64 D0, .int .i64 GW0, .int .i64 GH0, .slice ad0 n0 cp0] 34) = W4 := ⟨_, rfl⟩
  rw [hW4] at X hb4
  try rw [hW4]
  obtain ⟨mb, hmb⟩ : ∃ mb, w3.heap.size = mb := ⟨_, rfl⟩
  rw [hmb] at X
  try rw [hmb]
  have hmb2 : w.heap.size + 2 ≤ mb := by have := HB.out.size; have := hb.size; have := FB.out.lt; omega
  replace FA := Lib.hid (FA.out.later hb4)
  replace FB := Lib.hid (FB.out.later hb4)
  replace HO0 := Lib.hid (HO0.out.later hb4)
  replace HB := Lib.hid (HB.out.trans (hb4.mono HB.out.size))
  have HX := Lib.hid X
  clear hW4 hb4 X hb hmb
  obtain ⟨x0, x1, x2, x3, x4⟩ := FA.out.cells
  obtain ⟨y0, y1, y2, y3, y4⟩ := FB.out.cells
  obtain ⟨z0', z1', z2', z3', z4'⟩ := FB.out.fr
  go_upto_region 4 with fail
  have hbw : w.heap.size + 1 < W2.heap.size := by rw [hz2]; omega
  have HX0 := Lib.hid ((HX.out.far (a := ⟨w.heap.size + 1, 0, none⟩) (by simp; omega) (.bool a0t0)).far (a := ⟨w.heap.size + 1, 1, none⟩) (by simp; omega) (.int .i64 a0m1))
  replace FA := Lib.hid ((FA.out.far (a := ⟨w.heap.size + 1, 0, none⟩) (by simp) (.bool a0t0)).far (a := ⟨w.heap.size + 1, 1, none⟩) (by simp) (.int .i64 a0m1))
  replace FB := Lib.hid ((FB.out.set0 (.bool a0t0)).set1 (.int .i64 a0m1))
  replace HO0 := Lib.hid (ownK_set (ownK_set HO0.out (a := ⟨w.heap.size + 1, 0, none⟩) hbw (.bool a0t0)) (a := ⟨w.heap.size + 1, 1, none⟩) hbw (.int .i64 a0m1))
  replace HB := Lib.hid ((HB.out.setCell (p := ⟨w.heap.size + 1, 0, none⟩) (by simp) (.bool a0t0)).setCell (p := ⟨w.heap.size + 1, 1, none⟩) (by simp) (.int .i64 a0m1))
  obtain ⟨W5, hW5⟩ : ∃ W5, (W4.setCell ⟨w.heap.size + 1, 0, none⟩ (.bool a0t0)).setCell ⟨w.heap.size + 1, 1, none⟩ (.int .i64 a0m1) = W5 := ⟨_, rfl⟩
  rw [hW5] at HX0 FA FB HO0 HB
  try rw [hW5]
  have hz5 : w.heap.size + 1 < W5.heap.size := FB.out.lt
  clear hW5 HX x0 x1 x2 x3 x4 y0 y1 y2 y3 y4 z0' z1' z2' z3' z4'
  obtain ⟨y0, y1, y2, y3, y4⟩ := FB.out.cells
  go_wp2_with fail
  refine (HG1.out _ HB.out).mono ?_
  rintro e w6 ⟨ad1, cp1, gs1, rfl, hgl1, hgp1, ho1, hc1, hd1, hb⟩
  have HO1 := Lib.hid ho1
  have hok1 := Im.good_ok (c := 0) (m := 0) (gw := 0) (gh := 0) (n := 0) (W := GW1) (H := GH1) (by omega) (by omega) hgl1
  have HOK1 := Lib.hid hok1
  obtain ⟨n1, hn1⟩ : ∃ k, gs1.length = k := ⟨_, rfl⟩
  have HN1 := Lib.hid hn1
  have HC1 := Lib.hid hc1
  have HD1 := Lib.hid hd1
  rw [hn1]
  clear y0 y1 y2 y3 y4
  replace FA := Lib.hid (FA.out.later hb)
  replace FB := Lib.hid (FB.out.later hb)
  replace HX0 := Lib.hid (HX0.out.later hb)
  replace HO0 := Lib.hid (HO0.out.later hb)
  replace HB := Lib.hid (HB.out.trans (hb.mono HB.out.size))
  go_upto_region 5 with fail
  have X := Ib.new w6 34 C1 D1 GW1 GH1 (.slice ad1 n1 cp1)
  have hb4 := box1 w6 (.cells #[.int .i64 C1, .int .i64 D1, .int .i64 GW1, .int .i64 GH1, .slice ad1 n1 cp1] 34)
  obtain ⟨W7, hW4⟩ : ∃ W4, w6.alloc (.cells #[.int .i64 C1, .int .i64 D1, .int .i64 GW1, .int .i64 GH1, .slice ad1 n1 cp1] 34) = W4 := ⟨_, rfl⟩
  rw [hW4] at X hb4
  try rw [hW4]
  obtain ⟨ob, hmb⟩ : ∃ mb, w6.heap.size = mb := ⟨_, rfl⟩
  rw [hmb] at X
  try rw [hmb]
  have hob : w.heap.size + 2 ≤ ob := by have := HB.out.size; have := hb.size; have := FB.out.lt; omega
  replace FA := Lib.hid (FA.out.later hb4)
  replace FB := Lib.hid (FB.out.later hb4)
  replace HX0 := Lib.hid (HX0.out.later hb4)
  replace HO0 := Lib.hid (HO0.out.later hb4)
  replace HO1 := Lib.hid (HO1.out.later hb4)
  replace HB := Lib.hid (HB.out.trans (hb4.mono HB.out.size))
  have HX1 := Lib.hid X
  clear hW4 hb4 X hb hmb ho1 hgp1 hgl1 hok1 hc1 hd1
  obtain ⟨y0, y1, y2, y3, y4⟩ := FB.out.cells
  obtain ⟨z0', z1', z2', z3', z4'⟩ := FB.out.fr
  go_upto_region 6 with fail
  (try rw [hmp1]); (try rw [hmp2])
  replace FB := Lib.hid (FB.out.set1 (.int .i64 mp))
  replace HX0 := Lib.hid (HX0.out.far (a := ⟨w.heap.size + 1, 1, none⟩) (by simp; omega) (.int .i64 mp))
  replace HX1 := Lib.hid (HX1.out.far (a := ⟨w.heap.size + 1, 1, none⟩) (by simp; omega) (.int .i64 mp))
  replace HO0 := Lib.hid (ownK_set HO0.out (a := ⟨w.heap.size + 1, 1, none⟩) hbw (.int .i64 mp))
  replace HO1 := Lib.hid (ownK_set HO1.out (a := ⟨w.heap.size + 1, 1, none⟩) hz5 (.int .i64 mp))
  replace HB := Lib.hid (HB.out.setCell (p := ⟨w.heap.size + 1, 1, none⟩) (by simp) (.int .i64 mp))
  obtain ⟨W8, hW8⟩ : ∃ W8, W7.setCell ⟨w.heap.size + 1, 1, none⟩ (.int .i64 mp) = W8 := ⟨_, rfl⟩
  rw [hW8] at HX0 HX1 FB HO0 HO1 HB
  try rw [hW8]
  clear hW8 y0 y1 y2 y3 y4 z0' z1' z2' z3' z4' FA
  obtain ⟨y0, y1, y2, y3, y4⟩ := FB.out.cells
  go_wp2_with fail
  refine (HG2.out _ HB.out).mono ?_
  rintro e w9 ⟨ad2, cp2, gs2, rfl, hgl2, hgp2, ho2, hc2, hd2, hb⟩
  have HO2 := Lib.hid ho2
  have hok2 := Im.good_ok (c := 0) (m := 0) (gw := 0) (gh := 0) (n := 0) (W := GW2) (H := GH2) (by omega) (by omega) hgl2
  have HOK2 := Lib.hid hok2
  obtain ⟨n2, hn2⟩ : ∃ k, gs2.length = k := ⟨_, rfl⟩
  have HN2 := Lib.hid hn2
  have HC2 := Lib.hid hc2
  have HD2 := Lib.hid hd2
  rw [hn2]
  clear y0 y1 y2 y3 y4
  replace FB := Lib.hid (FB.out.later hb)
  replace HX0 := Lib.hid (HX0.out.later hb)
  replace HO0 := Lib.hid (HO0.out.later hb)
  replace HX1 := Lib.hid (HX1.out.later hb)
  replace HO1 := Lib.hid (HO1.out.later hb)
  replace HB := Lib.hid (HB.out.trans (hb.mono HB.out.size))
  go_upto_region 7 with fail
  have X := Ib.new w9 34 C2 D2 GW2 GH2 (.slice ad2 n2 cp2)
  have hb4 := box1 w9 (.cells #[.int .i64 C2, .int .i64 D2, .int .i64 GW2, .int .i64 GH2, .slice ad2 n2 cp2] 34)
  obtain ⟨W10, hW4⟩ : ∃ W4, w9.alloc (.cells #[.int .i64 C2, .int .i64 D2, .int .i64 GW2, .int .i64 GH2, .slice ad2 n2 cp2] 34) = W4 := ⟨_, rfl⟩
  rw [hW4] at X hb4
  try rw [hW4]
  obtain ⟨pb, hmb⟩ : ∃ mb, w9.heap.size = mb := ⟨_, rfl⟩
  rw [hmb] at X
  try rw [hmb]
  have hpb : w.heap.size + 2 ≤ pb := by have := HB.out.size; have := hb.size; have := FB.out.lt; omega
  replace FB := Lib.hid (FB.out.later hb4)
  replace HX0 := Lib.hid (HX0.out.later hb4)
  replace HO0 := Lib.hid (HO0.out.later hb4)
  replace HX1 := Lib.hid (HX1.out.later hb4)
  replace HO1 := Lib.hid (HO1.out.later hb4)
  replace HO2 := Lib.hid (HO2.out.later hb4)
  replace HB := Lib.hid (HB.out.trans (hb4.mono HB.out.size))
  have HX2 := Lib.hid X
  clear hW4 hb4 X hb hmb ho2 hgp2 hgl2 hok2 hc2 hd2
  obtain ⟨x0, x1, x2, x3, x4⟩ := HX1.out.cells
  obtain ⟨y0, y1, y2, y3, y4⟩ := HX2.out.cells
  go_upto_region 8 with fail
  have hbV := box1 W10 (.cells #[.int .i64 C1, .int .i64 D1, .int .i64 GW1, .int .i64 GH1, .slice ad1 n1 cp1, .int .i64 C2, .int .i64 D2, .int .i64 GW2, .int .i64 GH2, .slice ad2 n2 cp2] 34)
  have hK : (W10.alloc (.cells #[.int .i64 C1, .int .i64 D1, .int .i64 GW1, .int .i64 GH1, .slice ad1 n1 cp1, .int .i64 C2, .int .i64 D2, .int .i64 GW2, .int .i64 GH2, .slice ad2 n2 cp2] 34)).heap[W10.heap.size]? = some (.cells #[.int .i64 C1, .int .i64 D1, .int .i64 GW1, .int .i64 GH1, .slice ad1 n1 cp1, .int .i64 C2, .int .i64 D2, .int .i64 GW2, .int .i64 GH2, .slice ad2 n2 cp2] 34) := heapNew _ _
  obtain ⟨V, hV⟩ : ∃ V, W10.alloc (.cells #[.int .i64 C1, .int .i64 D1, .int .i64 GW1, .int .i64 GH1, .slice ad1 n1 cp1, .int .i64 C2, .int .i64 D2, .int .i64 GW2, .int .i64 GH2, .slice ad2 n2 cp2] 34) = V := ⟨_, rfl⟩
  rw [hV] at hbV hK
  try rw [hV]
  obtain ⟨lb, hlb⟩ : ∃ lb, W10.heap.size = lb := ⟨_, rfl⟩
  rw [hlb] at hK
  try rw [hlb]
  replace HX0 := Lib.hid (HX0.out.later hbV)
  replace HO0 := Lib.hid (HO0.out.later hbV)
  replace HX1 := Lib.hid (HX1.out.later hbV)
  replace HO1 := Lib.hid (HO1.out.later hbV)
  replace HX2 := Lib.hid (HX2.out.later hbV)
  replace HO2 := Lib.hid (HO2.out.later hbV)
  replace HB := Lib.hid (HB.out.trans (hbV.mono HB.out.size))
  have HK := Lib.hid hK
  have V0 := Lib.hid (show SlK .u64 V ad0 n0 gs0 by have := HO0.out.sl; rwa [HN0.out] at this)
  have V1 := Lib.hid (show SlK .u64 V ad1 n1 gs1 by have := HO1.out.sl; rwa [HN1.out] at this)
  have V2 := Lib.hid (show SlK .u64 V ad2 n2 gs2 by have := HO2.out.sl; rwa [HN2.out] at this)
  clear hV hlb hbV hK x0 x1 x2 x3 x4 y0 y1 y2 y3 y4 HG0 HG1 HG2 HO0 HO1 HO2 FB gw0 gh0 gw1 gh1 gw2 gh2 hmb2 hob hpb hbw hz5 hz2 hn0 hn1 hn2 l1 l2 l3 l4 m1 m2 m3 m4 hmp1 hmp2
  go_wp2_with fail
  go_loopg [9] 2 (fun g s9 wr => ∃ k : Nat, k + g = 2 ∧ s9 = .int .i64 k ∧ Below V.heap.size V wr)
  case atStart => exact ⟨0, rfl, rfl, Below.refl _ _⟩
  case round =>
    obtain ⟨k, hk, rfl, hBr⟩ := hrel
    cases gk with
    | zero =>
      obtain rfl : k = 2 := by omega
      have QO1 : Hid (∀ W2, Calls Tryz.prog 25 #[agI C1 D1 GW1 GH1 (.slice ad1 n1 cp1)] W2 fun e w' => e = .returned (agI C1 D1 GW1 GH1 (.slice ad1 n1 cp1)) ∧ Below W2.heap.size W2 w') := Lib.hid fun W2 => imOf_any _ _ _ _ _ _ _ _
      have QO2 : Hid (∀ W2, Calls Tryz.prog 25 #[agI C2 D2 GW2 GH2 (.slice ad2 n2 cp2)] W2 fun e w' => e = .returned (agI C2 D2 GW2 GH2 (.slice ad2 n2 cp2)) ∧ Below W2.heap.size W2 w') := Lib.hid fun W2 => imOf_any _ _ _ _ _ _ _ _
      have hn9 : n1 ≤ 9223372036854775807 := by have := HC1.out; have := HD1.out; rw [HN1.out] at *; omega
      have QS1 : Hid (∀ W2, SlK .u64 W2 ad1 n1 gs1 → SlK .u64 W2 ad2 n2 gs2 → Calls Tryz.prog 29 #[agI C1 D1 GW1 GH1 (.slice ad1 n1 cp1), agI C2 D2 GW2 GH2 (.slice ad2 n2 cp2)] W2 fun e w' => e = .returned (.bool (Im.sameV C1 D1 GW1 GH1 gs1 C2 D2 GW2 GH2 gs2)) ∧ Below W2.heap.size W2 w') := Lib.hid fun W2 h1 h2 => imSame_any _ _ _ _ _ _ _ _ _ _ _ _ _ _ _ _ W2 hn9 h1 h2
      have QS2 : Hid (∀ W2, SlK .u64 W2 ad1 n1 gs1 → SlK .u64 W2 ad2 n2 gs2 → Calls Tryz.prog 22 #[agI C1 D1 GW1 GH1 (.slice ad1 n1 cp1), agI C2 D2 GW2 GH2 (.slice ad2 n2 cp2)] W2 fun e w' => e = .returned (.bool (Im.sameV C1 D1 GW1 GH1 gs1 C2 D2 GW2 GH2 gs2)) ∧ Below W2.heap.size W2 w') := Lib.hid fun W2 h1 h2 => refImSame_any _ _ _ _ _ _ _ _ _ _ _ _ _ _ _ _ W2 hn9 h1 h2
      generalize Im.sameV C1 D1 GW1 GH1 gs1 C2 D2 GW2 GH2 gs2 = sq at QS1 QS2
      unfold agI at QO1 QO2 QS1 QS2
      have R1 := Lib.hid (V1.out.below hBr)
      have R2 := Lib.hid (V2.out.below hBr)
      have RB := Lib.hid hBr
      obtain ⟨x0, x1, x2, x3, x4⟩ := (HX1.out.later hBr).cells
      obtain ⟨y0, y1, y2, y3, y4⟩ := (HX2.out.later hBr).cells
      have hBt := Below.refl wr.heap.size wr
      clear hBr hn9
      have hqq : (sq == sq) = true := by cases sq <;> rfl
      go_wp2_with fail
      go_region_held3 (fun w' => w'.cell? ⟨ob, 0, none⟩ = some (.int .i64 C1) ∧ w'.cell? ⟨ob, 1, none⟩ = some (.int .i64 D1) ∧ w'.cell? ⟨ob, 2, none⟩ = some (.int .i64 GW1) ∧ w'.cell? ⟨ob, 3, none⟩ = some (.int .i64 GH1) ∧ w'.cell? ⟨ob, 4, none⟩ = some (.slice ad1 n1 cp1) ∧ w'.cell? ⟨pb, 0, none⟩ = some (.int .i64 C2) ∧ w'.cell? ⟨pb, 1, none⟩ = some (.int .i64 D2) ∧ w'.cell? ⟨pb, 2, none⟩ = some (.int .i64 GW2) ∧ w'.cell? ⟨pb, 3, none⟩ = some (.int .i64 GH2) ∧ w'.cell? ⟨pb, 4, none⟩ = some (.slice ad2 n2 cp2))
        (first | exact ⟨x0, x1, x2, x3, x4, y0, y1, y2, y3, y4⟩ | exact ⟨cell_later (by repeat' (first | (with_reducible exact hBt) | (with_reducible refine Below.alloc ?_ ?_ _) | (with_reducible refine Below.drew ?_) | (with_reducible refine below_drewN ?_ _) | (with_reducible refine Below.setCell ?_ ?_ _) | exact hBt.size | (have := hBt.size; first | omega | (simp; done) | (simp; omega)))) x0, cell_later (by repeat' (first | (with_reducible exact hBt) | (with_reducible refine Below.alloc ?_ ?_ _) | (with_reducible refine Below.drew ?_) | (with_reducible refine below_drewN ?_ _) | (with_reducible refine Below.setCell ?_ ?_ _) | exact hBt.size | (have := hBt.size; first | omega | (simp; done) | (simp; omega)))) x1, cell_later (by repeat' (first | (with_reducible exact hBt) | (with_reducible refine Below.alloc ?_ ?_ _) | (with_reducible refine Below.drew ?_) | (with_reducible refine below_drewN ?_ _) | (with_reducible refine Below.setCell ?_ ?_ _) | exact hBt.size | (have := hBt.size; first | omega | (simp; done) | (simp; omega)))) x2, cell_later (by repeat' (first | (with_reducible exact hBt) | (with_reducible refine Below.alloc ?_ ?_ _) | (with_reducible refine Below.drew ?_) | (with_reducible refine below_drewN ?_ _) | (with_reducible refine Below.setCell ?_ ?_ _) | exact hBt.size | (have := hBt.size; first | omega | (simp; done) | (simp; omega)))) x3, cell_later (by repeat' (first | (with_reducible exact hBt) | (with_reducible refine Below.alloc ?_ ?_ _) | (with_reducible refine Below.drew ?_) | (with_reducible refine below_drewN ?_ _) | (with_reducible refine Below.setCell ?_ ?_ _) | exact hBt.size | (have := hBt.size; first | omega | (simp; done) | (simp; omega)))) x4, cell_later (by repeat' (first | (with_reducible exact hBt) | (with_reducible refine Below.alloc ?_ ?_ _) | (with_reducible refine Below.drew ?_) | (with_reducible refine below_drewN ?_ _) | (with_reducible refine Below.setCell ?_ ?_ _) | exact hBt.size | (have := hBt.size; first | omega | (simp; done) | (simp; omega)))) y0, cell_later (by repeat' (first | (with_reducible exact hBt) | (with_reducible refine Below.alloc ?_ ?_ _) | (with_reducible refine Below.drew ?_) | (with_reducible refine below_drewN ?_ _) | (with_reducible refine Below.setCell ?_ ?_ _) | exact hBt.size | (have := hBt.size; first | omega | (simp; done) | (simp; omega)))) y1, cell_later (by repeat' (first | (with_reducible exact hBt) | (with_reducible refine Below.alloc ?_ ?_ _) | (with_reducible refine Below.drew ?_) | (with_reducible refine below_drewN ?_ _) | (with_reducible refine Below.setCell ?_ ?_ _) | exact hBt.size | (have := hBt.size; first | omega | (simp; done) | (simp; omega)))) y2, cell_later (by repeat' (first | (with_reducible exact hBt) | (with_reducible refine Below.alloc ?_ ?_ _) | (with_reducible refine Below.drew ?_) | (with_reducible refine below_drewN ?_ _) | (with_reducible refine Below.setCell ?_ ?_ _) | exact hBt.size | (have := hBt.size; first | omega | (simp; done) | (simp; omega)))) y3, cell_later (by repeat' (first | (with_reducible exact hBt) | (with_reducible refine Below.alloc ?_ ?_ _) | (with_reducible refine Below.drew ?_) | (with_reducible refine below_drewN ?_ _) | (with_reducible refine Below.setCell ?_ ?_ _) | exact hBt.size | (have := hBt.size; first | omega | (simp; done) | (simp; omega)))) y4⟩)
        (first
          | (go_at_call 25; (first | (with_reducible refine (QO1.out _).mono ?_) | (with_reducible refine (QO2.out _).mono ?_)); rintro e w9 ⟨rfl, hb9⟩; replace hBt := bel_step (w := wr) (by repeat' (first | (with_reducible exact hBt) | (with_reducible refine Below.alloc ?_ ?_ _) | (with_reducible refine Below.drew ?_) | (with_reducible refine below_drewN ?_ _) | (with_reducible refine Below.setCell ?_ ?_ _) | exact hBt.size | (have := hBt.size; first | omega | (simp; done) | (simp; omega)))) hb9; have hsz9 := hBt.size)
          | (go_at_call 29; refine (QS1.out _ (R1.out.below (by repeat' (first | (with_reducible exact hBt) | (with_reducible refine Below.alloc ?_ ?_ _) | (with_reducible refine Below.drew ?_) | (with_reducible refine below_drewN ?_ _) | (with_reducible refine Below.setCell ?_ ?_ _) | exact hBt.size | (have := hBt.size; first | omega | (simp; done) | (simp; omega))))) (R2.out.below (by repeat' (first | (with_reducible exact hBt) | (with_reducible refine Below.alloc ?_ ?_ _) | (with_reducible refine Below.drew ?_) | (with_reducible refine below_drewN ?_ _) | (with_reducible refine Below.setCell ?_ ?_ _) | exact hBt.size | (have := hBt.size; first | omega | (simp; done) | (simp; omega)))))).mono ?_; rintro e w9 ⟨rfl, hb9⟩; replace hBt := bel_step (w := wr) (by repeat' (first | (with_reducible exact hBt) | (with_reducible refine Below.alloc ?_ ?_ _) | (with_reducible refine Below.drew ?_) | (with_reducible refine below_drewN ?_ _) | (with_reducible refine Below.setCell ?_ ?_ _) | exact hBt.size | (have := hBt.size; first | omega | (simp; done) | (simp; omega)))) hb9; have hsz9 := hBt.size)
          | (go_at_call 22; refine (QS2.out _ (R1.out.below (by repeat' (first | (with_reducible exact hBt) | (with_reducible refine Below.alloc ?_ ?_ _) | (with_reducible refine Below.drew ?_) | (with_reducible refine below_drewN ?_ _) | (with_reducible refine Below.setCell ?_ ?_ _) | exact hBt.size | (have := hBt.size; first | omega | (simp; done) | (simp; omega))))) (R2.out.below (by repeat' (first | (with_reducible exact hBt) | (with_reducible refine Below.alloc ?_ ?_ _) | (with_reducible refine Below.drew ?_) | (with_reducible refine below_drewN ?_ _) | (with_reducible refine Below.setCell ?_ ?_ _) | exact hBt.size | (have := hBt.size; first | omega | (simp; done) | (simp; omega)))))).mono ?_; rintro e w9 ⟨rfl, hb9⟩; replace hBt := bel_step (w := wr) (by repeat' (first | (with_reducible exact hBt) | (with_reducible refine Below.alloc ?_ ?_ _) | (with_reducible refine Below.drew ?_) | (with_reducible refine below_drewN ?_ _) | (with_reducible refine Below.setCell ?_ ?_ _) | exact hBt.size | (have := hBt.size; first | omega | (simp; done) | (simp; omega)))) hb9; have hsz9 := hBt.size)
          | (go_at_call 18; refine (lives10_any _).mono ?_; rintro e w9 ⟨rfl, hb9⟩; replace hBt := bel_step (w := wr) (by repeat' (first | (with_reducible exact hBt) | (with_reducible refine Below.alloc ?_ ?_ _) | (with_reducible refine Below.drew ?_) | (with_reducible refine below_drewN ?_ _) | (with_reducible refine Below.setCell ?_ ?_ _) | exact hBt.size | (have := hBt.size; first | omega | (simp; done) | (simp; omega)))) hb9; have hsz9 := hBt.size))
      all_goals
        go_wp2
        go_ret
        exact ⟨by first | rfl | simp, HB.out.trans ((bel_step (w := V) RB.out hBt).mono HB.out.size)⟩
    | succ g =>
      obtain ⟨MC, MD, MW, MH, ma, mc, ML, nm, z0', z1', z2', z3', z4', hok, hsl, hmn, hm1, hm2⟩ : ∃ MC MD MW MH ma mc ML nm, wr.cell? ⟨lb, k * 5, none⟩ = some (.int .i64 MC) ∧ wr.cell? ⟨lb, k * 5 + 1, none⟩ = some (.int .i64 MD) ∧ wr.cell? ⟨lb, k * 5 + 2, none⟩ = some (.int .i64 MW) ∧ wr.cell? ⟨lb, k * 5 + 3, none⟩ = some (.int .i64 MH) ∧ wr.cell? ⟨lb, k * 5 + 4, none⟩ = some (.slice ma nm mc) ∧ Rc.Ok MW MH ML ∧ SlK .u64 V ma nm ML ∧ ML.length = nm ∧ nm ≤ mc ∧ mc ≤ 9223372036854775807 := by
        have h8 : wr.heap[lb]? = some (.cells #[.int .i64 C1, .int .i64 D1, .int .i64 GW1, .int .i64 GH1, .slice ad1 n1 cp1, .int .i64 C2, .int .i64 D2, .int .i64 GW2, .int .i64 GH2, .slice ad2 n2 cp2] 34) := (hBr.block _ (Array.getElem?_eq_some_iff.1 HK.out).1).trans HK.out
        have : k = 0 ∨ k = 1 := by omega
        rcases this with rfl | rfl
        · exact ⟨C1, D1, GW1, GH1, ad1, cp1, gs1, n1, by simp [World.cell?, h8], by simp [World.cell?, h8], by simp [World.cell?, h8], by simp [World.cell?, h8], by simp [World.cell?, h8], HOK1.out, V1.out, HN1.out, by have := HC1.out; rwa [HN1.out] at this, HD1.out⟩
        · exact ⟨C2, D2, GW2, GH2, ad2, cp2, gs2, n2, by simp [World.cell?, h8], by simp [World.cell?, h8], by simp [World.cell?, h8], by simp [World.cell?, h8], by simp [World.cell?, h8], HOK2.out, V2.out, HN2.out, by have := HC2.out; rwa [HN2.out] at this, HD2.out⟩
      have Q1 : Hid (∀ W2, SlK .u64 W2 ad0 n0 gs0 → SlK .u64 W2 ma nm ML → Calls Tryz.prog 33 #[agI C0 D0 GW0 GH0 (.slice ad0 n0 cp0), agI MC MD MW MH (.slice ma nm mc)] W2 (ImFindR (Im.findV C0 D0 GW0 GH0 gs0 MC MD MW MH ML) W2)) := Lib.hid fun W2 h1 h2 => by
        have := imFind_any C0 D0 GW0 GH0 MC MD MW MH ad0 ma cp0 mc gs0 ML HOK0.out hok HC0.out HD0.out (by rw [hmn]; exact hm1) hm2 W2 (by rw [HN0.out]; exact h1) (by rw [hmn]; exact h2)
        rw [HN0.out, hmn] at this
        exact this
      have Q2 : Hid (∀ W2, SlK .u64 W2 ad0 n0 gs0 → SlK .u64 W2 ma nm ML → Calls Tryz.prog 34 #[agI C0 D0 GW0 GH0 (.slice ad0 n0 cp0), agI MC MD MW MH (.slice ma nm mc)] W2 (ImFindR (Im.findV C0 D0 GW0 GH0 gs0 MC MD MW MH ML) W2)) := Lib.hid fun W2 h1 h2 => by
        have := refImFind_any C0 D0 GW0 GH0 MC MD MW MH ad0 ma cp0 mc gs0 ML HOK0.out hok HC0.out HD0.out (by rw [hmn]; exact hm1) hm2 W2 (by rw [HN0.out]; exact h1) (by rw [hmn]; exact h2)
        rw [HN0.out, hmn] at this
        exact this
      generalize Im.findV C0 D0 GW0 GH0 gs0 MC MD MW MH ML = F at Q1 Q2
      have QO1 : Hid (∀ W2, Calls Tryz.prog 25 #[agI C0 D0 GW0 GH0 (.slice ad0 n0 cp0)] W2 fun e w' => e = .returned (agI C0 D0 GW0 GH0 (.slice ad0 n0 cp0)) ∧ Below W2.heap.size W2 w') := Lib.hid fun W2 => imOf_any _ _ _ _ _ _ _ _
      have QO2 : Hid (∀ W2, Calls Tryz.prog 25 #[agI MC MD MW MH (.slice ma nm mc)] W2 fun e w' => e = .returned (agI MC MD MW MH (.slice ma nm mc)) ∧ Below W2.heap.size W2 w') := Lib.hid fun W2 => imOf_any _ _ _ _ _ _ _ _
      unfold ImFindR agI at Q1 Q2
      unfold agI at QO1 QO2
      have R0 := Lib.hid (V0.out.below hBr)
      have R1 := Lib.hid (hsl.below hBr)
      have RB := Lib.hid hBr
      have i0 : (0 : Int) ≤ (k : Int) := Int.natCast_nonneg _
      have i1 : (k : Int) < 2 := by omega
      obtain ⟨g0, g1, g2, g3, g4⟩ := (HX0.out.later hBr).cells
      have hBt := Below.refl wr.heap.size wr
      clear hsl hBr hok hm1 hm2 hmn
      go_wp2_with fail
      go_region_held3 (fun w' => w'.cell? ⟨mb, 0, none⟩ = some (.int .i64 C0) ∧ w'.cell? ⟨mb, 1, none⟩ = some (.int .i64 D0) ∧ w'.cell? ⟨mb, 2, none⟩ = some (.int .i64 GW0) ∧ w'.cell? ⟨mb, 3, none⟩ = some (.int .i64 GH0) ∧ w'.cell? ⟨mb, 4, none⟩ = some (.slice ad0 n0 cp0) ∧ w'.cell? ⟨lb, k * 5, none⟩ = some (.int .i64 MC) ∧ w'.cell? ⟨lb, k * 5 + 1, none⟩ = some (.int .i64 MD) ∧ w'.cell? ⟨lb, k * 5 + 2, none⟩ = some (.int .i64 MW) ∧ w'.cell? ⟨lb, k * 5 + 3, none⟩ = some (.int .i64 MH) ∧ w'.cell? ⟨lb, k * 5 + 4, none⟩ = some (.slice ma nm mc))
        (first | exact ⟨g0, g1, g2, g3, g4, z0', z1', z2', z3', z4'⟩ | exact ⟨cell_later (by repeat' (first | (with_reducible exact hBt) | (with_reducible refine Below.alloc ?_ ?_ _) | (with_reducible refine Below.drew ?_) | (with_reducible refine below_drewN ?_ _) | (with_reducible refine Below.setCell ?_ ?_ _) | exact hBt.size | (have := hBt.size; first | omega | (simp; done) | (simp; omega)))) g0, cell_later (by repeat' (first | (with_reducible exact hBt) | (with_reducible refine Below.alloc ?_ ?_ _) | (with_reducible refine Below.drew ?_) | (with_reducible refine below_drewN ?_ _) | (with_reducible refine Below.setCell ?_ ?_ _) | exact hBt.size | (have := hBt.size; first | omega | (simp; done) | (simp; omega)))) g1, cell_later (by repeat' (first | (with_reducible exact hBt) | (with_reducible refine Below.alloc ?_ ?_ _) | (with_reducible refine Below.drew ?_) | (with_reducible refine below_drewN ?_ _) | (with_reducible refine Below.setCell ?_ ?_ _) | exact hBt.size | (have := hBt.size; first | omega | (simp; done) | (simp; omega)))) g2, cell_later (by repeat' (first | (with_reducible exact hBt) | (with_reducible refine Below.alloc ?_ ?_ _) | (with_reducible refine Below.drew ?_) | (with_reducible refine below_drewN ?_ _) | (with_reducible refine Below.setCell ?_ ?_ _) | exact hBt.size | (have := hBt.size; first | omega | (simp; done) | (simp; omega)))) g3, cell_later (by repeat' (first | (with_reducible exact hBt) | (with_reducible refine Below.alloc ?_ ?_ _) | (with_reducible refine Below.drew ?_) | (with_reducible refine below_drewN ?_ _) | (with_reducible refine Below.setCell ?_ ?_ _) | exact hBt.size | (have := hBt.size; first | omega | (simp; done) | (simp; omega)))) g4, cell_later (by repeat' (first | (with_reducible exact hBt) | (with_reducible refine Below.alloc ?_ ?_ _) | (with_reducible refine Below.drew ?_) | (with_reducible refine below_drewN ?_ _) | (with_reducible refine Below.setCell ?_ ?_ _) | exact hBt.size | (have := hBt.size; first | omega | (simp; done) | (simp; omega)))) z0', cell_later (by repeat' (first | (with_reducible exact hBt) | (with_reducible refine Below.alloc ?_ ?_ _) | (with_reducible refine Below.drew ?_) | (with_reducible refine below_drewN ?_ _) | (with_reducible refine Below.setCell ?_ ?_ _) | exact hBt.size | (have := hBt.size; first | omega | (simp; done) | (simp; omega)))) z1', cell_later (by repeat' (first | (with_reducible exact hBt) | (with_reducible refine Below.alloc ?_ ?_ _) | (with_reducible refine Below.drew ?_) | (with_reducible refine below_drewN ?_ _) | (with_reducible refine Below.setCell ?_ ?_ _) | exact hBt.size | (have := hBt.size; first | omega | (simp; done) | (simp; omega)))) z2', cell_later (by repeat' (first | (with_reducible exact hBt) | (with_reducible refine Below.alloc ?_ ?_ _) | (with_reducible refine Below.drew ?_) | (with_reducible refine below_drewN ?_ _) | (with_reducible refine Below.setCell ?_ ?_ _) | exact hBt.size | (have := hBt.size; first | omega | (simp; done) | (simp; omega)))) z3', cell_later (by repeat' (first | (with_reducible exact hBt) | (with_reducible refine Below.alloc ?_ ?_ _) | (with_reducible refine Below.drew ?_) | (with_reducible refine below_drewN ?_ _) | (with_reducible refine Below.setCell ?_ ?_ _) | exact hBt.size | (have := hBt.size; first | omega | (simp; done) | (simp; omega)))) z4'⟩)
        (first
          | (go_at_call 25; (first | (with_reducible refine (QO1.out _).mono ?_) | (with_reducible refine (QO2.out _).mono ?_)); rintro e w9 ⟨rfl, hb9⟩; replace hBt := bel_step (w := wr) (by repeat' (first | (with_reducible exact hBt) | (with_reducible refine Below.alloc ?_ ?_ _) | (with_reducible refine Below.drew ?_) | (with_reducible refine below_drewN ?_ _) | (with_reducible refine Below.setCell ?_ ?_ _) | exact hBt.size | (have := hBt.size; first | omega | (simp; done) | (simp; omega)))) hb9; have hsz9 := hBt.size)
          | (go_at_call 33; refine (Q1.out _ (R0.out.below (by repeat' (first | (with_reducible exact hBt) | (with_reducible refine Below.alloc ?_ ?_ _) | (with_reducible refine Below.drew ?_) | (with_reducible refine below_drewN ?_ _) | (with_reducible refine Below.setCell ?_ ?_ _) | exact hBt.size | (have := hBt.size; first | omega | (simp; done) | (simp; omega))))) (R1.out.below (by repeat' (first | (with_reducible exact hBt) | (with_reducible refine Below.alloc ?_ ?_ _) | (with_reducible refine Below.drew ?_) | (with_reducible refine below_drewN ?_ _) | (with_reducible refine Below.setCell ?_ ?_ _) | exact hBt.size | (have := hBt.size; first | omega | (simp; done) | (simp; omega)))))).mono ?_; rintro e Y1 ⟨v1, rfl, ho1, hb9⟩; replace hBt := bel_step (w := wr) (by repeat' (first | (with_reducible exact hBt) | (with_reducible refine Below.alloc ?_ ?_ _) | (with_reducible refine Below.drew ?_) | (with_reducible refine below_drewN ?_ _) | (with_reducible refine Below.setCell ?_ ?_ _) | exact hBt.size | (have := hBt.size; first | omega | (simp; done) | (simp; omega)))) hb9; have hsz9 := hBt.size))
      have O1 := Lib.hid ho1
      have VY1 := Lib.hid hBt
      obtain ⟨g0, g1, g2, g3, g4⟩ := (HX0.out.later (bel_step RB.out hBt)).cells
      replace z0' := cell_later hBt z0'
      replace z1' := cell_later hBt z1'
      replace z2' := cell_later hBt z2'
      replace z3' := cell_later hBt z3'
      replace z4' := cell_later hBt z4'
      have P0 := Lib.hid (R0.out.below hBt)
      have P1 := Lib.hid (R1.out.below hBt)
      clear ho1 hBt
      have hBt := Below.refl Y1.heap.size Y1
      obtain ⟨ad5, cp5, hv1⟩ := ownsRow_val O1.out
      subst hv1
      go_wp2_with fail
      go_region_held3 (fun w' => w'.cell? ⟨mb, 0, none⟩ = some (.int .i64 C0) ∧ w'.cell? ⟨mb, 1, none⟩ = some (.int .i64 D0) ∧ w'.cell? ⟨mb, 2, none⟩ = some (.int .i64 GW0) ∧ w'.cell? ⟨mb, 3, none⟩ = some (.int .i64 GH0) ∧ w'.cell? ⟨mb, 4, none⟩ = some (.slice ad0 n0 cp0) ∧ w'.cell? ⟨lb, k * 5, none⟩ = some (.int .i64 MC) ∧ w'.cell? ⟨lb, k * 5 + 1, none⟩ = some (.int .i64 MD) ∧ w'.cell? ⟨lb, k * 5 + 2, none⟩ = some (.int .i64 MW) ∧ w'.cell? ⟨lb, k * 5 + 3, none⟩ = some (.int .i64 MH) ∧ w'.cell? ⟨lb, k * 5 + 4, none⟩ = some (.slice ma nm mc))
        (first | exact ⟨g0, g1, g2, g3, g4, z0', z1', z2', z3', z4'⟩ | exact ⟨cell_later (by repeat' (first | (with_reducible exact hBt) | (with_reducible refine Below.alloc ?_ ?_ _) | (with_reducible refine Below.drew ?_) | (with_reducible refine below_drewN ?_ _) | (with_reducible refine Below.setCell ?_ ?_ _) | exact hBt.size | (have := hBt.size; first | omega | (simp; done) | (simp; omega)))) g0, cell_later (by repeat' (first | (with_reducible exact hBt) | (with_reducible refine Below.alloc ?_ ?_ _) | (with_reducible refine Below.drew ?_) | (with_reducible refine below_drewN ?_ _) | (with_reducible refine Below.setCell ?_ ?_ _) | exact hBt.size | (have := hBt.size; first | omega | (simp; done) | (simp; omega)))) g1, cell_later (by repeat' (first | (with_reducible exact hBt) | (with_reducible refine Below.alloc ?_ ?_ _) | (with_reducible refine Below.drew ?_) | (with_reducible refine below_drewN ?_ _) | (with_reducible refine Below.setCell ?_ ?_ _) | exact hBt.size | (have := hBt.size; first | omega | (simp; done) | (simp; omega)))) g2, cell_later (by repeat' (first | (with_reducible exact hBt) | (with_reducible refine Below.alloc ?_ ?_ _) | (with_reducible refine Below.drew ?_) | (with_reducible refine below_drewN ?_ _) | (with_reducible refine Below.setCell ?_ ?_ _) | exact hBt.size | (have := hBt.size; first | omega | (simp; done) | (simp; omega)))) g3, cell_later (by repeat' (first | (with_reducible exact hBt) | (with_reducible refine Below.alloc ?_ ?_ _) | (with_reducible refine Below.drew ?_) | (with_reducible refine below_drewN ?_ _) | (with_reducible refine Below.setCell ?_ ?_ _) | exact hBt.size | (have := hBt.size; first | omega | (simp; done) | (simp; omega)))) g4, cell_later (by repeat' (first | (with_reducible exact hBt) | (with_reducible refine Below.alloc ?_ ?_ _) | (with_reducible refine Below.drew ?_) | (with_reducible refine below_drewN ?_ _) | (with_reducible refine Below.setCell ?_ ?_ _) | exact hBt.size | (have := hBt.size; first | omega | (simp; done) | (simp; omega)))) z0', cell_later (by repeat' (first | (with_reducible exact hBt) | (with_reducible refine Below.alloc ?_ ?_ _) | (with_reducible refine Below.drew ?_) | (with_reducible refine below_drewN ?_ _) | (with_reducible refine Below.setCell ?_ ?_ _) | exact hBt.size | (have := hBt.size; first | omega | (simp; done) | (simp; omega)))) z1', cell_later (by repeat' (first | (with_reducible exact hBt) | (with_reducible refine Below.alloc ?_ ?_ _) | (with_reducible refine Below.drew ?_) | (with_reducible refine below_drewN ?_ _) | (with_reducible refine Below.setCell ?_ ?_ _) | exact hBt.size | (have := hBt.size; first | omega | (simp; done) | (simp; omega)))) z2', cell_later (by repeat' (first | (with_reducible exact hBt) | (with_reducible refine Below.alloc ?_ ?_ _) | (with_reducible refine Below.drew ?_) | (with_reducible refine below_drewN ?_ _) | (with_reducible refine Below.setCell ?_ ?_ _) | exact hBt.size | (have := hBt.size; first | omega | (simp; done) | (simp; omega)))) z3', cell_later (by repeat' (first | (with_reducible exact hBt) | (with_reducible refine Below.alloc ?_ ?_ _) | (with_reducible refine Below.drew ?_) | (with_reducible refine below_drewN ?_ _) | (with_reducible refine Below.setCell ?_ ?_ _) | exact hBt.size | (have := hBt.size; first | omega | (simp; done) | (simp; omega)))) z4'⟩)
        (first
          | (go_at_call 34; refine (Q2.out _ (P0.out.below (by repeat' (first | (with_reducible exact hBt) | (with_reducible refine Below.alloc ?_ ?_ _) | (with_reducible refine Below.drew ?_) | (with_reducible refine below_drewN ?_ _) | (with_reducible refine Below.setCell ?_ ?_ _) | exact hBt.size | (have := hBt.size; first | omega | (simp; done) | (simp; omega))))) (P1.out.below (by repeat' (first | (with_reducible exact hBt) | (with_reducible refine Below.alloc ?_ ?_ _) | (with_reducible refine Below.drew ?_) | (with_reducible refine below_drewN ?_ _) | (with_reducible refine Below.setCell ?_ ?_ _) | exact hBt.size | (have := hBt.size; first | omega | (simp; done) | (simp; omega)))))).mono ?_; rintro e Y2 ⟨v2, rfl, ho2, hb9⟩; replace hBt := bel_step (w := Y1) (by repeat' (first | (with_reducible exact hBt) | (with_reducible refine Below.alloc ?_ ?_ _) | (with_reducible refine Below.drew ?_) | (with_reducible refine below_drewN ?_ _) | (with_reducible refine Below.setCell ?_ ?_ _) | exact hBt.size | (have := hBt.size; first | omega | (simp; done) | (simp; omega)))) hb9; have hsz9 := hBt.size))
      have O2 := Lib.hid ho2
      have O3 := Lib.hid (ownsRow_later O1.out hBt)
      have RC := Lib.hid (bel_step (w := V) (bel_step RB.out VY1.out) hBt)
      clear ho2 hBt z0' z1' z2' z3' z4' g0 g1 g2 g3 g4
      have O4 := Lib.hid O3.out
      have hF9 := ownsRow_max O2.out
      obtain ⟨nF, hnF⟩ : ∃ nF, F.length = nF := ⟨_, rfl⟩
      have HNF := Lib.hid hnF
      by_cases hF0 : nF = 0
      · obtain ⟨ad6, cp6, hv2⟩ := ownsRow_val O2.out
        subst hv2
        rw [hnF] at hF9 ⊢
        subst hF0
        clear hnF hF9
        go_wp2
        refine wp_loop_rounds 1 ?_
        rw [rounds_succ]
        go_wp2
        go_roundg g
        case measure => omega
        case rel => exact ⟨k + 1, by omega, by go_num, RC.out⟩
      · obtain ⟨b1, cq1, hv1⟩ := ownsRow_pos O3.out (by omega)
        obtain ⟨b2, cq2, hv2⟩ := ownsRow_pos O2.out (by omega)
        subst hv2
        injection hv1 with hv1 _ _
        subst hv1
        have HF9 := Lib.hid (show nF ≤ 9223372036854775807 by rw [← hnF]; exact hF9)
        rw [hnF] at ⊢
        have O5 := Lib.hid O4.out
        clear hnF hF9
        go_wp2
        go_loopg [12] nF (fun g2 s12 wx => ∃ (j q : Nat), j + g2 = nF ∧ s12 = .int .i64 j ∧ wx = Y2.drewN q)
        case atStart => exact ⟨0, 0, by omega, rfl, rfl⟩
        case round =>
          obtain ⟨j, q9, hj, rfl, rfl⟩ := hrel
          cases gk with
          | zero =>
            obtain rfl : j = nF := by omega
            go_wp2
            go_roundg g
            case measure => omega
            case rel => exact ⟨k + 1, by omega, by go_num, bel_drewN RC.out _⟩
          | succ g2 =>
            have hj1 : (j : Int) < (nF : Int) := st_lti hj
            have hj2 : wrap64 ((j : Int) + 1) = (j : Int) + 1 := st_wrap hj HF9.out
            have hj0 : (0 : Int) ≤ (j : Int) := Int.natCast_nonneg _
            obtain ⟨e1, e2⟩ := pairs_cells O4.out (i := j) (by rw [HNF.out]; exact st_lt hj)
            obtain ⟨f1, f2⟩ := pairs_cells O2.out (i := j) (by rw [HNF.out]; exact st_lt hj)
            generalize F.getD j (0, 0) = ef at e1 e2 f1 f2
            obtain ⟨e, f⟩ := ef
            simp only at e1 e2 f1 f2
            have PN := pair_neq e f
            have PG := pair_guard
            go_wp2_with (go_quiet (fail))
            go_roundg g2
            case measure => first | exact Nat.lt_succ_self _ | omega
            case rel => exact ⟨j + 1, _, st_one hj, (congrArg (Value.int .i64) hj2).trans (st_num j), rfl⟩
end Go.Proofs.YtooilemglmndeaaGreat
