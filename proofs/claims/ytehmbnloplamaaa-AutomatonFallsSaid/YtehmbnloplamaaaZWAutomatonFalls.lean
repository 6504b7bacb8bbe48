/- AutomatonFalls: what stands behind each state, by the code and by the document: the walk of the law. No condition. -/
import Derived.Test.YtehmbnloplamaaaZAuU
import Derived.Test.YtehmbnloplamaaaZgAu
namespace Go.Proofs.Ytehmbnloplamaaa
open Go.RowKit
set_option linter.unusedVariables false
open Tr Au
set_option maxRecDepth 100000 in
set_option maxHeartbeats 4000000 in
theorem automatonFalls_walk (a0 : Option Addr) (len0 cap0 : Nat) (raw : Bool) (a1 : Int) (w : World) (w0 : IsRows w a0 len0 cap0) (w2 : (Lit.int .i64 a1).wf = true) :
    Calls Try.prog 3 #[.slice a0 len0 cap0, .bool raw, .int .i64 a1] w fun e w' => e = .returned (.bool true) ∧ Below w.heap.size w w' := by
  obtain ⟨A, N, C, Z, hat⟩ := isrows_at w0
  obtain ⟨L, W, hT, hI, hl1, hl2, hw8, hd5, hx5, hB⟩ := begin13_use (cap := cap0) hat (isrows_len w0) raw
  have HBG := Lib.hid hB
  unfold BegL at HBG
  have HIW := Lib.hid hI
  have HTD := Lib.hid hd5
  have HWS := Lib.hid hx5
  obtain ⟨nl, hnl⟩ : ∃ nl, L.length = nl := ⟨_, rfl⟩
  obtain ⟨nw, hnw⟩ : ∃ nw, W.length = nw := ⟨_, rfl⟩
  have HNL := Lib.hid hnl
  have HNW := Lib.hid hnw
  rw [hnl] at HBG
  rw [hnw] at HBG
  have hnl9 : nl ≤ 41 := by omega
  have hnl1 : 1 ≤ nl := by omega
  have hnw9 : nw ≤ 8 := by omega
  clear w0 hat hT hnl hnw hI hl1 hl2 hw8 hd5 hx5 hB
  go_enter Try.func3, Try.ntmps3
  go_upto_region 2 with (go_at_call 10; refine HBG.out.mono ?_; rintro e w1 ⟨B, ab, sb, rv, la, lc, vs, wa, wc, us, rfl, hT, hrl, hrw, hb⟩; have HT := Lib.hid hT; have HRL := Lib.hid hrl; have HRW := Lib.hid hrw; have HB := Lib.hid hb; clear hT hrl hrw hb)
  have S4 := Tv.new w1 (.slice la nl lc) (.slice wa nw wc)
  have hb4 := box1T w1 (.cells #[.slice la nl lc, .slice wa nw wc] 25)
  obtain ⟨W2, hW2⟩ : ∃ W2, w1.alloc (.cells #[.slice la nl lc, .slice wa nw wc] 25) = W2 := ⟨_, rfl⟩
  rw [hW2] at S4 hb4
  try rw [hW2]
  obtain ⟨b4, hb4e⟩ : ∃ b4, w1.heap.size = b4 := ⟨_, rfl⟩
  have HT2 := Lib.hid (HT.out.later hb4)
  have HRL2 := Lib.hid (HRL.out.later hb4)
  have HRW2 := Lib.hid (HRW.out.later hb4)
  have HB2 := Lib.hid (bel_step HB.out hb4)
  rw [hb4e] at S4
  try rw [hb4e]
  have HS4 := Lib.hid S4
  clear S4 hb4 hb4e hW2 HT HRW HRL
  have HLn := Lib.hid (fun (W' : World) (hw : Below W2.heap.size W2 W') => len_P (HT2.out.later hw))
  rw [HNL.out] at HLn
  obtain ⟨x0, x1⟩ := HS4.out.cells
  have e0 : ((nl : Int) != (nl : Int)) = false := by simp
  have hBt := (Below.refl W2.heap.size W2).drew
  go_upto_region 4 with fail
  have hS : W2.drew.cell? ⟨b4, 0, none⟩ = some (.slice la nl lc) ∧ W2.drew.cell? ⟨b4, 1, none⟩ = some (.slice wa nw wc) := HS4.out.cells
  refine wp_region_held_drew (S := fun w' => w'.cell? ⟨b4, 0, none⟩ = some (.slice la nl lc) ∧ w'.cell? ⟨b4, 1, none⟩ = some (.slice wa nw wc)) (by kernel_rfl) hS (fun _ => ?_)
  refine wpAnyH_take (i := 0) (v := .pointer (some ⟨ab, 0, none⟩)) rfl (by kernel_rfl) (by kernel_rfl) (by kernel_rfl) (fun _ _ _ h => h) (Or.inl ⟨by kernel_rfl, fun w9 hSw => ?_⟩) hS ?_
  · obtain ⟨s1, s2⟩ := hSw
    go_simp
  change wpAnyH _ _ _ _ _ _ _ (Act.put _ (some 20) (.pointer (some ⟨ab, 0, none⟩))) _
  (try simp only [Act.put, List.setIfInBounds_toArray, List.set_cons_zero, List.set_cons_succ])
  refine wpAnyH_take (i := 2) (v := .pointer (some ⟨b4, 0, none⟩)) rfl (by kernel_rfl) (by kernel_rfl) (by kernel_rfl) (fun _ _ _ h => h) (Or.inl ⟨by kernel_rfl, fun w9 hSw => ?_⟩) hS ?_
  · obtain ⟨s1, s2⟩ := hSw
    go_simp
  change wpAnyH _ _ _ _ _ _ _ (Act.put _ (some 22) (.pointer (some ⟨b4, 0, none⟩))) _
  (try simp only [Act.put, List.setIfInBounds_toArray, List.set_cons_zero, List.set_cons_succ])
  refine wpAnyH_take (i := 3) (v := .slice la nl lc) rfl (by kernel_rfl) (by kernel_rfl) (by kernel_rfl) (fun _ _ _ h => h) (Or.inl ⟨by kernel_rfl, fun w9 hSw => ?_⟩) hS ?_
  · obtain ⟨s1, s2⟩ := hSw
    go_simp
  change wpAnyH _ _ _ _ _ _ _ (Act.put _ (some 23) (.slice la nl lc)) _
  (try simp only [Act.put, List.setIfInBounds_toArray, List.set_cons_zero, List.set_cons_succ])
  refine wpAnyH_take (i := 4) (v := .int .i64 (nl : Int)) rfl (by kernel_rfl) (by kernel_rfl) (by kernel_rfl) (fun _ _ _ h => h) (Or.inl ⟨by kernel_rfl, fun w9 hSw => ?_⟩) hS ?_
  · obtain ⟨s1, s2⟩ := hSw
    go_simp
  change wpAnyH _ _ _ _ _ _ _ (Act.put _ (some 24) (.int .i64 (nl : Int))) _
  (try simp only [Act.put, List.setIfInBounds_toArray, List.set_cons_zero, List.set_cons_succ])
  refine wpAnyH_ready (rs := [1]) (by kernel_rfl) (by simp) ?_
  refine AllReadyH.cons rfl (fun K hK => ?_) AllReadyH.nil
  go_simp
  refine (HLn.out _ hBt).mono ?_
  rintro e y1 ⟨rfl, rfl⟩
  refine hK.out _ _ hS (fun _ => ?_)
  clear hK K
  (try simp only [Act.put, List.setIfInBounds_toArray, List.set_cons_zero, List.set_cons_succ])
  refine wpAnyH_take (i := 5) (v := .bool false) rfl (by kernel_rfl) (by kernel_rfl) (by kernel_rfl) (fun _ _ _ h => h) (Or.inl ⟨by kernel_rfl, fun w9 hSw => ?_⟩) hS ?_
  · obtain ⟨s1, s2⟩ := hSw
    go_simp
  change wpAnyH _ _ _ _ _ _ _ (Act.put _ (some 25) (.bool false)) _
  (try simp only [Act.put, List.setIfInBounds_toArray, List.set_cons_zero, List.set_cons_succ])
  refine wpAnyH_done (by kernel_rfl) ?_ _
  (try simp only [Act.put, List.setIfInBounds_toArray, List.set_cons_zero, List.set_cons_succ])
  · clear x0 x1
    go_wp2_with fail
    go_loopw [9] (fun s9 wr => ∃ j : Nat, j ≤ nl + 2 ∧ s9 = .int .i64 ((j : Int) - 1) ∧ Below W2.heap.size W2 wr) (fun s9 _ => nl + 2 - (intOf s9 + 1).toNat)
    case atStart => exact ⟨0, by omega, by simp, hBt⟩
    case round =>
      obtain ⟨j, hj, rfl, hb⟩ := hrel
      have HB := Lib.hid hb
      obtain ⟨x0, x1⟩ := (HS4.out.later hb).cells
      clear hb
      obtain ⟨k, hk⟩ : ∃ k, (j : Int) - 1 = k := ⟨_, rfl⟩
      rw [hk]
      have HK := Lib.hid hk
      by_cases hlt : k ≤ (nl : Int)
      · have hj2 : j ≤ nl + 1 := by omega
        clear hk
        go_upto_if 38 with fail
        go_cut [10] from 26 to 75 (fun s10 wx => wr = wx ∧ ∃ v, s10 = .int .i64 v)
        case first =>
          by_cases hkn : k = (nl : Int)
          · have e8 : (k == (nl : Int)) = true := by simp [hkn]
            go_wp2_with fail
            go_meet
            case rel => exact ⟨rfl, _, rfl⟩
          · have e8 : (k == (nl : Int)) = false := by rw [beq_eq_false_iff_ne]; exact hkn
            go_wp2_with fail
            go_meet
            case rel => exact ⟨rfl, _, rfl⟩
        case rest =>
          obtain ⟨rfl, v, rfl⟩ := hcut
          have HFa := Lib.hid (fun (W' : World) (hw : Below wr.heap.size wr W') => fall_P (HT2.out.later (bel_step HB.out hw)) HIW.out (v))
          have HFb := Lib.hid (fun (W' : World) (hw : Below wr.heap.size wr W') => refFall_tr (wa := wa) (wn := nw) (wc := wc) (lc := lc) (HRL2.out.later (bel_step HB.out hw)) HIW.out.inv (by omega) (v))
          have HLa := Lib.hid (fun (W' : World) (hw : Below wr.heap.size wr W') => link_P (HT2.out.later (bel_step HB.out hw)) HIW.out (v))
          have HLb := Lib.hid (fun (W' : World) (hw : Below wr.heap.size wr W') => refLink_tr (lc := lc) (wc := wc) (HRL2.out.later (bel_step HB.out hw)) (HRW2.out.later (bel_step HB.out hw)) HIW.out (by omega) (by omega) (v))
          have HEa := Lib.hid (fun (W' : World) (hw : Below wr.heap.size wr W') => ends_P (HT2.out.later (bel_step HB.out hw)) HIW.out (by have := HNW.out; omega) (v))
          have HEb := Lib.hid (fun (W' : World) (hw : Below wr.heap.size wr W') => refEnds_tr (lc := lc) (wc := wc) (HRL2.out.later (bel_step HB.out hw)) (HRW2.out.later (bel_step HB.out hw)) (fun x hx => (HIW.out.ws x hx).2) (by omega) (by omega) (v))
          have HAa := Lib.hid (fun (W' : World) (hw : Below wr.heap.size wr W') => any_P (HT2.out.later (bel_step HB.out hw)) HIW.out (v))
          rw [any_fin HIW.out] at HAa
          unfold EndsR at HEa
          unfold REndsR at HEb
          obtain ⟨xf, hxf⟩ : ∃ x, fallV L (v) = x := ⟨_, rfl⟩
          rw [hxf] at HFa HFb
          obtain ⟨xl, hxl⟩ : ∃ x, linkV L W (v) = x := ⟨_, rfl⟩
          rw [hxl] at HLa HLb
          obtain ⟨D, hD⟩ : ∃ x, finV L W (v) = x := ⟨_, rfl⟩
          have hDl : D.length ≤ 1000 := by
            rw [← hD]; unfold finV; split
            · simp
            · exact Nat.le_trans (fin_len _ _) (by have := HNW.out; omega)
          rw [hD] at HEa HEb HAa
          obtain ⟨nd, hnd⟩ : ∃ x, D.length = x := ⟨_, rfl⟩
          rw [hnd] at HEa HEb HAa hDl
          have HND := Lib.hid hnd
          have e1 : (xf != xf) = false := by simp
          have e2 : (xl != xl) = false := by simp
          obtain ⟨zb, hzb⟩ : ∃ z, decide (0 < nd) = z := ⟨_, rfl⟩
          have e3 : (zb != zb) = false := by simp
          rw [show decide ((0 : Int) < (nd : Int)) = decide (0 < nd) by simp, hzb] at HAa
          have HZB := Lib.hid hzb
          clear hxf hxl hD hnd hzb
          have HX1 := Lib.hid (fun (W' : World) (hw : Below wr.heap.size wr W') => (HS4.out.later (bel_step HB.out hw)).cells)
          have HX0 := Lib.hid (fun (W' : World) (hw : Below wr.heap.size wr W') => load_tv (HS4.out.later (bel_step HB.out hw)))
          have ldz := HX0.out _ (Below.refl _ _)
          go_upto_region 13 with (go_at_call 12; refine (HEb.out _ (Below.refl _ _)).mono ?_; rintro e y0 ⟨ea, ec, rfl, heb, hb0⟩; have HY0 := Lib.hid hb0; have HEB := Lib.hid heb; clear heb hb0)
          have hS : y0.drew.cell? ⟨b4, 0, none⟩ = some (.slice la nl lc) ∧ y0.drew.cell? ⟨b4, 1, none⟩ = some (.slice wa nw wc) := HX1.out _ HY0.out.drew
          refine wp_region_held_drew (S := fun w' => w'.cell? ⟨b4, 0, none⟩ = some (.slice la nl lc) ∧ w'.cell? ⟨b4, 1, none⟩ = some (.slice wa nw wc)) (by kernel_rfl) hS (fun _ => ?_)
          refine wpAnyH_take (i := 0) (v := .pointer (some ⟨ab, 0, none⟩)) rfl (by kernel_rfl) (by kernel_rfl) (by kernel_rfl) (fun _ _ _ h => h) (Or.inl ⟨by kernel_rfl, fun w9 hSw => ?_⟩) hS ?_
          · obtain ⟨s1, s2⟩ := hSw
            go_simp
          change wpAnyH _ _ _ _ _ _ _ (Act.put _ (some 43) (.pointer (some ⟨ab, 0, none⟩))) _
          (try simp only [Act.put, List.setIfInBounds_toArray, List.set_cons_zero, List.set_cons_succ])
          refine wpAnyH_take (i := 1) (v := .int .i64 (v)) rfl (by kernel_rfl) (by kernel_rfl) (by kernel_rfl) (fun _ _ _ h => h) (Or.inl ⟨by kernel_rfl, fun w9 hSw => ?_⟩) hS ?_
          · obtain ⟨s1, s2⟩ := hSw
            go_simp
          change wpAnyH _ _ _ _ _ _ _ (Act.put _ (some 44) (.int .i64 (v))) _
          (try simp only [Act.put, List.setIfInBounds_toArray, List.set_cons_zero, List.set_cons_succ])
          refine wpAnyH_take (i := 3) (v := .agg #[.slice la nl lc, .slice wa nw wc]) rfl (by kernel_rfl) (by kernel_rfl) (by kernel_rfl) (fun _ _ _ h => h) (Or.inl ⟨by kernel_rfl, fun w9 hSw => ?_⟩) hS ?_
          · obtain ⟨s1, s2⟩ := hSw
            go_simp
          change wpAnyH _ _ _ _ _ _ _ (Act.put _ (some 46) (.agg #[.slice la nl lc, .slice wa nw wc])) _
          (try simp only [Act.put, List.setIfInBounds_toArray, List.set_cons_zero, List.set_cons_succ])
          refine wpAnyH_take (i := 4) (v := .int .i64 (v)) rfl (by kernel_rfl) (by kernel_rfl) (by kernel_rfl) (fun _ _ _ h => h) (Or.inl ⟨by kernel_rfl, fun w9 hSw => ?_⟩) hS ?_
          · obtain ⟨s1, s2⟩ := hSw
            go_simp
          change wpAnyH _ _ _ _ _ _ _ (Act.put _ (some 47) (.int .i64 (v))) _
          (try simp only [Act.put, List.setIfInBounds_toArray, List.set_cons_zero, List.set_cons_succ])
          refine wpAnyH_ready (rs := [2]) (by kernel_rfl) (by simp) ?_
          refine AllReadyH.cons rfl (fun K hK => ?_) AllReadyH.nil
          go_simp
          refine (HFa.out _ HY0.out.drew).mono ?_
          rintro e y1 ⟨rfl, hbb⟩
          have hbb := bel_und hbb
          have HZ1 := Lib.hid (hbb)
          have HY1 := Lib.hid (bel_step HY0.out HZ1.out)
          have hS2 := HX1.out _ HY1.out
          clear hS hbb
          have hS := hS2
          clear hS2
          refine hK.out _ _ hS (fun _ => ?_)
          clear hK K
          (try simp only [Act.put, List.setIfInBounds_toArray, List.set_cons_zero, List.set_cons_succ])
          refine wpAnyH_ready (rs := [5]) (by kernel_rfl) (by simp) ?_
          refine AllReadyH.cons rfl (fun K hK => ?_) AllReadyH.nil
          go_simp
          refine (HFb.out _ HY1.out).mono ?_
          rintro e y2 ⟨rfl, hbb⟩
          have HZ2 := Lib.hid (bel_step HZ1.out hbb)
          have HY2 := Lib.hid (bel_step HY0.out HZ2.out)
          have hS2 := HX1.out _ HY2.out
          clear hS hbb
          have hS := hS2
          clear hS2
          refine hK.out _ _ hS (fun _ => ?_)
          clear hK K
          (try simp only [Act.put, List.setIfInBounds_toArray, List.set_cons_zero, List.set_cons_succ])
          refine wpAnyH_take (i := 6) (v := .bool false) rfl (by kernel_rfl) (by kernel_rfl) (by kernel_rfl) (fun _ _ _ h => h) (Or.inl ⟨by kernel_rfl, fun w9 hSw => ?_⟩) hS ?_
          · obtain ⟨s1, s2⟩ := hSw
            go_simp
          change wpAnyH _ _ _ _ _ _ _ (Act.put _ (some 49) (.bool false)) _
          (try simp only [Act.put, List.setIfInBounds_toArray, List.set_cons_zero, List.set_cons_succ])
          refine wpAnyH_take (i := 7) (v := .bool false) rfl (by kernel_rfl) (by kernel_rfl) (by kernel_rfl) (fun _ _ _ h => h) (Or.inl ⟨by kernel_rfl, fun w9 hSw => ?_⟩) hS ?_
          · obtain ⟨s1, s2⟩ := hSw
            go_simp
          change wpAnyH _ _ _ _ _ _ _ (Act.put _ (some 50) (.bool false)) _
          (try simp only [Act.put, List.setIfInBounds_toArray, List.set_cons_zero, List.set_cons_succ])
          refine wpAnyH_take (i := 8) (v := .pointer (some ⟨ab, 0, none⟩)) rfl (by kernel_rfl) (by kernel_rfl) (by kernel_rfl) (fun _ _ _ h => h) (Or.inl ⟨by kernel_rfl, fun w9 hSw => ?_⟩) hS ?_
          · obtain ⟨s1, s2⟩ := hSw
            go_simp
          change wpAnyH _ _ _ _ _ _ _ (Act.put _ (some 51) (.pointer (some ⟨ab, 0, none⟩))) _
          (try simp only [Act.put, List.setIfInBounds_toArray, List.set_cons_zero, List.set_cons_succ])
          refine wpAnyH_take (i := 9) (v := .int .i64 (v)) rfl (by kernel_rfl) (by kernel_rfl) (by kernel_rfl) (fun _ _ _ h => h) (Or.inl ⟨by kernel_rfl, fun w9 hSw => ?_⟩) hS ?_
          · obtain ⟨s1, s2⟩ := hSw
            go_simp
          change wpAnyH _ _ _ _ _ _ _ (Act.put _ (some 52) (.int .i64 (v))) _
          (try simp only [Act.put, List.setIfInBounds_toArray, List.set_cons_zero, List.set_cons_succ])
          refine wpAnyH_take (i := 11) (v := .agg #[.slice la nl lc, .slice wa nw wc]) rfl (by kernel_rfl) (by kernel_rfl) (by kernel_rfl) (fun _ _ _ h => h) (Or.inl ⟨by kernel_rfl, fun w9 hSw => ?_⟩) hS ?_
          · obtain ⟨s1, s2⟩ := hSw
            go_simp
          change wpAnyH _ _ _ _ _ _ _ (Act.put _ (some 54) (.agg #[.slice la nl lc, .slice wa nw wc])) _
          (try simp only [Act.put, List.setIfInBounds_toArray, List.set_cons_zero, List.set_cons_succ])
          refine wpAnyH_take (i := 12) (v := .int .i64 (v)) rfl (by kernel_rfl) (by kernel_rfl) (by kernel_rfl) (fun _ _ _ h => h) (Or.inl ⟨by kernel_rfl, fun w9 hSw => ?_⟩) hS ?_
          · obtain ⟨s1, s2⟩ := hSw
            go_simp
          change wpAnyH _ _ _ _ _ _ _ (Act.put _ (some 55) (.int .i64 (v))) _
          (try simp only [Act.put, List.setIfInBounds_toArray, List.set_cons_zero, List.set_cons_succ])
          refine wpAnyH_ready (rs := [10]) (by kernel_rfl) (by simp) ?_
          refine AllReadyH.cons rfl (fun K hK => ?_) AllReadyH.nil
          go_simp
          refine (HLa.out _ HY2.out).mono ?_
          rintro e y3 ⟨rfl, hbb⟩
          have HZ3 := Lib.hid (bel_step HZ2.out hbb)
          have HY3 := Lib.hid (bel_step HY0.out HZ3.out)
          have hS2 := HX1.out _ HY3.out
          clear hS hbb
          have hS := hS2
          clear hS2
          refine hK.out _ _ hS (fun _ => ?_)
          clear hK K
          (try simp only [Act.put, List.setIfInBounds_toArray, List.set_cons_zero, List.set_cons_succ])
          refine wpAnyH_ready (rs := [13]) (by kernel_rfl) (by simp) ?_
          refine AllReadyH.cons rfl (fun K hK => ?_) AllReadyH.nil
          go_simp
          refine (HLb.out _ HY3.out).mono ?_
          rintro e y4 ⟨rfl, hbb⟩
          have HZ4 := Lib.hid (bel_step HZ3.out hbb)
          have HY4 := Lib.hid (bel_step HY0.out HZ4.out)
          have hS2 := HX1.out _ HY4.out
          clear hS hbb
          have hS := hS2
          clear hS2
          refine hK.out _ _ hS (fun _ => ?_)
          clear hK K
          (try simp only [Act.put, List.setIfInBounds_toArray, List.set_cons_zero, List.set_cons_succ])
          refine wpAnyH_take (i := 14) (v := .bool false) rfl (by kernel_rfl) (by kernel_rfl) (by kernel_rfl) (fun _ _ _ h => h) (Or.inl ⟨by kernel_rfl, fun w9 hSw => ?_⟩) hS ?_
          · obtain ⟨s1, s2⟩ := hSw
            go_simp
          change wpAnyH _ _ _ _ _ _ _ (Act.put _ (some 57) (.bool false)) _
          (try simp only [Act.put, List.setIfInBounds_toArray, List.set_cons_zero, List.set_cons_succ])
          refine wpAnyH_take (i := 15) (v := .bool false) rfl (by kernel_rfl) (by kernel_rfl) (by kernel_rfl) (fun _ _ _ h => h) (Or.inl ⟨by kernel_rfl, fun w9 hSw => ?_⟩) hS ?_
          · obtain ⟨s1, s2⟩ := hSw
            go_simp
          change wpAnyH _ _ _ _ _ _ _ (Act.put _ (some 58) (.bool false)) _
          (try simp only [Act.put, List.setIfInBounds_toArray, List.set_cons_zero, List.set_cons_succ])
          refine wpAnyH_take (i := 16) (v := .bool false) rfl (by kernel_rfl) (by kernel_rfl) (by kernel_rfl) (fun _ _ _ h => h) (Or.inl ⟨by kernel_rfl, fun w9 hSw => ?_⟩) hS ?_
          · obtain ⟨s1, s2⟩ := hSw
            go_simp
          change wpAnyH _ _ _ _ _ _ _ (Act.put _ (some 59) (.bool false)) _
          (try simp only [Act.put, List.setIfInBounds_toArray, List.set_cons_zero, List.set_cons_succ])
          refine wpAnyH_take (i := 17) (v := .pointer (some ⟨ab, 0, none⟩)) rfl (by kernel_rfl) (by kernel_rfl) (by kernel_rfl) (fun _ _ _ h => h) (Or.inl ⟨by kernel_rfl, fun w9 hSw => ?_⟩) hS ?_
          · obtain ⟨s1, s2⟩ := hSw
            go_simp
          change wpAnyH _ _ _ _ _ _ _ (Act.put _ (some 60) (.pointer (some ⟨ab, 0, none⟩))) _
          (try simp only [Act.put, List.setIfInBounds_toArray, List.set_cons_zero, List.set_cons_succ])
          refine wpAnyH_take (i := 18) (v := .int .i64 (v)) rfl (by kernel_rfl) (by kernel_rfl) (by kernel_rfl) (fun _ _ _ h => h) (Or.inl ⟨by kernel_rfl, fun w9 hSw => ?_⟩) hS ?_
          · obtain ⟨s1, s2⟩ := hSw
            go_simp
          change wpAnyH _ _ _ _ _ _ _ (Act.put _ (some 61) (.int .i64 (v))) _
          (try simp only [Act.put, List.setIfInBounds_toArray, List.set_cons_zero, List.set_cons_succ])
          refine wpAnyH_take (i := 20) (v := .slice ea nd ec) rfl (by kernel_rfl) (by kernel_rfl) (by kernel_rfl) (fun _ _ _ h => h) (Or.inl ⟨by kernel_rfl, fun w9 hSw => ?_⟩) hS ?_
          · obtain ⟨s1, s2⟩ := hSw
            go_simp
          change wpAnyH _ _ _ _ _ _ _ (Act.put _ (some 63) (.slice ea nd ec)) _
          (try simp only [Act.put, List.setIfInBounds_toArray, List.set_cons_zero, List.set_cons_succ])
          refine wpAnyH_ready (rs := [19]) (by kernel_rfl) (by simp) ?_
          refine AllReadyH.cons rfl (fun K hK => ?_) AllReadyH.nil
          go_simp
          refine (HEa.out _ HY4.out).mono ?_
          rintro e y5 ⟨fa, fc, rfl, hfa, hbb⟩
          have HFA := Lib.hid hfa
          clear hfa
          have HZ5 := Lib.hid (bel_step HZ4.out hbb)
          have HY5 := Lib.hid (bel_step HY0.out HZ5.out)
          have hS2 := HX1.out _ HY5.out
          clear hS hbb
          have hS := hS2
          clear hS2
          refine hK.out _ _ hS (fun _ => ?_)
          clear hK K
          (try simp only [Act.put, List.setIfInBounds_toArray, List.set_cons_zero, List.set_cons_succ])
          have HSA := Lib.hid (Sm.same_self fa ea nd nd fc ec D y5 (by omega) (by have := HFA.out.sl; rwa [HND.out] at this) (by have := HEB.out.sl; rw [HND.out] at this; exact this.below HZ5.out))
          refine wpAnyH_ready (rs := [21]) (by kernel_rfl) (by simp) ?_
          refine AllReadyH.cons rfl (fun K hK => ?_) AllReadyH.nil
          go_simp
          refine HSA.out.mono ?_
          rintro e y6 ⟨rfl, hbb⟩
          have HZ6 := Lib.hid (bel_step HZ5.out hbb)
          have HY6 := Lib.hid (bel_step HY0.out HZ6.out)
          have hS2 := HX1.out _ HY6.out
          clear hS hbb
          have hS := hS2
          clear hS2
          refine hK.out _ _ hS (fun _ => ?_)
          clear hK K
          (try simp only [Act.put, List.setIfInBounds_toArray, List.set_cons_zero, List.set_cons_succ])
          refine wpAnyH_take (i := 22) (v := .bool false) rfl (by kernel_rfl) (by kernel_rfl) (by kernel_rfl) (fun _ _ _ h => h) (Or.inl ⟨by kernel_rfl, fun w9 hSw => ?_⟩) hS ?_
          · obtain ⟨s1, s2⟩ := hSw
            go_simp
          change wpAnyH _ _ _ _ _ _ _ (Act.put _ (some 65) (.bool false)) _
          (try simp only [Act.put, List.setIfInBounds_toArray, List.set_cons_zero, List.set_cons_succ])
          refine wpAnyH_take (i := 23) (v := .bool false) rfl (by kernel_rfl) (by kernel_rfl) (by kernel_rfl) (fun _ _ _ h => h) (Or.inl ⟨by kernel_rfl, fun w9 hSw => ?_⟩) hS ?_
          · obtain ⟨s1, s2⟩ := hSw
            go_simp
          change wpAnyH _ _ _ _ _ _ _ (Act.put _ (some 66) (.bool false)) _
          (try simp only [Act.put, List.setIfInBounds_toArray, List.set_cons_zero, List.set_cons_succ])
          refine wpAnyH_take (i := 24) (v := .bool false) rfl (by kernel_rfl) (by kernel_rfl) (by kernel_rfl) (fun _ _ _ h => h) (Or.inl ⟨by kernel_rfl, fun w9 hSw => ?_⟩) hS ?_
          · obtain ⟨s1, s2⟩ := hSw
            go_simp
          change wpAnyH _ _ _ _ _ _ _ (Act.put _ (some 67) (.bool false)) _
          (try simp only [Act.put, List.setIfInBounds_toArray, List.set_cons_zero, List.set_cons_succ])
          refine wpAnyH_take (i := 25) (v := .pointer (some ⟨ab, 0, none⟩)) rfl (by kernel_rfl) (by kernel_rfl) (by kernel_rfl) (fun _ _ _ h => h) (Or.inl ⟨by kernel_rfl, fun w9 hSw => ?_⟩) hS ?_
          · obtain ⟨s1, s2⟩ := hSw
            go_simp
          change wpAnyH _ _ _ _ _ _ _ (Act.put _ (some 68) (.pointer (some ⟨ab, 0, none⟩))) _
          (try simp only [Act.put, List.setIfInBounds_toArray, List.set_cons_zero, List.set_cons_succ])
          refine wpAnyH_take (i := 26) (v := .int .i64 (v)) rfl (by kernel_rfl) (by kernel_rfl) (by kernel_rfl) (fun _ _ _ h => h) (Or.inl ⟨by kernel_rfl, fun w9 hSw => ?_⟩) hS ?_
          · obtain ⟨s1, s2⟩ := hSw
            go_simp
          change wpAnyH _ _ _ _ _ _ _ (Act.put _ (some 69) (.int .i64 (v))) _
          (try simp only [Act.put, List.setIfInBounds_toArray, List.set_cons_zero, List.set_cons_succ])
          refine wpAnyH_take (i := 28) (v := .slice ea nd ec) rfl (by kernel_rfl) (by kernel_rfl) (by kernel_rfl) (fun _ _ _ h => h) (Or.inl ⟨by kernel_rfl, fun w9 hSw => ?_⟩) hS ?_
          · obtain ⟨s1, s2⟩ := hSw
            go_simp
          change wpAnyH _ _ _ _ _ _ _ (Act.put _ (some 71) (.slice ea nd ec)) _
          (try simp only [Act.put, List.setIfInBounds_toArray, List.set_cons_zero, List.set_cons_succ])
          refine wpAnyH_take (i := 29) (v := .int .i64 (nd : Int)) rfl (by kernel_rfl) (by kernel_rfl) (by kernel_rfl) (fun _ _ _ h => h) (Or.inl ⟨by kernel_rfl, fun w9 hSw => ?_⟩) hS ?_
          · obtain ⟨s1, s2⟩ := hSw
            go_simp
          change wpAnyH _ _ _ _ _ _ _ (Act.put _ (some 72) (.int .i64 (nd : Int))) _
          (try simp only [Act.put, List.setIfInBounds_toArray, List.set_cons_zero, List.set_cons_succ])
          refine wpAnyH_take (i := 30) (v := .bool zb) rfl (by kernel_rfl) (by kernel_rfl) (by kernel_rfl) (fun _ _ _ h => h) (Or.inl ⟨by kernel_rfl, fun w9 hSw => ?_⟩) hS ?_
          · obtain ⟨s1, s2⟩ := hSw
            go_simp
            exact HZB.out
          change wpAnyH _ _ _ _ _ _ _ (Act.put _ (some 73) (.bool zb)) _
          (try simp only [Act.put, List.setIfInBounds_toArray, List.set_cons_zero, List.set_cons_succ])
          refine wpAnyH_ready (rs := [27]) (by kernel_rfl) (by simp) ?_
          refine AllReadyH.cons rfl (fun K hK => ?_) AllReadyH.nil
          go_simp
          refine (HAa.out _ HY6.out).mono ?_
          rintro e y7 ⟨rfl, hbb⟩
          have HZ7 := Lib.hid (bel_step HZ6.out hbb)
          have HY7 := Lib.hid (bel_step HY0.out HZ7.out)
          have hS2 := HX1.out _ HY7.out
          clear hS hbb
          have hS := hS2
          clear hS2
          refine hK.out _ _ hS (fun _ => ?_)
          clear hK K
          (try simp only [Act.put, List.setIfInBounds_toArray, List.set_cons_zero, List.set_cons_succ])
          refine wpAnyH_take (i := 31) (v := .bool false) rfl (by kernel_rfl) (by kernel_rfl) (by kernel_rfl) (fun _ _ _ h => h) (Or.inl ⟨by kernel_rfl, fun w9 hSw => ?_⟩) hS ?_
          · obtain ⟨s1, s2⟩ := hSw
            go_simp
          change wpAnyH _ _ _ _ _ _ _ (Act.put _ (some 74) (.bool false)) _
          (try simp only [Act.put, List.setIfInBounds_toArray, List.set_cons_zero, List.set_cons_succ])
          refine wpAnyH_take (i := 32) (v := .bool false) rfl (by kernel_rfl) (by kernel_rfl) (by kernel_rfl) (fun _ _ _ h => h) (Or.inl ⟨by kernel_rfl, fun w9 hSw => ?_⟩) hS ?_
          · obtain ⟨s1, s2⟩ := hSw
            go_simp
          change wpAnyH _ _ _ _ _ _ _ (Act.put _ (some 75) (.bool false)) _
          (try simp only [Act.put, List.setIfInBounds_toArray, List.set_cons_zero, List.set_cons_succ])
          refine wpAnyH_done (by kernel_rfl) ?_ _
          (try simp only [Act.put, List.setIfInBounds_toArray, List.set_cons_zero, List.set_cons_succ])
          go_wp2_with fail
          go_roundw
          case rel =>
            have := HK.out
            rw [IntWalk.wrap64_in (k + 1) (by omega)]
            exact ⟨j + 1, by omega, congrArg (Value.int IntKind.i64) (by omega), bel_step HB.out HY7.out⟩
          case measure =>
            have := HK.out
            rw [IntWalk.wrap64_in (k + 1) (by omega)]
            simp only [intOf]; omega
      · have hj3 : j = nl + 2 := by omega
        clear hk
        go_wp2_with (go_at_call 20; refine (lives13_any _).mono ?_; rintro e y3 ⟨rfl, hb3⟩; have HY3 := Lib.hid hb3; clear hb3)
        go_ret
        exact ⟨rfl, bel_step HB2.out (bel_step HB.out HY3.out)⟩
end Go.Proofs.Ytehmbnloplamaaa
