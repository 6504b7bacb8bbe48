/- AutomatonSame: where the same words end, by the code and by the document: the walk of the law. No condition. -/
import Derived.Test.YtehmbnloplamaaaZAuU
import Derived.Test.YtehmbnloplamaaaZgAu
namespace Go.Proofs.Ytehmbnloplamaaa
open Go.RowKit
set_option linter.unusedVariables false
open Tr Au
set_option maxRecDepth 100000 in
set_option maxHeartbeats 4000000 in
theorem automatonSame_walk (a0 : Option Addr) (len0 cap0 : Nat) (a1 : Int) (a2 : Int) (w : World) (w0 : IsRows w a0 len0 cap0) (w1 : (Lit.int .i64 a1).wf = true) (w2 : (Lit.int .i64 a2).wf = true) :
    Calls Try.prog 6 #[.slice a0 len0 cap0, .int .i64 a1, .int .i64 a2] w fun e w' => e = .returned (.bool true) ∧ Below w.heap.size w w' := by
  obtain ⟨A, N, C, Z, hat⟩ := isrows_at w0
  obtain ⟨L, W, hT, hI, hl1, hl2, hw8, hd5, hx5, hB⟩ := begin13_use (cap := cap0) hat (isrows_len w0) false
  have HBG := Lib.hid hB
  unfold BegL at HBG
  have HIW := Lib.hid hI
  have HTD := Lib.hid hd5
  have HWS := Lib.hid hx5
  obtain ⟨nl, hnl⟩ : ∃ nl, L.length = nl := ⟨_, rfl⟩
  obtain ⟨nw, hnw⟩ : ∃ nw, W.length = nw := ⟨_, rfl⟩
  have HNL := Lib.hid hnl
  have HNW := Lib.hid hnw
  rw [hnl] at HBG
  rw [hnw] at HBG
  have hnl9 : nl ≤ 41 := by omega
  have hnl1 : 1 ≤ nl := by omega
  have hnw9 : nw ≤ 8 := by omega
  clear w0 hat hT hnl hnw hI hl1 hl2 hw8 hd5 hx5 hB
  go_enter Try.func6, Try.ntmps6
  go_upto_region 2 with (go_at_call 10; refine HBG.out.mono ?_; rintro e w1 ⟨B, ab, sb, rv, la, lc, vs, wa, wc, us, rfl, hT, hrl, hrw, hb⟩; have HT := Lib.hid hT; have HRL := Lib.hid hrl; have HRW := Lib.hid hrw; have HB := Lib.hid hb; clear hT hrl hrw hb)
  have S4 := Tv.new w1 (.slice la nl lc) (.slice wa nw wc)
  have hb4 := box1T w1 (.cells #[.slice la nl lc, .slice wa nw wc] 25)
  obtain ⟨W2, hW2⟩ : ∃ W2, w1.alloc (.cells #[.slice la nl lc, .slice wa nw wc] 25) = W2 := ⟨_, rfl⟩
  rw [hW2] at S4 hb4
  try rw [hW2]
  obtain ⟨b4, hb4e⟩ : ∃ b4, w1.heap.size = b4 := ⟨_, rfl⟩
  have HT2 := Lib.hid (HT.out.later hb4)
  have HRL2 := Lib.hid (HRL.out.later hb4)
  have HRW2 := Lib.hid (HRW.out.later hb4)
  have HB2 := Lib.hid (bel_step HB.out hb4)
  rw [hb4e] at S4
  try rw [hb4e]
  have HS4 := Lib.hid S4
  clear S4 hb4 hb4e hW2 HT HRW HRL
  go_wp2_with fail
  go_loopw [9] (fun s9 wr => ∃ j : Nat, j ≤ nl + 2 ∧ s9 = .int .i64 ((j : Int) - 1) ∧ Below W2.heap.size W2 wr) (fun s9 _ => nl + 2 - (intOf s9 + 1).toNat)
  case atStart => exact ⟨0, by omega, by simp, Below.refl _ _⟩
  case round =>
    obtain ⟨j, hj, rfl, hb⟩ := hrel
    have HB := Lib.hid hb
    obtain ⟨x0, x1⟩ := (HS4.out.later hb).cells
    clear hb
    obtain ⟨k, hk⟩ : ∃ k, (j : Int) - 1 = k := ⟨_, rfl⟩
    rw [hk]
    have HK := Lib.hid hk
    by_cases hlt : k ≤ (nl : Int)
    · have hj2 : j ≤ nl + 1 := by omega
      have hkm : (-1 : Int) ≤ k := by omega
      clear hk
      obtain ⟨W6, rfl⟩ : ∃ W6, W6 = wr := ⟨_, rfl⟩
      go_wp2_with fail
      go_loopw [10] (fun s10 wz => ∃ i : Nat, i ≤ nl + 2 ∧ s10 = .int .i64 ((i : Int) - 1) ∧ Below W6.heap.size W6 wz) (fun s10 _ => nl + 2 - (intOf s10 + 1).toNat)
      case atStart => exact ⟨0, by omega, by simp, Below.refl _ _⟩
      case round =>
        obtain ⟨i, hi, rfl, hbz⟩ := hrel
        have HBZ := Lib.hid hbz
        have HBr := Lib.hid (bel_step HB.out hbz)
        obtain ⟨z0, z1⟩ := (HS4.out.later HBr.out).cells
        clear hbz
        obtain ⟨q, hq⟩ : ∃ q, (i : Int) - 1 = q := ⟨_, rfl⟩
        rw [hq]
        have HQ := Lib.hid hq
        by_cases hqt : q ≤ (nl : Int)
        · have hi2 : i ≤ nl + 1 := by omega
          have hqm : (-1 : Int) ≤ q := by omega
          clear hq
          go_upto_region 10 with fail
          go_cut [11] from 27 to 68 (fun s11 wx => wr = wx ∧ s11 = .bool (decide (0 ≤ k ∧ 0 ≤ q ∧ k < (nl : Int) ∧ q < (nl : Int))))
          case first =>
            by_cases h1 : 0 ≤ k
            · by_cases h2 : 0 ≤ q
              · by_cases h3 : k < (nl : Int)
                · by_cases h4 : q < (nl : Int)
                  · have e9 : decide (0 ≤ k ∧ 0 ≤ q ∧ k < (nl : Int) ∧ q < (nl : Int)) = true := decide_eq_true ⟨h1, h2, h3, h4⟩
                    go_wp2_with fail
                    go_meet
                    case rel => exact ⟨rfl, by rw [e9]⟩
                  · have e9 : decide (0 ≤ k ∧ 0 ≤ q ∧ k < (nl : Int) ∧ q < (nl : Int)) = false := decide_eq_false (fun h => h4 h.2.2.2)
                    go_wp2_with fail
                    go_meet
                    case rel => exact ⟨rfl, by rw [e9]⟩
                · have e9 : decide (0 ≤ k ∧ 0 ≤ q ∧ k < (nl : Int) ∧ q < (nl : Int)) = false := decide_eq_false (fun h => h3 h.2.2.1)
                  go_wp2_with fail
                  go_meet
                  case rel => exact ⟨rfl, by rw [e9]⟩
              · have e9 : decide (0 ≤ k ∧ 0 ≤ q ∧ k < (nl : Int) ∧ q < (nl : Int)) = false := decide_eq_false (fun h => h2 h.2.1)
                go_wp2_with fail
                go_meet
                case rel => exact ⟨rfl, by rw [e9]⟩
            · have e9 : decide (0 ≤ k ∧ 0 ≤ q ∧ k < (nl : Int) ∧ q < (nl : Int)) = false := decide_eq_false (fun h => h1 h.1)
              go_wp2_with fail
              go_meet
              case rel => exact ⟨rfl, by rw [e9]⟩
          case rest =>
            obtain ⟨rfl, rfl⟩ := hcut
            have HSa := Lib.hid (fun (W' : World) (hw : Below wr.heap.size wr W') => same_P (HT2.out.later (bel_step HBr.out hw)) HIW.out k q)
            have HEb := Lib.hid (fun (z : Int) (W' : World) (hw : Below wr.heap.size wr W') => refEnds_tr (lc := lc) (wc := wc) (HRL2.out.later (bel_step HBr.out hw)) (HRW2.out.later (bel_step HBr.out hw)) (fun x hx => (HIW.out.ws x hx).2) (by omega) (by omega) z)
            rw [same_fin HIW.out, HNL.out] at HSa
            have hDl : ∀ z, (finV L W z).length ≤ 1000 := fun z => by
              unfold finV; split
              · simp
              · exact Nat.le_trans (fin_len _ _) (by have := HNW.out; omega)
            have HDL := Lib.hid hDl
            clear hDl
            have HX1 := Lib.hid (fun (W' : World) (hw : Below wr.heap.size wr W') => (HS4.out.later (bel_step HBr.out hw)).cells)
            go_upto_region 11 with fail
            by_cases hin : 0 ≤ k ∧ 0 ≤ q ∧ k < (nl : Int) ∧ q < (nl : Int)
            · have e9 : decide (0 ≤ k ∧ 0 ≤ q ∧ k < (nl : Int) ∧ q < (nl : Int)) = true := decide_eq_true hin
              rw [e9]
              obtain ⟨z, hz⟩ : ∃ z, decide (finV L W k = finV L W q) = z := ⟨_, rfl⟩
              rw [show decide (0 ≤ k ∧ k < (nl : Int) ∧ 0 ≤ q ∧ q < (nl : Int) ∧ finV L W k = finV L W q) = z by rw [← hz, decide_eq_decide]; exact ⟨fun h => h.2.2.2.2, fun h => ⟨hin.1, hin.2.2.1, hin.2.1, hin.2.2.2, h⟩⟩] at HSa
              have ez : (z != z) = false := by simp
              clear hin e9
              have hS : wr.drew.cell? ⟨b4, 0, none⟩ = some (.slice la nl lc) ∧ wr.drew.cell? ⟨b4, 1, none⟩ = some (.slice wa nw wc) := HX1.out _ (Below.refl _ _).drew
              refine wp_region_held_drew (S := fun w' => w'.cell? ⟨b4, 0, none⟩ = some (.slice la nl lc) ∧ w'.cell? ⟨b4, 1, none⟩ = some (.slice wa nw wc)) (by kernel_rfl) hS (fun _ => ?_)
              refine wpAnyH_take (i := 0) (v := .pointer (some ⟨ab, 0, none⟩)) rfl (by kernel_rfl) (by kernel_rfl) (by kernel_rfl) (fun _ _ _ h => h) (Or.inl ⟨by kernel_rfl, fun w9 hSw => ?_⟩) hS ?_
              · obtain ⟨s1, s2⟩ := hSw
                go_simp
              change wpAnyH _ _ _ _ _ _ _ (Act.put _ (some 54) (.pointer (some ⟨ab, 0, none⟩))) _
              (try simp only [Act.put, List.setIfInBounds_toArray, List.set_cons_zero, List.set_cons_succ])
              refine wpAnyH_take (i := 1) (v := .int .i64 k) rfl (by kernel_rfl) (by kernel_rfl) (by kernel_rfl) (fun _ _ _ h => h) (Or.inl ⟨by kernel_rfl, fun w9 hSw => ?_⟩) hS ?_
              · obtain ⟨s1, s2⟩ := hSw
                go_simp
              change wpAnyH _ _ _ _ _ _ _ (Act.put _ (some 55) (.int .i64 k)) _
              (try simp only [Act.put, List.setIfInBounds_toArray, List.set_cons_zero, List.set_cons_succ])
              refine wpAnyH_take (i := 2) (v := .int .i64 q) rfl (by kernel_rfl) (by kernel_rfl) (by kernel_rfl) (fun _ _ _ h => h) (Or.inl ⟨by kernel_rfl, fun w9 hSw => ?_⟩) hS ?_
              · obtain ⟨s1, s2⟩ := hSw
                go_simp
              change wpAnyH _ _ _ _ _ _ _ (Act.put _ (some 56) (.int .i64 q)) _
              (try simp only [Act.put, List.setIfInBounds_toArray, List.set_cons_zero, List.set_cons_succ])
              refine wpAnyH_take (i := 4) (v := .bool true) rfl (by kernel_rfl) (by kernel_rfl) (by kernel_rfl) (fun _ _ _ h => h) (Or.inl ⟨by kernel_rfl, fun w9 hSw => ?_⟩) hS ?_
              · obtain ⟨s1, s2⟩ := hSw
                go_simp
              change wpAnyH _ _ _ _ _ _ _ (Act.put _ (some 58) (.bool true)) _
              (try simp only [Act.put, List.setIfInBounds_toArray, List.set_cons_zero, List.set_cons_succ])
              refine wpAnyH_ready (rs := [3]) (by kernel_rfl) (by simp) ?_
              refine AllReadyH.cons rfl (fun K hK => ?_) AllReadyH.nil
              go_simp
              refine (HSa.out _ (Below.refl _ _).drew).mono ?_
              rintro e y1 ⟨rfl, hbb⟩
              have HY1 := Lib.hid (bel_und hbb)
              have hS2 := HX1.out _ HY1.out
              clear hS hbb
              have hS := hS2
              clear hS2
              refine hK.out _ _ hS (fun _ => ?_)
              clear hK K
              (try simp only [Act.put, List.setIfInBounds_toArray, List.set_cons_zero, List.set_cons_succ])
              refine wpAnyH_take (i := 5) (v := .bool true) rfl (by kernel_rfl) (by kernel_rfl) (by kernel_rfl) (fun _ _ _ h => h) (Or.inl ⟨by kernel_rfl, fun w9 hSw => ?_⟩) hS ?_
              · obtain ⟨s1, s2⟩ := hSw
                go_simp
              change wpAnyH _ _ _ _ _ _ _ (Act.put _ (some 59) (.bool true)) _
              (try simp only [Act.put, List.setIfInBounds_toArray, List.set_cons_zero, List.set_cons_succ])
              refine wpAnyH_take (i := 6) (v := .agg #[.slice la nl lc, .slice wa nw wc]) rfl (by kernel_rfl) (by kernel_rfl) (by kernel_rfl) (fun _ _ _ h => h) (Or.inl ⟨by kernel_rfl, fun w9 hSw => ?_⟩) hS ?_
              · obtain ⟨s1, s2⟩ := hSw
                go_simp
              change wpAnyH _ _ _ _ _ _ _ (Act.put _ (some 60) (.agg #[.slice la nl lc, .slice wa nw wc])) _
              (try simp only [Act.put, List.setIfInBounds_toArray, List.set_cons_zero, List.set_cons_succ])
              refine wpAnyH_take (i := 7) (v := .int .i64 k) rfl (by kernel_rfl) (by kernel_rfl) (by kernel_rfl) (fun _ _ _ h => h) (Or.inl ⟨by kernel_rfl, fun w9 hSw => ?_⟩) hS ?_
              · obtain ⟨s1, s2⟩ := hSw
                go_simp
              change wpAnyH _ _ _ _ _ _ _ (Act.put _ (some 61) (.int .i64 k)) _
              (try simp only [Act.put, List.setIfInBounds_toArray, List.set_cons_zero, List.set_cons_succ])
              refine wpAnyH_take (i := 9) (v := .agg #[.slice la nl lc, .slice wa nw wc]) rfl (by kernel_rfl) (by kernel_rfl) (by kernel_rfl) (fun _ _ _ h => h) (Or.inl ⟨by kernel_rfl, fun w9 hSw => ?_⟩) hS ?_
              · obtain ⟨s1, s2⟩ := hSw
                go_simp
              change wpAnyH _ _ _ _ _ _ _ (Act.put _ (some 63) (.agg #[.slice la nl lc, .slice wa nw wc])) _
              (try simp only [Act.put, List.setIfInBounds_toArray, List.set_cons_zero, List.set_cons_succ])
              refine wpAnyH_take (i := 10) (v := .int .i64 q) rfl (by kernel_rfl) (by kernel_rfl) (by kernel_rfl) (fun _ _ _ h => h) (Or.inl ⟨by kernel_rfl, fun w9 hSw => ?_⟩) hS ?_
              · obtain ⟨s1, s2⟩ := hSw
                go_simp
              change wpAnyH _ _ _ _ _ _ _ (Act.put _ (some 64) (.int .i64 q)) _
              (try simp only [Act.put, List.setIfInBounds_toArray, List.set_cons_zero, List.set_cons_succ])
              refine wpAnyH_ready (rs := [8]) (by kernel_rfl) (by simp) ?_
              refine AllReadyH.cons rfl (fun K hK => ?_) AllReadyH.nil
              go_simp
              refine (HEb.out k _ HY1.out).mono ?_
              rintro e y2 ⟨ka, kc, rfl, hka, hbb⟩
              have HKA := Lib.hid hka
              clear hka
              have HY2 := Lib.hid (bel_step HY1.out hbb)
              have hS2 := HX1.out _ HY2.out
              clear hS hbb
              have hS := hS2
              clear hS2
              refine hK.out _ _ hS (fun _ => ?_)
              clear hK K
              (try simp only [Act.put, List.setIfInBounds_toArray, List.set_cons_zero, List.set_cons_succ])
              refine wpAnyH_ready (rs := [11]) (by kernel_rfl) (by simp) ?_
              refine AllReadyH.cons rfl (fun K hK => ?_) AllReadyH.nil
              go_simp
              refine (HEb.out q _ HY2.out).mono ?_
              rintro e y3 ⟨qa, qc, rfl, hqa, hbb⟩
              have HQA := Lib.hid hqa
              have HKB := Lib.hid (HKA.out.later hbb)
              clear hqa
              have HY3 := Lib.hid (bel_step HY2.out hbb)
              have hS2 := HX1.out _ HY3.out
              clear hS hbb
              have hS := hS2
              clear hS2
              refine hK.out _ _ hS (fun _ => ?_)
              clear hK K
              (try simp only [Act.put, List.setIfInBounds_toArray, List.set_cons_zero, List.set_cons_succ])
              refine wpAnyH_ready (rs := [12]) (by kernel_rfl) (by simp) ?_
              refine AllReadyH.cons rfl (fun K hK => ?_) AllReadyH.nil
              go_simp
              refine (Sm.same_any ka qa _ _ kc qc (finV L W k) (finV L W q) y3 (by have := HDL.out k; omega) HKB.out.sl HQA.out.sl).mono ?_
              rintro e y4 ⟨rfl, hbb⟩
              have HY4 := Lib.hid (bel_step HY3.out hbb)
              have hS2 := HX1.out _ HY4.out
              clear hS hbb
              have hS := hS2
              clear hS2
              refine hK.out _ _ hS (fun _ => ?_)
              clear hK K
              (try simp only [Act.put, List.setIfInBounds_toArray, List.set_cons_zero, List.set_cons_succ])
              refine wpAnyH_take (i := 13) (v := .bool z) rfl (by kernel_rfl) (by kernel_rfl) (by kernel_rfl) (fun _ _ _ h => h) (Or.inl ⟨by kernel_rfl, fun w9 hSw => ?_⟩) hS ?_
              · obtain ⟨s1, s2⟩ := hSw
                go_simp
              change wpAnyH _ _ _ _ _ _ _ (Act.put _ (some 67) (.bool z)) _
              (try simp only [Act.put, List.setIfInBounds_toArray, List.set_cons_zero, List.set_cons_succ])
              refine wpAnyH_take (i := 14) (v := .bool false) rfl (by kernel_rfl) (by kernel_rfl) (by kernel_rfl) (fun _ _ _ h => h) (Or.inl ⟨by kernel_rfl, fun w9 hSw => ?_⟩) hS ?_
              · obtain ⟨s1, s2⟩ := hSw
                go_simp
              change wpAnyH _ _ _ _ _ _ _ (Act.put _ (some 68) (.bool false)) _
              (try simp only [Act.put, List.setIfInBounds_toArray, List.set_cons_zero, List.set_cons_succ])
              refine wpAnyH_done (by kernel_rfl) ?_ _
              (try simp only [Act.put, List.setIfInBounds_toArray, List.set_cons_zero, List.set_cons_succ])
              go_wp2_with fail
              go_roundw
              case rel =>
                have := HQ.out
                try rw [IntWalk.wrap64_in (q + 1) (by omega)]
                exact ⟨i + 1, by omega, congrArg (Value.int IntKind.i64) (by omega), bel_step HBZ.out HY4.out⟩
              case measure =>
                have := HQ.out
                try rw [IntWalk.wrap64_in (q + 1) (by omega)]
                simp only [intOf]; omega
            · have e9 : decide (0 ≤ k ∧ 0 ≤ q ∧ k < (nl : Int) ∧ q < (nl : Int)) = false := decide_eq_false hin
              rw [e9]
              rw [show decide (0 ≤ k ∧ k < (nl : Int) ∧ 0 ≤ q ∧ q < (nl : Int) ∧ finV L W k = finV L W q) = false from decide_eq_false (fun h => hin ⟨h.1, h.2.2.1, h.2.1, h.2.2.2.1⟩)] at HSa
              clear hin e9
              have hS : wr.drew.cell? ⟨b4, 0, none⟩ = some (.slice la nl lc) ∧ wr.drew.cell? ⟨b4, 1, none⟩ = some (.slice wa nw wc) := HX1.out _ (Below.refl _ _).drew
              refine wp_region_held_drew (S := fun w' => w'.cell? ⟨b4, 0, none⟩ = some (.slice la nl lc) ∧ w'.cell? ⟨b4, 1, none⟩ = some (.slice wa nw wc)) (by kernel_rfl) hS (fun _ => ?_)
              refine wpAnyH_take (i := 0) (v := .pointer (some ⟨ab, 0, none⟩)) rfl (by kernel_rfl) (by kernel_rfl) (by kernel_rfl) (fun _ _ _ h => h) (Or.inl ⟨by kernel_rfl, fun w9 hSw => ?_⟩) hS ?_
              · obtain ⟨s1, s2⟩ := hSw
                go_simp
              change wpAnyH _ _ _ _ _ _ _ (Act.put _ (some 54) (.pointer (some ⟨ab, 0, none⟩))) _
              (try simp only [Act.put, List.setIfInBounds_toArray, List.set_cons_zero, List.set_cons_succ])
              refine wpAnyH_take (i := 1) (v := .int .i64 k) rfl (by kernel_rfl) (by kernel_rfl) (by kernel_rfl) (fun _ _ _ h => h) (Or.inl ⟨by kernel_rfl, fun w9 hSw => ?_⟩) hS ?_
              · obtain ⟨s1, s2⟩ := hSw
                go_simp
              change wpAnyH _ _ _ _ _ _ _ (Act.put _ (some 55) (.int .i64 k)) _
              (try simp only [Act.put, List.setIfInBounds_toArray, List.set_cons_zero, List.set_cons_succ])
              refine wpAnyH_take (i := 2) (v := .int .i64 q) rfl (by kernel_rfl) (by kernel_rfl) (by kernel_rfl) (fun _ _ _ h => h) (Or.inl ⟨by kernel_rfl, fun w9 hSw => ?_⟩) hS ?_
              · obtain ⟨s1, s2⟩ := hSw
                go_simp
              change wpAnyH _ _ _ _ _ _ _ (Act.put _ (some 56) (.int .i64 q)) _
              (try simp only [Act.put, List.setIfInBounds_toArray, List.set_cons_zero, List.set_cons_succ])
              refine wpAnyH_take (i := 4) (v := .bool false) rfl (by kernel_rfl) (by kernel_rfl) (by kernel_rfl) (fun _ _ _ h => h) (Or.inl ⟨by kernel_rfl, fun w9 hSw => ?_⟩) hS ?_
              · obtain ⟨s1, s2⟩ := hSw
                go_simp
              change wpAnyH _ _ _ _ _ _ _ (Act.put _ (some 58) (.bool false)) _
              (try simp only [Act.put, List.setIfInBounds_toArray, List.set_cons_zero, List.set_cons_succ])
              refine wpAnyH_ready (rs := [3]) (by kernel_rfl) (by simp) ?_
              refine AllReadyH.cons rfl (fun K hK => ?_) AllReadyH.nil
              go_simp
              refine (HSa.out _ (Below.refl _ _).drew).mono ?_
              rintro e y1 ⟨rfl, hbb⟩
              have HY1 := Lib.hid (bel_und hbb)
              have hS2 := HX1.out _ HY1.out
              clear hS hbb
              have hS := hS2
              clear hS2
              refine hK.out _ _ hS (fun _ => ?_)
              clear hK K
              (try simp only [Act.put, List.setIfInBounds_toArray, List.set_cons_zero, List.set_cons_succ])
              refine wpAnyH_take (i := 5) (v := .bool false) rfl (by kernel_rfl) (by kernel_rfl) (by kernel_rfl) (fun _ _ _ h => h) (Or.inl ⟨by kernel_rfl, fun w9 hSw => ?_⟩) hS ?_
              · obtain ⟨s1, s2⟩ := hSw
                go_simp
              change wpAnyH _ _ _ _ _ _ _ (Act.put _ (some 59) (.bool false)) _
              (try simp only [Act.put, List.setIfInBounds_toArray, List.set_cons_zero, List.set_cons_succ])
              refine wpAnyH_take (i := 6) (v := undef) rfl (by kernel_rfl) (by kernel_rfl) (by kernel_rfl) (fun _ _ _ h => h) (Or.inr ⟨by kernel_rfl, rfl⟩) hS ?_
              change wpAnyH _ _ _ _ _ _ _ (Act.put _ (some 60) (undef)) _
              (try simp only [Act.put, List.setIfInBounds_toArray, List.set_cons_zero, List.set_cons_succ])
              refine wpAnyH_take (i := 7) (v := undef) rfl (by kernel_rfl) (by kernel_rfl) (by kernel_rfl) (fun _ _ _ h => h) (Or.inr ⟨by kernel_rfl, rfl⟩) hS ?_
              change wpAnyH _ _ _ _ _ _ _ (Act.put _ (some 61) (undef)) _
              (try simp only [Act.put, List.setIfInBounds_toArray, List.set_cons_zero, List.set_cons_succ])
              refine wpAnyH_take (i := 9) (v := undef) rfl (by kernel_rfl) (by kernel_rfl) (by kernel_rfl) (fun _ _ _ h => h) (Or.inr ⟨by kernel_rfl, rfl⟩) hS ?_
              change wpAnyH _ _ _ _ _ _ _ (Act.put _ (some 63) (undef)) _
              (try simp only [Act.put, List.setIfInBounds_toArray, List.set_cons_zero, List.set_cons_succ])
              refine wpAnyH_take (i := 10) (v := undef) rfl (by kernel_rfl) (by kernel_rfl) (by kernel_rfl) (fun _ _ _ h => h) (Or.inr ⟨by kernel_rfl, rfl⟩) hS ?_
              change wpAnyH _ _ _ _ _ _ _ (Act.put _ (some 64) (undef)) _
              (try simp only [Act.put, List.setIfInBounds_toArray, List.set_cons_zero, List.set_cons_succ])
              refine wpAnyH_take (i := 8) (v := undef) rfl (by kernel_rfl) (by kernel_rfl) (by kernel_rfl) (fun _ _ _ h => h) (Or.inr ⟨by kernel_rfl, rfl⟩) hS ?_
              change wpAnyH _ _ _ _ _ _ _ (Act.put _ (some 62) (undef)) _
              (try simp only [Act.put, List.setIfInBounds_toArray, List.set_cons_zero, List.set_cons_succ])
              refine wpAnyH_take (i := 11) (v := undef) rfl (by kernel_rfl) (by kernel_rfl) (by kernel_rfl) (fun _ _ _ h => h) (Or.inr ⟨by kernel_rfl, rfl⟩) hS ?_
              change wpAnyH _ _ _ _ _ _ _ (Act.put _ (some 65) (undef)) _
              (try simp only [Act.put, List.setIfInBounds_toArray, List.set_cons_zero, List.set_cons_succ])
              refine wpAnyH_take (i := 12) (v := undef) rfl (by kernel_rfl) (by kernel_rfl) (by kernel_rfl) (fun _ _ _ h => h) (Or.inr ⟨by kernel_rfl, rfl⟩) hS ?_
              change wpAnyH _ _ _ _ _ _ _ (Act.put _ (some 66) (undef)) _
              (try simp only [Act.put, List.setIfInBounds_toArray, List.set_cons_zero, List.set_cons_succ])
              refine wpAnyH_take (i := 13) (v := .bool false) rfl (by kernel_rfl) (by kernel_rfl) (by kernel_rfl) (fun _ _ _ h => h) (Or.inl ⟨by kernel_rfl, fun w9 hSw => ?_⟩) hS ?_
              · obtain ⟨s1, s2⟩ := hSw
                go_simp
              change wpAnyH _ _ _ _ _ _ _ (Act.put _ (some 67) (.bool false)) _
              (try simp only [Act.put, List.setIfInBounds_toArray, List.set_cons_zero, List.set_cons_succ])
              refine wpAnyH_take (i := 14) (v := .bool false) rfl (by kernel_rfl) (by kernel_rfl) (by kernel_rfl) (fun _ _ _ h => h) (Or.inl ⟨by kernel_rfl, fun w9 hSw => ?_⟩) hS ?_
              · obtain ⟨s1, s2⟩ := hSw
                go_simp
              change wpAnyH _ _ _ _ _ _ _ (Act.put _ (some 68) (.bool false)) _
              (try simp only [Act.put, List.setIfInBounds_toArray, List.set_cons_zero, List.set_cons_succ])
              refine wpAnyH_done (by kernel_rfl) ?_ _
              (try simp only [Act.put, List.setIfInBounds_toArray, List.set_cons_zero, List.set_cons_succ])
              go_wp2_with fail
              go_roundw
              case rel =>
                have := HQ.out
                try rw [IntWalk.wrap64_in (q + 1) (by omega)]
                exact ⟨i + 1, by omega, congrArg (Value.int IntKind.i64) (by omega), bel_step HBZ.out HY1.out⟩
              case measure =>
                have := HQ.out
                try rw [IntWalk.wrap64_in (q + 1) (by omega)]
                simp only [intOf]; omega
        · have hqe : i = nl + 2 := by omega
          clear hq
          go_wp2_with fail
          go_roundw
          case rel =>
            have := HK.out
            try rw [IntWalk.wrap64_in (k + 1) (by omega)]
            exact ⟨j + 1, by omega, congrArg (Value.int IntKind.i64) (by omega), HBr.out⟩
          case measure =>
            have := HK.out
            try rw [IntWalk.wrap64_in (k + 1) (by omega)]
            simp only [intOf]; omega
    · have hj3 : j = nl + 2 := by omega
      clear hk
      have HSa := Lib.hid (fun (W' : World) (hw : Below wr.heap.size wr W') => same_P (HT2.out.later (bel_step HB.out hw)) HIW.out a1 a2)
      rw [same_fin HIW.out, HNL.out] at HSa
      by_cases h1 : 0 ≤ a1
      · by_cases h2 : 0 ≤ a2
        · by_cases h3 : a1 < (nl : Int)
          · by_cases h4 : a2 < (nl : Int)
            · go_wp2_with (go_at_call 20; refine (lives13_any _).mono ?_; rintro e y3 ⟨rfl, hb3⟩; have HY3 := Lib.hid hb3; clear hb3)
              go_ret
              exact ⟨rfl, bel_step HB2.out (bel_step HB.out HY3.out)⟩
            · have e9 : decide (0 ≤ a1 ∧ a1 < (nl : Int) ∧ 0 ≤ a2 ∧ a2 < (nl : Int) ∧ finV L W a1 = finV L W a2) = false := decide_eq_false (fun h => h4 h.2.2.2.1)
              rw [e9] at HSa
              clear e9
              go_wp2_with (first
                | (go_at_call 28; refine (HSa.out _ (Below.refl _ _)).mono ?_; rintro e y2 ⟨rfl, hb2⟩; have HY2 := Lib.hid hb2; clear hb2)
                | (go_at_call 20; refine (lives13_any _).mono ?_; rintro e y3 ⟨rfl, hb3⟩; have HY3 := Lib.hid hb3; clear hb3))
              go_ret
              exact ⟨rfl, bel_step HB2.out (bel_step HB.out (bel_step HY2.out HY3.out))⟩
          · have e9 : decide (0 ≤ a1 ∧ a1 < (nl : Int) ∧ 0 ≤ a2 ∧ a2 < (nl : Int) ∧ finV L W a1 = finV L W a2) = false := decide_eq_false (fun h => h3 h.2.1)
            rw [e9] at HSa
            clear e9
            go_wp2_with (first
              | (go_at_call 28; refine (HSa.out _ (Below.refl _ _)).mono ?_; rintro e y2 ⟨rfl, hb2⟩; have HY2 := Lib.hid hb2; clear hb2)
              | (go_at_call 20; refine (lives13_any _).mono ?_; rintro e y3 ⟨rfl, hb3⟩; have HY3 := Lib.hid hb3; clear hb3))
            go_ret
            exact ⟨rfl, bel_step HB2.out (bel_step HB.out (bel_step HY2.out HY3.out))⟩
        · have e9 : decide (0 ≤ a1 ∧ a1 < (nl : Int) ∧ 0 ≤ a2 ∧ a2 < (nl : Int) ∧ finV L W a1 = finV L W a2) = false := decide_eq_false (fun h => h2 h.2.2.1)
          rw [e9] at HSa
          clear e9
          go_wp2_with (first
            | (go_at_call 28; refine (HSa.out _ (Below.refl _ _)).mono ?_; rintro e y2 ⟨rfl, hb2⟩; have HY2 := Lib.hid hb2; clear hb2)
            | (go_at_call 20; refine (lives13_any _).mono ?_; rintro e y3 ⟨rfl, hb3⟩; have HY3 := Lib.hid hb3; clear hb3))
          go_ret
          exact ⟨rfl, bel_step HB2.out (bel_step HB.out (bel_step HY2.out HY3.out))⟩
      · have e9 : decide (0 ≤ a1 ∧ a1 < (nl : Int) ∧ 0 ≤ a2 ∧ a2 < (nl : Int) ∧ finV L W a1 = finV L W a2) = false := decide_eq_false (fun h => h1 h.1)
        rw [e9] at HSa
        clear e9
        go_wp2_with (first
          | (go_at_call 28; refine (HSa.out _ (Below.refl _ _)).mono ?_; rintro e y2 ⟨rfl, hb2⟩; have HY2 := Lib.hid hb2; clear hb2)
          | (go_at_call 20; refine (lives13_any _).mono ?_; rintro e y3 ⟨rfl, hb3⟩; have HY3 := Lib.hid hb3; clear hb3))
        go_ret
        exact ⟨rfl, bel_step HB2.out (bel_step HB.out (bel_step HY2.out HY3.out))⟩
end Go.Proofs.Ytehmbnloplamaaa
