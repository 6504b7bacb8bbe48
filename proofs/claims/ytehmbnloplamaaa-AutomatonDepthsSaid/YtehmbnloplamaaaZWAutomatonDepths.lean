/- AutomatonDepths: depths, links and ends agree: the walk of the law. No condition. -/
import Derived.Test.YtehmbnloplamaaaZAuU
import Derived.Test.YtehmbnloplamaaaZgAu
import Derived.Test.YtehmbnloplamaaaTrWr
namespace Go.Proofs.Ytehmbnloplamaaa
open Go.RowKit
set_option linter.unusedVariables false
open Tr Au
theorem rv_row {w : World} {la : Option Addr} {ln : Nat} {vs : List Value} {L : LL} (h : Rv w la ln vs L) (h0 : 0 < ln) : ∃ b o, la = some ⟨b, o, none⟩ ∧ ∀ i, i < ln → ∃ ai ci, ∀ w', Below w.heap.size w w' → w'.cell? ⟨b, o + i, none⟩ = some (.slice ai (L.getD i []).length ci) := by
  obtain ⟨b, o, e, hc⟩ : ∃ b o, la = some ⟨b, o, none⟩ ∧ ∀ i, i < ln → w.cell? ⟨b, o + i, none⟩ = some (vs.getD i (.bool false)) := by
    rcases h.cells with h1 | ⟨b, o, e, hc⟩
    · omega
    · exact ⟨b, o, e, hc⟩
  refine ⟨b, o, e, fun i hi => ?_⟩
  obtain ⟨ai, ci, ea, _⟩ := h.each i hi
  exact ⟨ai, ci, fun w' hb => cell_later hb (by rw [hc i hi, ea])⟩
theorem row_slk {w : World} {B : Nat} {a : Option Addr} {n c : Nat} {zs : List Int} (h : w.ownsRow B 3 1 (.slice a n c) n (zs.map (Value.int .i64))) : SlK .i64 w a n zs := by
  have hl := h.1
  rw [List.length_map, Nat.mul_one] at hl
  refine ⟨hl, ?_⟩
  rcases h.2 with ⟨e, e2⟩ | ⟨g, cap, cur, e, _⟩
  · exact .inl (by simpa using e2)
  · refine .inr ⟨g, 0, by injection e, fun i hi => ?_⟩
    rw [Nat.zero_add]
    injection e with e1 e2 e3
    subst e1
    rw [h.cellAt i (by omega)]
    simp [List.getD_eq_getElem?_getD, List.getElem?_eq_getElem (show i < zs.length by omega)]
set_option maxRecDepth 100000 in
set_option maxHeartbeats 4000000 in
theorem automatonDepths_walk (a0 : Option Addr) (len0 cap0 : Nat) (raw : Bool) (w : World) (w0 : IsRows w a0 len0 cap0) :
    Calls Try.prog 8 #[.slice a0 len0 cap0, .bool raw] w fun e w' => e = .returned (.bool true) ∧ Below w.heap.size w w' := by
  obtain ⟨A, N, C, Z, hat⟩ := isrows_at w0
  obtain ⟨L, W, hT, hI, hl1, hl2, hw8, hd5, hx5, hB⟩ := begin13_use (cap := cap0) hat (isrows_len w0) raw
  have HBG := Lib.hid hB
  unfold BegL at HBG
  have HIW := Lib.hid hI
  have HTD := Lib.hid hd5
  have HWS := Lib.hid hx5
  obtain ⟨nl, hnl⟩ : ∃ nl, L.length = nl := ⟨_, rfl⟩
  obtain ⟨nw, hnw⟩ : ∃ nw, W.length = nw := ⟨_, rfl⟩
  have HNL := Lib.hid hnl
  have HNW := Lib.hid hnw
  rw [hnl] at HBG
  rw [hnw] at HBG
  have hnl9 : nl ≤ 41 := by omega
  have hnl1 : 1 ≤ nl := by omega
  have hnw9 : nw ≤ 8 := by omega
  clear w0 hat hT hnl hnw hI hl1 hl2 hw8 hd5 hx5 hB
  go_enter Try.func8, Try.ntmps8
  go_upto_region 2 with (go_at_call 10; refine HBG.out.mono ?_; rintro e w1 ⟨B, ab, sb, rv, la, lc, vs, wa, wc, us, rfl, hT, hrl, hrw, hb⟩; have HT := Lib.hid hT; have HRL := Lib.hid hrl; have HRW := Lib.hid hrw; have HB := Lib.hid hb; clear hT hrl hrw hb)
  have S4 := Tv.new w1 (.slice la nl lc) (.slice wa nw wc)
  have hb4 := box1T w1 (.cells #[.slice la nl lc, .slice wa nw wc] 25)
  obtain ⟨W2, hW2⟩ : ∃ W2, w1.alloc (.cells #[.slice la nl lc, .slice wa nw wc] 25) = W2 := ⟨_, rfl⟩
  rw [hW2] at S4 hb4
  try rw [hW2]
  obtain ⟨b4, hb4e⟩ : ∃ b4, w1.heap.size = b4 := ⟨_, rfl⟩
  have HT2 := Lib.hid (HT.out.later hb4)
  have HRL2 := Lib.hid (HRL.out.later hb4)
  have HRW2 := Lib.hid (HRW.out.later hb4)
  have HB2 := Lib.hid (bel_step HB.out hb4)
  rw [hb4e] at S4
  try rw [hb4e]
  have HS4 := Lib.hid S4
  clear S4 hb4 hb4e hW2 HT HRW HRL
  obtain ⟨b, o, hla, hrow⟩ := rv_row HRL2.out (by omega)
  subst hla
  have HROW := Lib.hid hrow
  clear hrow
  have HEN := Lib.hid (fun (z : Int) (W' : World) (hw : Below W2.heap.size W2 W') => ends_P (HT2.out.later hw) HIW.out (by have := HNW.out; omega) z)
  unfold EndsR at HEN
  have HFI := Lib.hid (fun (j : Nat) (h1 : 1 ≤ j) (h2 : j < L.length) => dep_facts HIW.out h1 h2)
  have HDL : Hid (∀ z, (finV L W z).length ≤ 1000) := Lib.hid (fun z => by
    unfold finV; split
    · simp
    · exact Nat.le_trans (fin_len _ _) (by have := HNW.out; omega))
  go_wp2_with fail
  go_loopw [7] (fun s7 wr => ∃ j : Nat, 1 ≤ j ∧ j ≤ nl ∧ s7 = .int .i64 j ∧ Below W2.heap.size W2 wr) (fun s7 _ => nl - (intOf s7).toNat)
  case atStart => exact ⟨1, Nat.le_refl _, hnl1, rfl, Below.refl _ _⟩
  case round =>
    obtain ⟨j, hj1, hj, rfl, hb⟩ := hrel
    have HB := Lib.hid hb
    obtain ⟨x0, x1⟩ := (HS4.out.later hb).cells
    have HLn := Lib.hid (len_P (HT2.out.later hb))
    rw [HNL.out] at HLn
    clear hb
    by_cases hlt : j < nl
    · have hltI : (j : Int) < (nl : Int) := by omega
      have hj0 : (0 : Int) ≤ (j : Int) := Int.natCast_nonneg _
      obtain ⟨f, hf1, hf2, hf3, hdis⟩ := HFI.out j hj1 (by rw [HNL.out]; exact hlt)
      rw [HNL.out] at hf2
      obtain ⟨af, cf, hcf⟩ := HROW.out f hf2
      obtain ⟨aj, cj, hcj⟩ := HROW.out j hlt
      obtain ⟨df, hdf⟩ : ∃ d, (L.getD f []).length = d := ⟨_, rfl⟩
      obtain ⟨dj, hdj⟩ : ∃ d, (L.getD j []).length = d := ⟨_, rfl⟩
      rw [hdf] at hcf hf3 hdis
      rw [hdj] at hcj hf3
      have HDIS := Lib.hid hdis
      have HFa := Lib.hid (fun (W' : World) (hw : Below wr.heap.size wr W') => fall_P (HT2.out.later (bel_step HB.out hw)) HIW.out (j : Int))
      rw [hf1] at HFa
      have HLa := Lib.hid (fun (W' : World) (hw : Below wr.heap.size wr W') => link_P (HT2.out.later (bel_step HB.out hw)) HIW.out (j : Int))
      have HCF := Lib.hid (fun (W' : World) (hw : Below wr.heap.size wr W') => hcf W' (bel_step HB.out hw))
      have HCJ := Lib.hid (fun (W' : World) (hw : Below wr.heap.size wr W') => hcj W' (bel_step HB.out hw))
      have HX1 := Lib.hid (fun (W' : World) (hw : Below wr.heap.size wr W') => (HS4.out.later (bel_step HB.out hw)).cells)
      have HWO := Lib.hid (fun (W' : World) (hw : Below wr.heap.size wr W') => refWords_tr (lc := lc) (wc := wc) (HRL2.out.later (bel_step HB.out hw)) (HRW2.out.later (bel_step HB.out hw)) (by omega) (by omega) (j : Int))
      have HENr := Lib.hid (fun (z : Int) (W' : World) (hw : Below wr.heap.size wr W') => HEN.out z W' (bel_step HB.out hw))
      replace HEN := HENr
      have hf0 : (0 : Int) ≤ (f : Int) := Int.natCast_nonneg _
      have hf0n : ¬ (f : Int) < 0 := by omega
      have hfn : (f : Int) < (nl : Int) := by omega
      have hfn2 : ¬ (nl : Int) ≤ (f : Int) := by omega
      have hdn : ¬ (dj : Int) ≤ (df : Int) := by omega
      have hdn2 : ¬ dj ≤ df := by omega
      clear hdis hf1 hcf hcj hdf hdj HENr
      have HSS : Hid (∀ W', Below wr.heap.size wr W' → W'.cell? ⟨b4, 0, none⟩ = some (.slice (some ⟨b, o, none⟩) nl lc) ∧ W'.cell? ⟨b4, 1, none⟩ = some (.slice wa nw wc) ∧ W'.cell? ⟨b, o + f, none⟩ = some (.slice af df cf) ∧ W'.cell? ⟨b, o + j, none⟩ = some (.slice aj dj cj)) := Lib.hid (fun W' hw => ⟨(HX1.out W' hw).1, (HX1.out W' hw).2, HCF.out W' hw, HCJ.out W' hw⟩)
      go_upto_region 10 with (first
        | (go_at_call 11; refine HLn.out.mono ?_; rintro e y0 ⟨rfl, rfl⟩)
        | (go_at_call 13; refine (HFa.out _ (Below.refl _ _)).mono ?_; rintro e WC ⟨rfl, hb1⟩; have HYc := Lib.hid hb1; have hb2 := HX1.out _ hb1; obtain ⟨x2, x3⟩ := hb2; clear hb1))
      have hS : WC.drew.cell? ⟨b4, 0, none⟩ = some (.slice (some ⟨b, o, none⟩) nl lc) ∧ WC.drew.cell? ⟨b4, 1, none⟩ = some (.slice wa nw wc) ∧ WC.drew.cell? ⟨b, o + f, none⟩ = some (.slice af df cf) ∧ WC.drew.cell? ⟨b, o + j, none⟩ = some (.slice aj dj cj) := HSS.out _ (Below.drew HYc.out)
      refine wp_region_held_drew (S := fun w' => w'.cell? ⟨b4, 0, none⟩ = some (.slice (some ⟨b, o, none⟩) nl lc) ∧ w'.cell? ⟨b4, 1, none⟩ = some (.slice wa nw wc) ∧ w'.cell? ⟨b, o + f, none⟩ = some (.slice af df cf) ∧ w'.cell? ⟨b, o + j, none⟩ = some (.slice aj dj cj)) (by kernel_rfl) hS (fun _ => ?_)
      refine wpAnyH_take (i := 0) (v := .pointer (some ⟨b4, 0, none⟩)) rfl (by kernel_rfl) (by kernel_rfl) (by kernel_rfl) (fun _ _ _ h => h) (Or.inl ⟨by kernel_rfl, fun w9 hSw => ?_⟩) hS ?_
      · obtain ⟨s1, s2, s3, s4⟩ := hSw
        go_simp
      change wpAnyH _ _ _ _ _ _ _ (Act.put _ (some 43) (.pointer (some ⟨b4, 0, none⟩))) _
      (try simp only [Act.put, List.setIfInBounds_toArray, List.set_cons_zero, List.set_cons_succ])
      refine wpAnyH_take (i := 1) (v := .slice (some ⟨b, o, none⟩) nl lc) rfl (by kernel_rfl) (by kernel_rfl) (by kernel_rfl) (fun _ _ _ h => h) (Or.inl ⟨by kernel_rfl, fun w9 hSw => ?_⟩) hS ?_
      · obtain ⟨s1, s2, s3, s4⟩ := hSw
        go_simp
      change wpAnyH _ _ _ _ _ _ _ (Act.put _ (some 44) (.slice (some ⟨b, o, none⟩) nl lc)) _
      (try simp only [Act.put, List.setIfInBounds_toArray, List.set_cons_zero, List.set_cons_succ])
      refine wpAnyH_take (i := 2) (v := .int .i64 (f : Int)) rfl (by kernel_rfl) (by kernel_rfl) (by kernel_rfl) (fun _ _ _ h => h) (Or.inl ⟨by kernel_rfl, fun w9 hSw => ?_⟩) hS ?_
      · obtain ⟨s1, s2, s3, s4⟩ := hSw
        go_simp
      change wpAnyH _ _ _ _ _ _ _ (Act.put _ (some 45) (.int .i64 (f : Int))) _
      (try simp only [Act.put, List.setIfInBounds_toArray, List.set_cons_zero, List.set_cons_succ])
      refine wpAnyH_take (i := 3) (v := .pointer (some ⟨b, o + f, none⟩)) rfl (by kernel_rfl) (by kernel_rfl) (by kernel_rfl) (fun _ _ _ h => h) (Or.inl ⟨by kernel_rfl, fun w9 hSw => ?_⟩) hS ?_
      · obtain ⟨s1, s2, s3, s4⟩ := hSw
        go_simp
      change wpAnyH _ _ _ _ _ _ _ (Act.put _ (some 46) (.pointer (some ⟨b, o + f, none⟩))) _
      (try simp only [Act.put, List.setIfInBounds_toArray, List.set_cons_zero, List.set_cons_succ])
      refine wpAnyH_take (i := 4) (v := .slice af df cf) rfl (by kernel_rfl) (by kernel_rfl) (by kernel_rfl) (fun _ _ _ h => h) (Or.inl ⟨by kernel_rfl, fun w9 hSw => ?_⟩) hS ?_
      · obtain ⟨s1, s2, s3, s4⟩ := hSw
        go_simp
      change wpAnyH _ _ _ _ _ _ _ (Act.put _ (some 47) (.slice af df cf)) _
      (try simp only [Act.put, List.setIfInBounds_toArray, List.set_cons_zero, List.set_cons_succ])
      refine wpAnyH_take (i := 5) (v := .int .i64 (df : Int)) rfl (by kernel_rfl) (by kernel_rfl) (by kernel_rfl) (fun _ _ _ h => h) (Or.inl ⟨by kernel_rfl, fun w9 hSw => ?_⟩) hS ?_
      · obtain ⟨s1, s2, s3, s4⟩ := hSw
        go_simp
      change wpAnyH _ _ _ _ _ _ _ (Act.put _ (some 48) (.int .i64 (df : Int))) _
      (try simp only [Act.put, List.setIfInBounds_toArray, List.set_cons_zero, List.set_cons_succ])
      refine wpAnyH_take (i := 6) (v := .pointer (some ⟨b4, 0, none⟩)) rfl (by kernel_rfl) (by kernel_rfl) (by kernel_rfl) (fun _ _ _ h => h) (Or.inl ⟨by kernel_rfl, fun w9 hSw => ?_⟩) hS ?_
      · obtain ⟨s1, s2, s3, s4⟩ := hSw
        go_simp
      change wpAnyH _ _ _ _ _ _ _ (Act.put _ (some 49) (.pointer (some ⟨b4, 0, none⟩))) _
      (try simp only [Act.put, List.setIfInBounds_toArray, List.set_cons_zero, List.set_cons_succ])
      refine wpAnyH_take (i := 7) (v := .slice (some ⟨b, o, none⟩) nl lc) rfl (by kernel_rfl) (by kernel_rfl) (by kernel_rfl) (fun _ _ _ h => h) (Or.inl ⟨by kernel_rfl, fun w9 hSw => ?_⟩) hS ?_
      · obtain ⟨s1, s2, s3, s4⟩ := hSw
        go_simp
      change wpAnyH _ _ _ _ _ _ _ (Act.put _ (some 50) (.slice (some ⟨b, o, none⟩) nl lc)) _
      (try simp only [Act.put, List.setIfInBounds_toArray, List.set_cons_zero, List.set_cons_succ])
      refine wpAnyH_take (i := 8) (v := .int .i64 (j : Int)) rfl (by kernel_rfl) (by kernel_rfl) (by kernel_rfl) (fun _ _ _ h => h) (Or.inl ⟨by kernel_rfl, fun w9 hSw => ?_⟩) hS ?_
      · obtain ⟨s1, s2, s3, s4⟩ := hSw
        go_simp
      change wpAnyH _ _ _ _ _ _ _ (Act.put _ (some 51) (.int .i64 (j : Int))) _
      (try simp only [Act.put, List.setIfInBounds_toArray, List.set_cons_zero, List.set_cons_succ])
      refine wpAnyH_take (i := 9) (v := .pointer (some ⟨b, o + j, none⟩)) rfl (by kernel_rfl) (by kernel_rfl) (by kernel_rfl) (fun _ _ _ h => h) (Or.inl ⟨by kernel_rfl, fun w9 hSw => ?_⟩) hS ?_
      · obtain ⟨s1, s2, s3, s4⟩ := hSw
        go_simp
      change wpAnyH _ _ _ _ _ _ _ (Act.put _ (some 52) (.pointer (some ⟨b, o + j, none⟩))) _
      (try simp only [Act.put, List.setIfInBounds_toArray, List.set_cons_zero, List.set_cons_succ])
      refine wpAnyH_take (i := 10) (v := .slice aj dj cj) rfl (by kernel_rfl) (by kernel_rfl) (by kernel_rfl) (fun _ _ _ h => h) (Or.inl ⟨by kernel_rfl, fun w9 hSw => ?_⟩) hS ?_
      · obtain ⟨s1, s2, s3, s4⟩ := hSw
        go_simp
      change wpAnyH _ _ _ _ _ _ _ (Act.put _ (some 53) (.slice aj dj cj)) _
      (try simp only [Act.put, List.setIfInBounds_toArray, List.set_cons_zero, List.set_cons_succ])
      refine wpAnyH_take (i := 11) (v := .int .i64 (dj : Int)) rfl (by kernel_rfl) (by kernel_rfl) (by kernel_rfl) (fun _ _ _ h => h) (Or.inl ⟨by kernel_rfl, fun w9 hSw => ?_⟩) hS ?_
      · obtain ⟨s1, s2, s3, s4⟩ := hSw
        go_simp
      change wpAnyH _ _ _ _ _ _ _ (Act.put _ (some 54) (.int .i64 (dj : Int))) _
      (try simp only [Act.put, List.setIfInBounds_toArray, List.set_cons_zero, List.set_cons_succ])
      refine wpAnyH_take (i := 12) (v := .bool false) rfl (by kernel_rfl) (by kernel_rfl) (by kernel_rfl) (fun _ _ _ h => h) (Or.inl ⟨by kernel_rfl, fun w9 hSw => ?_⟩) hS ?_
      · obtain ⟨s1, s2, s3, s4⟩ := hSw
        go_simp
      change wpAnyH _ _ _ _ _ _ _ (Act.put _ (some 55) (.bool false)) _
      (try simp only [Act.put, List.setIfInBounds_toArray, List.set_cons_zero, List.set_cons_succ])
      refine wpAnyH_done (by kernel_rfl) ?_ _
      (try simp only [Act.put, List.setIfInBounds_toArray, List.set_cons_zero, List.set_cons_succ])
      have HYd := Lib.hid HYc.out.drew
      obtain ⟨WD, hWD⟩ : ∃ WD, WC.drew = WD := ⟨_, rfl⟩
      rw [hWD] at HYd
      try rw [hWD]
      clear hWD x0 x1 x2 x3 hS
      obtain ⟨x2, x3⟩ := HX1.out _ HYd.out
      rcases HDIS.out with ⟨hl, hfw⟩ | ⟨e, hl, he1, he2, he3, he4⟩
      · rw [hl] at HLa
        have HFW := Lib.hid hfw
        clear hl hfw
        obtain ⟨nj, hnj⟩ : ∃ n, (finV L W j).length = n := ⟨_, rfl⟩
        have HFJ := Lib.hid hnj
        have hnj9 : nj ≤ 1000 := by rw [← hnj]; exact HDL.out _
        clear hnj
        go_upto_region 15 with (go_at_call 15; refine (HLa.out _ HYd.out).mono ?_; rintro e WC ⟨rfl, hb1⟩; have HYc := Lib.hid (bel_step HYd.out hb1); obtain ⟨x4, x5⟩ := HX1.out _ (bel_step HYd.out hb1); clear hb1)
        have hS : WC.drew.cell? ⟨b4, 0, none⟩ = some (.slice (some ⟨b, o, none⟩) nl lc) ∧ WC.drew.cell? ⟨b4, 1, none⟩ = some (.slice wa nw wc) ∧ WC.drew.cell? ⟨b, o + f, none⟩ = some (.slice af df cf) ∧ WC.drew.cell? ⟨b, o + j, none⟩ = some (.slice aj dj cj) := HSS.out _ (Below.drew HYc.out)
        refine wp_region_held_drew (S := fun w' => w'.cell? ⟨b4, 0, none⟩ = some (.slice (some ⟨b, o, none⟩) nl lc) ∧ w'.cell? ⟨b4, 1, none⟩ = some (.slice wa nw wc) ∧ w'.cell? ⟨b, o + f, none⟩ = some (.slice af df cf) ∧ w'.cell? ⟨b, o + j, none⟩ = some (.slice aj dj cj)) (by kernel_rfl) hS (fun _ => ?_)
        refine wpAnyH_take (i := 0) (v := .int .i64 (-1 : Int)) rfl (by kernel_rfl) (by kernel_rfl) (by kernel_rfl) (fun _ _ _ h => h) (Or.inl ⟨by kernel_rfl, fun w9 hSw => ?_⟩) hS ?_
        · obtain ⟨s1, s2, s3, s4⟩ := hSw
          go_simp
        change wpAnyH _ _ _ _ _ _ _ (Act.put _ (some 72) (.int .i64 (-1 : Int))) _
        (try simp only [Act.put, List.setIfInBounds_toArray, List.set_cons_zero, List.set_cons_succ])
        refine wpAnyH_take (i := 1) (v := .bool false) rfl (by kernel_rfl) (by kernel_rfl) (by kernel_rfl) (fun _ _ _ h => h) (Or.inl ⟨by kernel_rfl, fun w9 hSw => ?_⟩) hS ?_
        · obtain ⟨s1, s2, s3, s4⟩ := hSw
          go_simp
        change wpAnyH _ _ _ _ _ _ _ (Act.put _ (some 73) (.bool false)) _
        (try simp only [Act.put, List.setIfInBounds_toArray, List.set_cons_zero, List.set_cons_succ])
        refine wpAnyH_take (i := 2) (v := .bool false) rfl (by kernel_rfl) (by kernel_rfl) (by kernel_rfl) (fun _ _ _ h => h) (Or.inl ⟨by kernel_rfl, fun w9 hSw => ?_⟩) hS ?_
        · obtain ⟨s1, s2, s3, s4⟩ := hSw
          go_simp
        change wpAnyH _ _ _ _ _ _ _ (Act.put _ (some 74) (.bool false)) _
        (try simp only [Act.put, List.setIfInBounds_toArray, List.set_cons_zero, List.set_cons_succ])
        refine wpAnyH_take (i := 3) (v := undef) rfl (by kernel_rfl) (by kernel_rfl) (by kernel_rfl) (fun _ _ _ h => h) (Or.inr ⟨by kernel_rfl, rfl⟩) hS ?_
        change wpAnyH _ _ _ _ _ _ _ (Act.put _ (some 75) (undef)) _
        (try simp only [Act.put, List.setIfInBounds_toArray, List.set_cons_zero, List.set_cons_succ])
        refine wpAnyH_take (i := 4) (v := undef) rfl (by kernel_rfl) (by kernel_rfl) (by kernel_rfl) (fun _ _ _ h => h) (Or.inr ⟨by kernel_rfl, rfl⟩) hS ?_
        change wpAnyH _ _ _ _ _ _ _ (Act.put _ (some 76) (undef)) _
        (try simp only [Act.put, List.setIfInBounds_toArray, List.set_cons_zero, List.set_cons_succ])
        refine wpAnyH_take (i := 5) (v := undef) rfl (by kernel_rfl) (by kernel_rfl) (by kernel_rfl) (fun _ _ _ h => h) (Or.inr ⟨by kernel_rfl, rfl⟩) hS ?_
        change wpAnyH _ _ _ _ _ _ _ (Act.put _ (some 77) (undef)) _
        (try simp only [Act.put, List.setIfInBounds_toArray, List.set_cons_zero, List.set_cons_succ])
        refine wpAnyH_take (i := 6) (v := undef) rfl (by kernel_rfl) (by kernel_rfl) (by kernel_rfl) (fun _ _ _ h => h) (Or.inr ⟨by kernel_rfl, rfl⟩) hS ?_
        change wpAnyH _ _ _ _ _ _ _ (Act.put _ (some 78) (undef)) _
        (try simp only [Act.put, List.setIfInBounds_toArray, List.set_cons_zero, List.set_cons_succ])
        refine wpAnyH_take (i := 7) (v := undef) rfl (by kernel_rfl) (by kernel_rfl) (by kernel_rfl) (fun _ _ _ h => h) (Or.inr ⟨by kernel_rfl, rfl⟩) hS ?_
        change wpAnyH _ _ _ _ _ _ _ (Act.put _ (some 79) (undef)) _
        (try simp only [Act.put, List.setIfInBounds_toArray, List.set_cons_zero, List.set_cons_succ])
        refine wpAnyH_take (i := 8) (v := undef) rfl (by kernel_rfl) (by kernel_rfl) (by kernel_rfl) (fun _ _ _ h => h) (Or.inr ⟨by kernel_rfl, rfl⟩) hS ?_
        change wpAnyH _ _ _ _ _ _ _ (Act.put _ (some 80) (undef)) _
        (try simp only [Act.put, List.setIfInBounds_toArray, List.set_cons_zero, List.set_cons_succ])
        refine wpAnyH_take (i := 9) (v := undef) rfl (by kernel_rfl) (by kernel_rfl) (by kernel_rfl) (fun _ _ _ h => h) (Or.inr ⟨by kernel_rfl, rfl⟩) hS ?_
        change wpAnyH _ _ _ _ _ _ _ (Act.put _ (some 81) (undef)) _
        (try simp only [Act.put, List.setIfInBounds_toArray, List.set_cons_zero, List.set_cons_succ])
        refine wpAnyH_take (i := 10) (v := undef) rfl (by kernel_rfl) (by kernel_rfl) (by kernel_rfl) (fun _ _ _ h => h) (Or.inr ⟨by kernel_rfl, rfl⟩) hS ?_
        change wpAnyH _ _ _ _ _ _ _ (Act.put _ (some 82) (undef)) _
        (try simp only [Act.put, List.setIfInBounds_toArray, List.set_cons_zero, List.set_cons_succ])
        refine wpAnyH_take (i := 11) (v := undef) rfl (by kernel_rfl) (by kernel_rfl) (by kernel_rfl) (fun _ _ _ h => h) (Or.inr ⟨by kernel_rfl, rfl⟩) hS ?_
        change wpAnyH _ _ _ _ _ _ _ (Act.put _ (some 83) (undef)) _
        (try simp only [Act.put, List.setIfInBounds_toArray, List.set_cons_zero, List.set_cons_succ])
        refine wpAnyH_take (i := 12) (v := undef) rfl (by kernel_rfl) (by kernel_rfl) (by kernel_rfl) (fun _ _ _ h => h) (Or.inr ⟨by kernel_rfl, rfl⟩) hS ?_
        change wpAnyH _ _ _ _ _ _ _ (Act.put _ (some 84) (undef)) _
        (try simp only [Act.put, List.setIfInBounds_toArray, List.set_cons_zero, List.set_cons_succ])
        refine wpAnyH_take (i := 13) (v := undef) rfl (by kernel_rfl) (by kernel_rfl) (by kernel_rfl) (fun _ _ _ h => h) (Or.inr ⟨by kernel_rfl, rfl⟩) hS ?_
        change wpAnyH _ _ _ _ _ _ _ (Act.put _ (some 85) (undef)) _
        (try simp only [Act.put, List.setIfInBounds_toArray, List.set_cons_zero, List.set_cons_succ])
        refine wpAnyH_take (i := 14) (v := undef) rfl (by kernel_rfl) (by kernel_rfl) (by kernel_rfl) (fun _ _ _ h => h) (Or.inr ⟨by kernel_rfl, rfl⟩) hS ?_
        change wpAnyH _ _ _ _ _ _ _ (Act.put _ (some 86) (undef)) _
        (try simp only [Act.put, List.setIfInBounds_toArray, List.set_cons_zero, List.set_cons_succ])
        refine wpAnyH_take (i := 15) (v := undef) rfl (by kernel_rfl) (by kernel_rfl) (by kernel_rfl) (fun _ _ _ h => h) (Or.inr ⟨by kernel_rfl, rfl⟩) hS ?_
        change wpAnyH _ _ _ _ _ _ _ (Act.put _ (some 87) (undef)) _
        (try simp only [Act.put, List.setIfInBounds_toArray, List.set_cons_zero, List.set_cons_succ])
        refine wpAnyH_take (i := 16) (v := .bool false) rfl (by kernel_rfl) (by kernel_rfl) (by kernel_rfl) (fun _ _ _ h => h) (Or.inl ⟨by kernel_rfl, fun w9 hSw => ?_⟩) hS ?_
        · obtain ⟨s1, s2, s3, s4⟩ := hSw
          go_simp
        change wpAnyH _ _ _ _ _ _ _ (Act.put _ (some 88) (.bool false)) _
        (try simp only [Act.put, List.setIfInBounds_toArray, List.set_cons_zero, List.set_cons_succ])
        refine wpAnyH_done (by kernel_rfl) ?_ _
        (try simp only [Act.put, List.setIfInBounds_toArray, List.set_cons_zero, List.set_cons_succ])
        have HYd1 := Lib.hid HYc.out.drew
        obtain ⟨WD1, hWD⟩ : ∃ WD, WC.drew = WD := ⟨_, rfl⟩
        rw [hWD] at HYd1
        try rw [hWD]
        clear hWD hS
        go_upto_region 17 with fail
        have hS : WD1.drew.cell? ⟨b4, 0, none⟩ = some (.slice (some ⟨b, o, none⟩) nl lc) ∧ WD1.drew.cell? ⟨b4, 1, none⟩ = some (.slice wa nw wc) ∧ WD1.drew.cell? ⟨b, o + f, none⟩ = some (.slice af df cf) ∧ WD1.drew.cell? ⟨b, o + j, none⟩ = some (.slice aj dj cj) := HSS.out _ (Below.drew HYd1.out)
        refine wp_region_held_drew (S := fun w' => w'.cell? ⟨b4, 0, none⟩ = some (.slice (some ⟨b, o, none⟩) nl lc) ∧ w'.cell? ⟨b4, 1, none⟩ = some (.slice wa nw wc) ∧ w'.cell? ⟨b, o + f, none⟩ = some (.slice af df cf) ∧ w'.cell? ⟨b, o + j, none⟩ = some (.slice aj dj cj)) (by kernel_rfl) hS (fun _ => ?_)
        refine wpAnyH_take (i := 0) (v := .int .i64 (-1 : Int)) rfl (by kernel_rfl) (by kernel_rfl) (by kernel_rfl) (fun _ _ _ h => h) (Or.inl ⟨by kernel_rfl, fun w9 hSw => ?_⟩) hS ?_
        · obtain ⟨s1, s2, s3, s4⟩ := hSw
          go_simp
        change wpAnyH _ _ _ _ _ _ _ (Act.put _ (some 89) (.int .i64 (-1 : Int))) _
        (try simp only [Act.put, List.setIfInBounds_toArray, List.set_cons_zero, List.set_cons_succ])
        refine wpAnyH_take (i := 1) (v := .bool false) rfl (by kernel_rfl) (by kernel_rfl) (by kernel_rfl) (fun _ _ _ h => h) (Or.inl ⟨by kernel_rfl, fun w9 hSw => ?_⟩) hS ?_
        · obtain ⟨s1, s2, s3, s4⟩ := hSw
          go_simp
        change wpAnyH _ _ _ _ _ _ _ (Act.put _ (some 90) (.bool false)) _
        (try simp only [Act.put, List.setIfInBounds_toArray, List.set_cons_zero, List.set_cons_succ])
        refine wpAnyH_take (i := 2) (v := .bool false) rfl (by kernel_rfl) (by kernel_rfl) (by kernel_rfl) (fun _ _ _ h => h) (Or.inl ⟨by kernel_rfl, fun w9 hSw => ?_⟩) hS ?_
        · obtain ⟨s1, s2, s3, s4⟩ := hSw
          go_simp
        change wpAnyH _ _ _ _ _ _ _ (Act.put _ (some 91) (.bool false)) _
        (try simp only [Act.put, List.setIfInBounds_toArray, List.set_cons_zero, List.set_cons_succ])
        refine wpAnyH_take (i := 3) (v := undef) rfl (by kernel_rfl) (by kernel_rfl) (by kernel_rfl) (fun _ _ _ h => h) (Or.inr ⟨by kernel_rfl, rfl⟩) hS ?_
        change wpAnyH _ _ _ _ _ _ _ (Act.put _ (some 92) (undef)) _
        (try simp only [Act.put, List.setIfInBounds_toArray, List.set_cons_zero, List.set_cons_succ])
        refine wpAnyH_take (i := 4) (v := undef) rfl (by kernel_rfl) (by kernel_rfl) (by kernel_rfl) (fun _ _ _ h => h) (Or.inr ⟨by kernel_rfl, rfl⟩) hS ?_
        change wpAnyH _ _ _ _ _ _ _ (Act.put _ (some 93) (undef)) _
        (try simp only [Act.put, List.setIfInBounds_toArray, List.set_cons_zero, List.set_cons_succ])
        refine wpAnyH_take (i := 5) (v := undef) rfl (by kernel_rfl) (by kernel_rfl) (by kernel_rfl) (fun _ _ _ h => h) (Or.inr ⟨by kernel_rfl, rfl⟩) hS ?_
        change wpAnyH _ _ _ _ _ _ _ (Act.put _ (some 94) (undef)) _
        (try simp only [Act.put, List.setIfInBounds_toArray, List.set_cons_zero, List.set_cons_succ])
        refine wpAnyH_take (i := 6) (v := undef) rfl (by kernel_rfl) (by kernel_rfl) (by kernel_rfl) (fun _ _ _ h => h) (Or.inr ⟨by kernel_rfl, rfl⟩) hS ?_
        change wpAnyH _ _ _ _ _ _ _ (Act.put _ (some 95) (undef)) _
        (try simp only [Act.put, List.setIfInBounds_toArray, List.set_cons_zero, List.set_cons_succ])
        refine wpAnyH_take (i := 7) (v := undef) rfl (by kernel_rfl) (by kernel_rfl) (by kernel_rfl) (fun _ _ _ h => h) (Or.inr ⟨by kernel_rfl, rfl⟩) hS ?_
        change wpAnyH _ _ _ _ _ _ _ (Act.put _ (some 96) (undef)) _
        (try simp only [Act.put, List.setIfInBounds_toArray, List.set_cons_zero, List.set_cons_succ])
        refine wpAnyH_take (i := 8) (v := undef) rfl (by kernel_rfl) (by kernel_rfl) (by kernel_rfl) (fun _ _ _ h => h) (Or.inr ⟨by kernel_rfl, rfl⟩) hS ?_
        change wpAnyH _ _ _ _ _ _ _ (Act.put _ (some 97) (undef)) _
        (try simp only [Act.put, List.setIfInBounds_toArray, List.set_cons_zero, List.set_cons_succ])
        refine wpAnyH_take (i := 9) (v := undef) rfl (by kernel_rfl) (by kernel_rfl) (by kernel_rfl) (fun _ _ _ h => h) (Or.inr ⟨by kernel_rfl, rfl⟩) hS ?_
        change wpAnyH _ _ _ _ _ _ _ (Act.put _ (some 98) (undef)) _
        (try simp only [Act.put, List.setIfInBounds_toArray, List.set_cons_zero, List.set_cons_succ])
        refine wpAnyH_take (i := 10) (v := undef) rfl (by kernel_rfl) (by kernel_rfl) (by kernel_rfl) (fun _ _ _ h => h) (Or.inr ⟨by kernel_rfl, rfl⟩) hS ?_
        change wpAnyH _ _ _ _ _ _ _ (Act.put _ (some 99) (undef)) _
        (try simp only [Act.put, List.setIfInBounds_toArray, List.set_cons_zero, List.set_cons_succ])
        refine wpAnyH_take (i := 11) (v := undef) rfl (by kernel_rfl) (by kernel_rfl) (by kernel_rfl) (fun _ _ _ h => h) (Or.inr ⟨by kernel_rfl, rfl⟩) hS ?_
        change wpAnyH _ _ _ _ _ _ _ (Act.put _ (some 100) (undef)) _
        (try simp only [Act.put, List.setIfInBounds_toArray, List.set_cons_zero, List.set_cons_succ])
        refine wpAnyH_take (i := 12) (v := undef) rfl (by kernel_rfl) (by kernel_rfl) (by kernel_rfl) (fun _ _ _ h => h) (Or.inr ⟨by kernel_rfl, rfl⟩) hS ?_
        change wpAnyH _ _ _ _ _ _ _ (Act.put _ (some 101) (undef)) _
        (try simp only [Act.put, List.setIfInBounds_toArray, List.set_cons_zero, List.set_cons_succ])
        refine wpAnyH_take (i := 13) (v := undef) rfl (by kernel_rfl) (by kernel_rfl) (by kernel_rfl) (fun _ _ _ h => h) (Or.inr ⟨by kernel_rfl, rfl⟩) hS ?_
        change wpAnyH _ _ _ _ _ _ _ (Act.put _ (some 102) (undef)) _
        (try simp only [Act.put, List.setIfInBounds_toArray, List.set_cons_zero, List.set_cons_succ])
        refine wpAnyH_take (i := 14) (v := undef) rfl (by kernel_rfl) (by kernel_rfl) (by kernel_rfl) (fun _ _ _ h => h) (Or.inr ⟨by kernel_rfl, rfl⟩) hS ?_
        change wpAnyH _ _ _ _ _ _ _ (Act.put _ (some 103) (undef)) _
        (try simp only [Act.put, List.setIfInBounds_toArray, List.set_cons_zero, List.set_cons_succ])
        refine wpAnyH_take (i := 15) (v := undef) rfl (by kernel_rfl) (by kernel_rfl) (by kernel_rfl) (fun _ _ _ h => h) (Or.inr ⟨by kernel_rfl, rfl⟩) hS ?_
        change wpAnyH _ _ _ _ _ _ _ (Act.put _ (some 104) (undef)) _
        (try simp only [Act.put, List.setIfInBounds_toArray, List.set_cons_zero, List.set_cons_succ])
        refine wpAnyH_take (i := 16) (v := undef) rfl (by kernel_rfl) (by kernel_rfl) (by kernel_rfl) (fun _ _ _ h => h) (Or.inr ⟨by kernel_rfl, rfl⟩) hS ?_
        change wpAnyH _ _ _ _ _ _ _ (Act.put _ (some 105) (undef)) _
        (try simp only [Act.put, List.setIfInBounds_toArray, List.set_cons_zero, List.set_cons_succ])
        refine wpAnyH_take (i := 17) (v := .bool false) rfl (by kernel_rfl) (by kernel_rfl) (by kernel_rfl) (fun _ _ _ h => h) (Or.inl ⟨by kernel_rfl, fun w9 hSw => ?_⟩) hS ?_
        · obtain ⟨s1, s2, s3, s4⟩ := hSw
          go_simp
        change wpAnyH _ _ _ _ _ _ _ (Act.put _ (some 106) (.bool false)) _
        (try simp only [Act.put, List.setIfInBounds_toArray, List.set_cons_zero, List.set_cons_succ])
        refine wpAnyH_done (by kernel_rfl) ?_ _
        (try simp only [Act.put, List.setIfInBounds_toArray, List.set_cons_zero, List.set_cons_succ])
        have HYd2 := Lib.hid HYd1.out.drew
        obtain ⟨WD2, hWD⟩ : ∃ WD, WD1.drew = WD := ⟨_, rfl⟩
        rw [hWD] at HYd2
        try rw [hWD]
        clear hWD hS
        go_upto_region 19 with fail
        have hS : WD2.drew.cell? ⟨b4, 0, none⟩ = some (.slice (some ⟨b, o, none⟩) nl lc) ∧ WD2.drew.cell? ⟨b4, 1, none⟩ = some (.slice wa nw wc) ∧ WD2.drew.cell? ⟨b, o + f, none⟩ = some (.slice af df cf) ∧ WD2.drew.cell? ⟨b, o + j, none⟩ = some (.slice aj dj cj) := HSS.out _ (Below.drew HYd2.out)
        refine wp_region_held_drew (S := fun w' => w'.cell? ⟨b4, 0, none⟩ = some (.slice (some ⟨b, o, none⟩) nl lc) ∧ w'.cell? ⟨b4, 1, none⟩ = some (.slice wa nw wc) ∧ w'.cell? ⟨b, o + f, none⟩ = some (.slice af df cf) ∧ w'.cell? ⟨b, o + j, none⟩ = some (.slice aj dj cj)) (by kernel_rfl) hS (fun _ => ?_)
        refine wpAnyH_take (i := 0) (v := .int .i64 (-1 : Int)) rfl (by kernel_rfl) (by kernel_rfl) (by kernel_rfl) (fun _ _ _ h => h) (Or.inl ⟨by kernel_rfl, fun w9 hSw => ?_⟩) hS ?_
        · obtain ⟨s1, s2, s3, s4⟩ := hSw
          go_simp
        change wpAnyH _ _ _ _ _ _ _ (Act.put _ (some 107) (.int .i64 (-1 : Int))) _
        (try simp only [Act.put, List.setIfInBounds_toArray, List.set_cons_zero, List.set_cons_succ])
        refine wpAnyH_take (i := 1) (v := .bool true) rfl (by kernel_rfl) (by kernel_rfl) (by kernel_rfl) (fun _ _ _ h => h) (Or.inl ⟨by kernel_rfl, fun w9 hSw => ?_⟩) hS ?_
        · obtain ⟨s1, s2, s3, s4⟩ := hSw
          go_simp
        change wpAnyH _ _ _ _ _ _ _ (Act.put _ (some 108) (.bool true)) _
        (try simp only [Act.put, List.setIfInBounds_toArray, List.set_cons_zero, List.set_cons_succ])
        refine wpAnyH_take (i := 2) (v := .bool true) rfl (by kernel_rfl) (by kernel_rfl) (by kernel_rfl) (fun _ _ _ h => h) (Or.inl ⟨by kernel_rfl, fun w9 hSw => ?_⟩) hS ?_
        · obtain ⟨s1, s2, s3, s4⟩ := hSw
          go_simp
        change wpAnyH _ _ _ _ _ _ _ (Act.put _ (some 109) (.bool true)) _
        (try simp only [Act.put, List.setIfInBounds_toArray, List.set_cons_zero, List.set_cons_succ])
        refine wpAnyH_take (i := 3) (v := .pointer (some ⟨ab, 0, none⟩)) rfl (by kernel_rfl) (by kernel_rfl) (by kernel_rfl) (fun _ _ _ h => h) (Or.inl ⟨by kernel_rfl, fun w9 hSw => ?_⟩) hS ?_
        · obtain ⟨s1, s2, s3, s4⟩ := hSw
          go_simp
        change wpAnyH _ _ _ _ _ _ _ (Act.put _ (some 110) (.pointer (some ⟨ab, 0, none⟩))) _
        (try simp only [Act.put, List.setIfInBounds_toArray, List.set_cons_zero, List.set_cons_succ])
        refine wpAnyH_take (i := 4) (v := .int .i64 (j : Int)) rfl (by kernel_rfl) (by kernel_rfl) (by kernel_rfl) (fun _ _ _ h => h) (Or.inl ⟨by kernel_rfl, fun w9 hSw => ?_⟩) hS ?_
        · obtain ⟨s1, s2, s3, s4⟩ := hSw
          go_simp
        change wpAnyH _ _ _ _ _ _ _ (Act.put _ (some 111) (.int .i64 (j : Int))) _
        (try simp only [Act.put, List.setIfInBounds_toArray, List.set_cons_zero, List.set_cons_succ])
        refine wpAnyH_take (i := 6) (v := .agg #[.slice (some ⟨b, o, none⟩) nl lc, .slice wa nw wc]) rfl (by kernel_rfl) (by kernel_rfl) (by kernel_rfl) (fun _ _ _ h => h) (Or.inl ⟨by kernel_rfl, fun w9 hSw => ?_⟩) hS ?_
        · obtain ⟨s1, s2, s3, s4⟩ := hSw
          go_simp
        change wpAnyH _ _ _ _ _ _ _ (Act.put _ (some 113) (.agg #[.slice (some ⟨b, o, none⟩) nl lc, .slice wa nw wc])) _
        (try simp only [Act.put, List.setIfInBounds_toArray, List.set_cons_zero, List.set_cons_succ])
        refine wpAnyH_take (i := 7) (v := .int .i64 (j : Int)) rfl (by kernel_rfl) (by kernel_rfl) (by kernel_rfl) (fun _ _ _ h => h) (Or.inl ⟨by kernel_rfl, fun w9 hSw => ?_⟩) hS ?_
        · obtain ⟨s1, s2, s3, s4⟩ := hSw
          go_simp
        change wpAnyH _ _ _ _ _ _ _ (Act.put _ (some 114) (.int .i64 (j : Int))) _
        (try simp only [Act.put, List.setIfInBounds_toArray, List.set_cons_zero, List.set_cons_succ])
        refine wpAnyH_ready (rs := [5]) (by kernel_rfl) (by simp) ?_
        refine AllReadyH.cons rfl (fun K hK => ?_) AllReadyH.nil
        go_simp
        refine (HEN.out (j : Int) _ (Below.drew HYd2.out)).mono ?_
        rintro ex y1 ⟨a1, c1, rfl, ha1, hbb⟩
        have HA1 := Lib.hid ha1
        clear ha1
        have hbb := bel_und hbb
        have HY1 := Lib.hid (bel_step HYd2.out hbb)
        have hS2 := HSS.out _ HY1.out
        clear hS hbb
        have hS := hS2
        clear hS2
        refine hK.out _ _ hS (fun _ => ?_)
        clear hK K
        (try simp only [Act.put, List.setIfInBounds_toArray, List.set_cons_zero, List.set_cons_succ])
        refine wpAnyH_ready (rs := [8]) (by kernel_rfl) (by simp) ?_
        refine AllReadyH.cons rfl (fun K hK => ?_) AllReadyH.nil
        go_simp
        refine (HWO.out _ HY1.out).mono ?_
        rintro ex y2 ⟨v2, rfl, hv2, hbb⟩
        obtain ⟨a2, c2, rfl⟩ := Tr.own_form hv2
        have HA2 := Lib.hid hv2
        have HA12 := Lib.hid (HA1.out.later hbb)
        clear hv2
        have HY2 := Lib.hid (bel_step HY1.out hbb)
        have hS2 := HSS.out _ HY2.out
        clear hS hbb
        have hS := hS2
        clear hS2
        refine hK.out _ _ hS (fun _ => ?_)
        clear hK K
        (try simp only [Act.put, List.setIfInBounds_toArray, List.set_cons_zero, List.set_cons_succ])
        refine wpAnyH_ready (rs := [9]) (by kernel_rfl) (by simp) ?_
        refine AllReadyH.cons rfl (fun K hK => ?_) AllReadyH.nil
        go_simp
        refine (Sm.same_any a1 a2 _ _ c1 c2 (finV L W j) (wordsV L W j) y2 (by rw [HFJ.out]; omega) HA12.out.sl (row_slk HA2.out)).mono ?_
        rintro ex y3 ⟨rfl, hbb⟩
        rw [decide_eq_true HFW.out]
        have HY3 := Lib.hid (bel_step HY2.out hbb)
        have hS2 := HSS.out _ HY3.out
        clear hS hbb
        have hS := hS2
        clear hS2
        refine hK.out _ _ hS (fun _ => ?_)
        clear hK K
        (try simp only [Act.put, List.setIfInBounds_toArray, List.set_cons_zero, List.set_cons_succ])
        refine wpAnyH_take (i := 10) (v := .bool false) rfl (by kernel_rfl) (by kernel_rfl) (by kernel_rfl) (fun _ _ _ h => h) (Or.inl ⟨by kernel_rfl, fun w9 hSw => ?_⟩) hS ?_
        · obtain ⟨s1, s2, s3, s4⟩ := hSw
          go_simp
        change wpAnyH _ _ _ _ _ _ _ (Act.put _ (some 117) (.bool false)) _
        (try simp only [Act.put, List.setIfInBounds_toArray, List.set_cons_zero, List.set_cons_succ])
        refine wpAnyH_take (i := 11) (v := .bool false) rfl (by kernel_rfl) (by kernel_rfl) (by kernel_rfl) (fun _ _ _ h => h) (Or.inl ⟨by kernel_rfl, fun w9 hSw => ?_⟩) hS ?_
        · obtain ⟨s1, s2, s3, s4⟩ := hSw
          go_simp
        change wpAnyH _ _ _ _ _ _ _ (Act.put _ (some 118) (.bool false)) _
        (try simp only [Act.put, List.setIfInBounds_toArray, List.set_cons_zero, List.set_cons_succ])
        refine wpAnyH_done (by kernel_rfl) ?_ _
        (try simp only [Act.put, List.setIfInBounds_toArray, List.set_cons_zero, List.set_cons_succ])
        go_wp2_with fail
        go_roundw
        case rel => exact ⟨j + 1, by omega, by omega, by go_num, bel_step HB.out HY3.out⟩
        case measure => simp [intOf]; omega
      · rw [hl] at HLa
        have he0 : (0 : Int) ≤ (e : Int) := Int.natCast_nonneg _
        have he1I : (0 : Int) < (e : Int) := by omega
        have he1n : ¬ (e : Int) < 0 := by omega
        have he1m : ¬ (e : Int) < -1 := by omega
        have he1z : ((e : Int) == 0) = false := by rw [beq_eq_false_iff_ne]; omega
        have he1zn : ¬ e = 0 := by omega
        have hen : (e : Int) < (nl : Int) := by rw [HNL.out] at he2; omega
        have hen2 : ¬ (nl : Int) ≤ (e : Int) := by omega
        have hen3 : ¬ nl ≤ e := by omega
        obtain ⟨ae, ce, hce⟩ := HROW.out e (by omega)
        obtain ⟨de, hde⟩ : ∃ d, (L.getD e []).length = d := ⟨_, rfl⟩
        rw [hde] at hce he3
        have hden : ¬ (df : Int) < (de : Int) := by omega
        have hden2 : ¬ df < de := by omega
        have HSE : Hid (∀ W', Below wr.heap.size wr W' → W'.cell? ⟨b4, 0, none⟩ = some (.slice (some ⟨b, o, none⟩) nl lc) ∧ W'.cell? ⟨b4, 1, none⟩ = some (.slice wa nw wc) ∧ W'.cell? ⟨b, o + f, none⟩ = some (.slice af df cf) ∧ W'.cell? ⟨b, o + j, none⟩ = some (.slice aj dj cj) ∧ W'.cell? ⟨b, o + e, none⟩ = some (.slice ae de ce)) := Lib.hid (fun W' hw => ⟨(HX1.out W' hw).1, (HX1.out W' hw).2, HCF.out W' hw, HCJ.out W' hw, hce W' (bel_step HB.out hw)⟩)
        obtain ⟨nj, hnj⟩ : ∃ n, (finV L W j).length = n := ⟨_, rfl⟩
        obtain ⟨ne, hne⟩ : ∃ n, (finV L W e).length = n := ⟨_, rfl⟩
        obtain ⟨mj, hmj⟩ : ∃ n, (wordsV L W j).length = n := ⟨_, rfl⟩
        have HFJ := Lib.hid hnj
        have HFE := Lib.hid hne
        have HWL := Lib.hid hmj
        have hnj9 : nj ≤ 1000 := by rw [← hnj]; exact HDL.out _
        rw [hnj, hmj, hne] at he4
        have hw9 : IntKind.i64.wrap ((mj : Int) + (ne : Int)) = (nj : Int) := by
          rw [show (mj : Int) + (ne : Int) = (nj : Int) by omega]; simp [IntKind.wrap, IntKind.bits, IntKind.signed]; omega
        have HSUM := Lib.hid hw9
        have ejj : ((nj : Int) != (nj : Int)) = false := by simp
        clear hl hnj hne hmj he4 hde hce hw9 he2 he3
        go_upto_region 15 with (go_at_call 15; refine (HLa.out _ HYd.out).mono ?_; rintro ex WC ⟨rfl, hb1⟩; have HYc := Lib.hid (bel_step HYd.out hb1); obtain ⟨x4, x5⟩ := HX1.out _ (bel_step HYd.out hb1); clear hb1)
        have hS : WC.drew.cell? ⟨b4, 0, none⟩ = some (.slice (some ⟨b, o, none⟩) nl lc) ∧ WC.drew.cell? ⟨b4, 1, none⟩ = some (.slice wa nw wc) ∧ WC.drew.cell? ⟨b, o + f, none⟩ = some (.slice af df cf) ∧ WC.drew.cell? ⟨b, o + j, none⟩ = some (.slice aj dj cj) ∧ WC.drew.cell? ⟨b, o + e, none⟩ = some (.slice ae de ce) := HSE.out _ (Below.drew HYc.out)
        refine wp_region_held_drew (S := fun w' => w'.cell? ⟨b4, 0, none⟩ = some (.slice (some ⟨b, o, none⟩) nl lc) ∧ w'.cell? ⟨b4, 1, none⟩ = some (.slice wa nw wc) ∧ w'.cell? ⟨b, o + f, none⟩ = some (.slice af df cf) ∧ w'.cell? ⟨b, o + j, none⟩ = some (.slice aj dj cj) ∧ w'.cell? ⟨b, o + e, none⟩ = some (.slice ae de ce)) (by kernel_rfl) hS (fun _ => ?_)
        refine wpAnyH_take (i := 0) (v := .int .i64 (e : Int)) rfl (by kernel_rfl) (by kernel_rfl) (by kernel_rfl) (fun _ _ _ h => h) (Or.inl ⟨by kernel_rfl, fun w9 hSw => ?_⟩) hS ?_
        · obtain ⟨s1, s2, s3, s4, s5⟩ := hSw
          go_simp
        change wpAnyH _ _ _ _ _ _ _ (Act.put _ (some 72) (.int .i64 (e : Int))) _
        (try simp only [Act.put, List.setIfInBounds_toArray, List.set_cons_zero, List.set_cons_succ])
        refine wpAnyH_take (i := 1) (v := .bool true) rfl (by kernel_rfl) (by kernel_rfl) (by kernel_rfl) (fun _ _ _ h => h) (Or.inl ⟨by kernel_rfl, fun w9 hSw => ?_⟩) hS ?_
        · obtain ⟨s1, s2, s3, s4, s5⟩ := hSw
          go_simp
          omega
        change wpAnyH _ _ _ _ _ _ _ (Act.put _ (some 73) (.bool true)) _
        (try simp only [Act.put, List.setIfInBounds_toArray, List.set_cons_zero, List.set_cons_succ])
        refine wpAnyH_take (i := 2) (v := .bool true) rfl (by kernel_rfl) (by kernel_rfl) (by kernel_rfl) (fun _ _ _ h => h) (Or.inl ⟨by kernel_rfl, fun w9 hSw => ?_⟩) hS ?_
        · obtain ⟨s1, s2, s3, s4, s5⟩ := hSw
          go_simp
        change wpAnyH _ _ _ _ _ _ _ (Act.put _ (some 74) (.bool true)) _
        (try simp only [Act.put, List.setIfInBounds_toArray, List.set_cons_zero, List.set_cons_succ])
        refine wpAnyH_take (i := 3) (v := .pointer (some ⟨b4, 0, none⟩)) rfl (by kernel_rfl) (by kernel_rfl) (by kernel_rfl) (fun _ _ _ h => h) (Or.inl ⟨by kernel_rfl, fun w9 hSw => ?_⟩) hS ?_
        · obtain ⟨s1, s2, s3, s4, s5⟩ := hSw
          go_simp
        change wpAnyH _ _ _ _ _ _ _ (Act.put _ (some 75) (.pointer (some ⟨b4, 0, none⟩))) _
        (try simp only [Act.put, List.setIfInBounds_toArray, List.set_cons_zero, List.set_cons_succ])
        refine wpAnyH_take (i := 4) (v := .slice (some ⟨b, o, none⟩) nl lc) rfl (by kernel_rfl) (by kernel_rfl) (by kernel_rfl) (fun _ _ _ h => h) (Or.inl ⟨by kernel_rfl, fun w9 hSw => ?_⟩) hS ?_
        · obtain ⟨s1, s2, s3, s4, s5⟩ := hSw
          go_simp
        change wpAnyH _ _ _ _ _ _ _ (Act.put _ (some 76) (.slice (some ⟨b, o, none⟩) nl lc)) _
        (try simp only [Act.put, List.setIfInBounds_toArray, List.set_cons_zero, List.set_cons_succ])
        refine wpAnyH_take (i := 5) (v := .int .i64 (e : Int)) rfl (by kernel_rfl) (by kernel_rfl) (by kernel_rfl) (fun _ _ _ h => h) (Or.inl ⟨by kernel_rfl, fun w9 hSw => ?_⟩) hS ?_
        · obtain ⟨s1, s2, s3, s4, s5⟩ := hSw
          go_simp
        change wpAnyH _ _ _ _ _ _ _ (Act.put _ (some 77) (.int .i64 (e : Int))) _
        (try simp only [Act.put, List.setIfInBounds_toArray, List.set_cons_zero, List.set_cons_succ])
        refine wpAnyH_take (i := 6) (v := .pointer (some ⟨b, o + e, none⟩)) rfl (by kernel_rfl) (by kernel_rfl) (by kernel_rfl) (fun _ _ _ h => h) (Or.inl ⟨by kernel_rfl, fun w9 hSw => ?_⟩) hS ?_
        · obtain ⟨s1, s2, s3, s4, s5⟩ := hSw
          go_simp
        change wpAnyH _ _ _ _ _ _ _ (Act.put _ (some 78) (.pointer (some ⟨b, o + e, none⟩))) _
        (try simp only [Act.put, List.setIfInBounds_toArray, List.set_cons_zero, List.set_cons_succ])
        refine wpAnyH_take (i := 7) (v := .slice ae de ce) rfl (by kernel_rfl) (by kernel_rfl) (by kernel_rfl) (fun _ _ _ h => h) (Or.inl ⟨by kernel_rfl, fun w9 hSw => ?_⟩) hS ?_
        · obtain ⟨s1, s2, s3, s4, s5⟩ := hSw
          go_simp
        change wpAnyH _ _ _ _ _ _ _ (Act.put _ (some 79) (.slice ae de ce)) _
        (try simp only [Act.put, List.setIfInBounds_toArray, List.set_cons_zero, List.set_cons_succ])
        refine wpAnyH_take (i := 8) (v := .int .i64 (de : Int)) rfl (by kernel_rfl) (by kernel_rfl) (by kernel_rfl) (fun _ _ _ h => h) (Or.inl ⟨by kernel_rfl, fun w9 hSw => ?_⟩) hS ?_
        · obtain ⟨s1, s2, s3, s4, s5⟩ := hSw
          go_simp
        change wpAnyH _ _ _ _ _ _ _ (Act.put _ (some 80) (.int .i64 (de : Int))) _
        (try simp only [Act.put, List.setIfInBounds_toArray, List.set_cons_zero, List.set_cons_succ])
        refine wpAnyH_take (i := 9) (v := .pointer (some ⟨b4, 0, none⟩)) rfl (by kernel_rfl) (by kernel_rfl) (by kernel_rfl) (fun _ _ _ h => h) (Or.inl ⟨by kernel_rfl, fun w9 hSw => ?_⟩) hS ?_
        · obtain ⟨s1, s2, s3, s4, s5⟩ := hSw
          go_simp
        change wpAnyH _ _ _ _ _ _ _ (Act.put _ (some 81) (.pointer (some ⟨b4, 0, none⟩))) _
        (try simp only [Act.put, List.setIfInBounds_toArray, List.set_cons_zero, List.set_cons_succ])
        refine wpAnyH_take (i := 10) (v := .slice (some ⟨b, o, none⟩) nl lc) rfl (by kernel_rfl) (by kernel_rfl) (by kernel_rfl) (fun _ _ _ h => h) (Or.inl ⟨by kernel_rfl, fun w9 hSw => ?_⟩) hS ?_
        · obtain ⟨s1, s2, s3, s4, s5⟩ := hSw
          go_simp
        change wpAnyH _ _ _ _ _ _ _ (Act.put _ (some 82) (.slice (some ⟨b, o, none⟩) nl lc)) _
        (try simp only [Act.put, List.setIfInBounds_toArray, List.set_cons_zero, List.set_cons_succ])
        refine wpAnyH_take (i := 11) (v := .int .i64 (f : Int)) rfl (by kernel_rfl) (by kernel_rfl) (by kernel_rfl) (fun _ _ _ h => h) (Or.inl ⟨by kernel_rfl, fun w9 hSw => ?_⟩) hS ?_
        · obtain ⟨s1, s2, s3, s4, s5⟩ := hSw
          go_simp
        change wpAnyH _ _ _ _ _ _ _ (Act.put _ (some 83) (.int .i64 (f : Int))) _
        (try simp only [Act.put, List.setIfInBounds_toArray, List.set_cons_zero, List.set_cons_succ])
        refine wpAnyH_take (i := 12) (v := .pointer (some ⟨b, o + f, none⟩)) rfl (by kernel_rfl) (by kernel_rfl) (by kernel_rfl) (fun _ _ _ h => h) (Or.inl ⟨by kernel_rfl, fun w9 hSw => ?_⟩) hS ?_
        · obtain ⟨s1, s2, s3, s4, s5⟩ := hSw
          go_simp
        change wpAnyH _ _ _ _ _ _ _ (Act.put _ (some 84) (.pointer (some ⟨b, o + f, none⟩))) _
        (try simp only [Act.put, List.setIfInBounds_toArray, List.set_cons_zero, List.set_cons_succ])
        refine wpAnyH_take (i := 13) (v := .slice af df cf) rfl (by kernel_rfl) (by kernel_rfl) (by kernel_rfl) (fun _ _ _ h => h) (Or.inl ⟨by kernel_rfl, fun w9 hSw => ?_⟩) hS ?_
        · obtain ⟨s1, s2, s3, s4, s5⟩ := hSw
          go_simp
        change wpAnyH _ _ _ _ _ _ _ (Act.put _ (some 85) (.slice af df cf)) _
        (try simp only [Act.put, List.setIfInBounds_toArray, List.set_cons_zero, List.set_cons_succ])
        refine wpAnyH_take (i := 14) (v := .int .i64 (df : Int)) rfl (by kernel_rfl) (by kernel_rfl) (by kernel_rfl) (fun _ _ _ h => h) (Or.inl ⟨by kernel_rfl, fun w9 hSw => ?_⟩) hS ?_
        · obtain ⟨s1, s2, s3, s4, s5⟩ := hSw
          go_simp
        change wpAnyH _ _ _ _ _ _ _ (Act.put _ (some 86) (.int .i64 (df : Int))) _
        (try simp only [Act.put, List.setIfInBounds_toArray, List.set_cons_zero, List.set_cons_succ])
        refine wpAnyH_take (i := 15) (v := .bool false) rfl (by kernel_rfl) (by kernel_rfl) (by kernel_rfl) (fun _ _ _ h => h) (Or.inl ⟨by kernel_rfl, fun w9 hSw => ?_⟩) hS ?_
        · obtain ⟨s1, s2, s3, s4, s5⟩ := hSw
          go_simp
        change wpAnyH _ _ _ _ _ _ _ (Act.put _ (some 87) (.bool false)) _
        (try simp only [Act.put, List.setIfInBounds_toArray, List.set_cons_zero, List.set_cons_succ])
        refine wpAnyH_take (i := 16) (v := .bool false) rfl (by kernel_rfl) (by kernel_rfl) (by kernel_rfl) (fun _ _ _ h => h) (Or.inl ⟨by kernel_rfl, fun w9 hSw => ?_⟩) hS ?_
        · obtain ⟨s1, s2, s3, s4, s5⟩ := hSw
          go_simp
        change wpAnyH _ _ _ _ _ _ _ (Act.put _ (some 88) (.bool false)) _
        (try simp only [Act.put, List.setIfInBounds_toArray, List.set_cons_zero, List.set_cons_succ])
        refine wpAnyH_done (by kernel_rfl) ?_ _
        (try simp only [Act.put, List.setIfInBounds_toArray, List.set_cons_zero, List.set_cons_succ])
        have HYd1 := Lib.hid HYc.out.drew
        obtain ⟨WD1, hWD⟩ : ∃ WD, WC.drew = WD := ⟨_, rfl⟩
        rw [hWD] at HYd1
        try rw [hWD]
        clear hWD hS
        go_upto_region 17 with fail
        have hS : WD1.drew.cell? ⟨b4, 0, none⟩ = some (.slice (some ⟨b, o, none⟩) nl lc) ∧ WD1.drew.cell? ⟨b4, 1, none⟩ = some (.slice wa nw wc) ∧ WD1.drew.cell? ⟨b, o + f, none⟩ = some (.slice af df cf) ∧ WD1.drew.cell? ⟨b, o + j, none⟩ = some (.slice aj dj cj) ∧ WD1.drew.cell? ⟨b, o + e, none⟩ = some (.slice ae de ce) := HSE.out _ (Below.drew HYd1.out)
        refine wp_region_held_drew (S := fun w' => w'.cell? ⟨b4, 0, none⟩ = some (.slice (some ⟨b, o, none⟩) nl lc) ∧ w'.cell? ⟨b4, 1, none⟩ = some (.slice wa nw wc) ∧ w'.cell? ⟨b, o + f, none⟩ = some (.slice af df cf) ∧ w'.cell? ⟨b, o + j, none⟩ = some (.slice aj dj cj) ∧ w'.cell? ⟨b, o + e, none⟩ = some (.slice ae de ce)) (by kernel_rfl) hS (fun _ => ?_)
        refine wpAnyH_take (i := 0) (v := .int .i64 (e : Int)) rfl (by kernel_rfl) (by kernel_rfl) (by kernel_rfl) (fun _ _ _ h => h) (Or.inl ⟨by kernel_rfl, fun w9 hSw => ?_⟩) hS ?_
        · obtain ⟨s1, s2, s3, s4, s5⟩ := hSw
          go_simp
        change wpAnyH _ _ _ _ _ _ _ (Act.put _ (some 89) (.int .i64 (e : Int))) _
        (try simp only [Act.put, List.setIfInBounds_toArray, List.set_cons_zero, List.set_cons_succ])
        refine wpAnyH_take (i := 1) (v := .bool true) rfl (by kernel_rfl) (by kernel_rfl) (by kernel_rfl) (fun _ _ _ h => h) (Or.inl ⟨by kernel_rfl, fun w9 hSw => ?_⟩) hS ?_
        · obtain ⟨s1, s2, s3, s4, s5⟩ := hSw
          go_simp
          omega
        change wpAnyH _ _ _ _ _ _ _ (Act.put _ (some 90) (.bool true)) _
        (try simp only [Act.put, List.setIfInBounds_toArray, List.set_cons_zero, List.set_cons_succ])
        refine wpAnyH_take (i := 2) (v := .bool true) rfl (by kernel_rfl) (by kernel_rfl) (by kernel_rfl) (fun _ _ _ h => h) (Or.inl ⟨by kernel_rfl, fun w9 hSw => ?_⟩) hS ?_
        · obtain ⟨s1, s2, s3, s4, s5⟩ := hSw
          go_simp
        change wpAnyH _ _ _ _ _ _ _ (Act.put _ (some 91) (.bool true)) _
        (try simp only [Act.put, List.setIfInBounds_toArray, List.set_cons_zero, List.set_cons_succ])
        refine wpAnyH_take (i := 3) (v := .pointer (some ⟨ab, 0, none⟩)) rfl (by kernel_rfl) (by kernel_rfl) (by kernel_rfl) (fun _ _ _ h => h) (Or.inl ⟨by kernel_rfl, fun w9 hSw => ?_⟩) hS ?_
        · obtain ⟨s1, s2, s3, s4, s5⟩ := hSw
          go_simp
        change wpAnyH _ _ _ _ _ _ _ (Act.put _ (some 92) (.pointer (some ⟨ab, 0, none⟩))) _
        (try simp only [Act.put, List.setIfInBounds_toArray, List.set_cons_zero, List.set_cons_succ])
        refine wpAnyH_take (i := 4) (v := .int .i64 (j : Int)) rfl (by kernel_rfl) (by kernel_rfl) (by kernel_rfl) (fun _ _ _ h => h) (Or.inl ⟨by kernel_rfl, fun w9 hSw => ?_⟩) hS ?_
        · obtain ⟨s1, s2, s3, s4, s5⟩ := hSw
          go_simp
        change wpAnyH _ _ _ _ _ _ _ (Act.put _ (some 93) (.int .i64 (j : Int))) _
        (try simp only [Act.put, List.setIfInBounds_toArray, List.set_cons_zero, List.set_cons_succ])
        refine wpAnyH_take (i := 7) (v := .agg #[.slice (some ⟨b, o, none⟩) nl lc, .slice wa nw wc]) rfl (by kernel_rfl) (by kernel_rfl) (by kernel_rfl) (fun _ _ _ h => h) (Or.inl ⟨by kernel_rfl, fun w9 hSw => ?_⟩) hS ?_
        · obtain ⟨s1, s2, s3, s4, s5⟩ := hSw
          go_simp
        change wpAnyH _ _ _ _ _ _ _ (Act.put _ (some 96) (.agg #[.slice (some ⟨b, o, none⟩) nl lc, .slice wa nw wc])) _
        (try simp only [Act.put, List.setIfInBounds_toArray, List.set_cons_zero, List.set_cons_succ])
        refine wpAnyH_take (i := 8) (v := .int .i64 (j : Int)) rfl (by kernel_rfl) (by kernel_rfl) (by kernel_rfl) (fun _ _ _ h => h) (Or.inl ⟨by kernel_rfl, fun w9 hSw => ?_⟩) hS ?_
        · obtain ⟨s1, s2, s3, s4, s5⟩ := hSw
          go_simp
        change wpAnyH _ _ _ _ _ _ _ (Act.put _ (some 97) (.int .i64 (j : Int))) _
        (try simp only [Act.put, List.setIfInBounds_toArray, List.set_cons_zero, List.set_cons_succ])
        refine wpAnyH_take (i := 11) (v := .pointer (some ⟨ab, 0, none⟩)) rfl (by kernel_rfl) (by kernel_rfl) (by kernel_rfl) (fun _ _ _ h => h) (Or.inl ⟨by kernel_rfl, fun w9 hSw => ?_⟩) hS ?_
        · obtain ⟨s1, s2, s3, s4, s5⟩ := hSw
          go_simp
        change wpAnyH _ _ _ _ _ _ _ (Act.put _ (some 100) (.pointer (some ⟨ab, 0, none⟩))) _
        (try simp only [Act.put, List.setIfInBounds_toArray, List.set_cons_zero, List.set_cons_succ])
        refine wpAnyH_take (i := 12) (v := .int .i64 (e : Int)) rfl (by kernel_rfl) (by kernel_rfl) (by kernel_rfl) (fun _ _ _ h => h) (Or.inl ⟨by kernel_rfl, fun w9 hSw => ?_⟩) hS ?_
        · obtain ⟨s1, s2, s3, s4, s5⟩ := hSw
          go_simp
        change wpAnyH _ _ _ _ _ _ _ (Act.put _ (some 101) (.int .i64 (e : Int))) _
        (try simp only [Act.put, List.setIfInBounds_toArray, List.set_cons_zero, List.set_cons_succ])
        refine wpAnyH_ready (rs := [5]) (by kernel_rfl) (by simp) ?_
        refine AllReadyH.cons rfl (fun K hK => ?_) AllReadyH.nil
        go_simp
        refine (HEN.out (j : Int) _ (Below.drew HYd1.out)).mono ?_
        rintro ex y1 ⟨a1, c1, rfl, ha1, hbb⟩
        rw [HFJ.out]
        clear ha1
        have hbb := bel_und hbb
        have HY1 := Lib.hid (bel_step HYd1.out hbb)
        have hS2 := HSE.out _ HY1.out
        clear hS hbb
        have hS := hS2
        clear hS2
        refine hK.out _ _ hS (fun _ => ?_)
        clear hK K
        (try simp only [Act.put, List.setIfInBounds_toArray, List.set_cons_zero, List.set_cons_succ])
        refine wpAnyH_take (i := 6) (v := .int .i64 (nj : Int)) rfl (by kernel_rfl) (by kernel_rfl) (by kernel_rfl) (fun _ _ _ h => h) (Or.inl ⟨by kernel_rfl, fun w9 hSw => ?_⟩) hS ?_
        · obtain ⟨s1, s2, s3, s4, s5⟩ := hSw
          go_simp
        change wpAnyH _ _ _ _ _ _ _ (Act.put _ (some 95) (.int .i64 (nj : Int))) _
        (try simp only [Act.put, List.setIfInBounds_toArray, List.set_cons_zero, List.set_cons_succ])
        refine wpAnyH_ready (rs := [9]) (by kernel_rfl) (by simp) ?_
        refine AllReadyH.cons rfl (fun K hK => ?_) AllReadyH.nil
        go_simp
        refine (HWO.out _ HY1.out).mono ?_
        rintro ex y2 ⟨v2, rfl, hv2, hbb⟩
        obtain ⟨a2, c2, rfl⟩ := Tr.own_form hv2
        rw [HWL.out]
        clear hv2
        have HY2 := Lib.hid (bel_step HY1.out hbb)
        have hS2 := HSE.out _ HY2.out
        clear hS hbb
        have hS := hS2
        clear hS2
        refine hK.out _ _ hS (fun _ => ?_)
        clear hK K
        (try simp only [Act.put, List.setIfInBounds_toArray, List.set_cons_zero, List.set_cons_succ])
        refine wpAnyH_take (i := 10) (v := .int .i64 (mj : Int)) rfl (by kernel_rfl) (by kernel_rfl) (by kernel_rfl) (fun _ _ _ h => h) (Or.inl ⟨by kernel_rfl, fun w9 hSw => ?_⟩) hS ?_
        · obtain ⟨s1, s2, s3, s4, s5⟩ := hSw
          go_simp
        change wpAnyH _ _ _ _ _ _ _ (Act.put _ (some 99) (.int .i64 (mj : Int))) _
        (try simp only [Act.put, List.setIfInBounds_toArray, List.set_cons_zero, List.set_cons_succ])
        refine wpAnyH_ready (rs := [13]) (by kernel_rfl) (by simp) ?_
        refine AllReadyH.cons rfl (fun K hK => ?_) AllReadyH.nil
        go_simp
        refine (HEN.out (e : Int) _ HY2.out).mono ?_
        rintro ex y3 ⟨a3, c3, rfl, ha3, hbb⟩
        rw [HFE.out]
        clear ha3
        have HY3 := Lib.hid (bel_step HY2.out hbb)
        have hS2 := HSE.out _ HY3.out
        clear hS hbb
        have hS := hS2
        clear hS2
        refine hK.out _ _ hS (fun _ => ?_)
        clear hK K
        (try simp only [Act.put, List.setIfInBounds_toArray, List.set_cons_zero, List.set_cons_succ])
        refine wpAnyH_take (i := 14) (v := .int .i64 (ne : Int)) rfl (by kernel_rfl) (by kernel_rfl) (by kernel_rfl) (fun _ _ _ h => h) (Or.inl ⟨by kernel_rfl, fun w9 hSw => ?_⟩) hS ?_
        · obtain ⟨s1, s2, s3, s4, s5⟩ := hSw
          go_simp
        change wpAnyH _ _ _ _ _ _ _ (Act.put _ (some 103) (.int .i64 (ne : Int))) _
        (try simp only [Act.put, List.setIfInBounds_toArray, List.set_cons_zero, List.set_cons_succ])
        refine wpAnyH_take (i := 15) (v := .int .i64 (nj : Int)) rfl (by kernel_rfl) (by kernel_rfl) (by kernel_rfl) (fun _ _ _ h => h) (Or.inl ⟨by kernel_rfl, fun w9 hSw => ?_⟩) hS ?_
        · obtain ⟨s1, s2, s3, s4, s5⟩ := hSw
          go_simp
          exact HSUM.out
        change wpAnyH _ _ _ _ _ _ _ (Act.put _ (some 104) (.int .i64 (nj : Int))) _
        (try simp only [Act.put, List.setIfInBounds_toArray, List.set_cons_zero, List.set_cons_succ])
        refine wpAnyH_take (i := 16) (v := .bool false) rfl (by kernel_rfl) (by kernel_rfl) (by kernel_rfl) (fun _ _ _ h => h) (Or.inl ⟨by kernel_rfl, fun w9 hSw => ?_⟩) hS ?_
        · obtain ⟨s1, s2, s3, s4, s5⟩ := hSw
          go_simp
        change wpAnyH _ _ _ _ _ _ _ (Act.put _ (some 105) (.bool false)) _
        (try simp only [Act.put, List.setIfInBounds_toArray, List.set_cons_zero, List.set_cons_succ])
        refine wpAnyH_take (i := 17) (v := .bool false) rfl (by kernel_rfl) (by kernel_rfl) (by kernel_rfl) (fun _ _ _ h => h) (Or.inl ⟨by kernel_rfl, fun w9 hSw => ?_⟩) hS ?_
        · obtain ⟨s1, s2, s3, s4, s5⟩ := hSw
          go_simp
        change wpAnyH _ _ _ _ _ _ _ (Act.put _ (some 106) (.bool false)) _
        (try simp only [Act.put, List.setIfInBounds_toArray, List.set_cons_zero, List.set_cons_succ])
        refine wpAnyH_done (by kernel_rfl) ?_ _
        (try simp only [Act.put, List.setIfInBounds_toArray, List.set_cons_zero, List.set_cons_succ])
        clear hS
        go_upto_region 19 with fail
        have hS : y3.drew.cell? ⟨b4, 0, none⟩ = some (.slice (some ⟨b, o, none⟩) nl lc) ∧ y3.drew.cell? ⟨b4, 1, none⟩ = some (.slice wa nw wc) ∧ y3.drew.cell? ⟨b, o + f, none⟩ = some (.slice af df cf) ∧ y3.drew.cell? ⟨b, o + j, none⟩ = some (.slice aj dj cj) ∧ y3.drew.cell? ⟨b, o + e, none⟩ = some (.slice ae de ce) := HSE.out _ (Below.drew HY3.out)
        refine wp_region_held_drew (S := fun w' => w'.cell? ⟨b4, 0, none⟩ = some (.slice (some ⟨b, o, none⟩) nl lc) ∧ w'.cell? ⟨b4, 1, none⟩ = some (.slice wa nw wc) ∧ w'.cell? ⟨b, o + f, none⟩ = some (.slice af df cf) ∧ w'.cell? ⟨b, o + j, none⟩ = some (.slice aj dj cj) ∧ w'.cell? ⟨b, o + e, none⟩ = some (.slice ae de ce)) (by kernel_rfl) hS (fun _ => ?_)
        refine wpAnyH_take (i := 0) (v := .int .i64 (e : Int)) rfl (by kernel_rfl) (by kernel_rfl) (by kernel_rfl) (fun _ _ _ h => h) (Or.inl ⟨by kernel_rfl, fun w9 hSw => ?_⟩) hS ?_
        · obtain ⟨s1, s2, s3, s4, s5⟩ := hSw
          go_simp
        change wpAnyH _ _ _ _ _ _ _ (Act.put _ (some 107) (.int .i64 (e : Int))) _
        (try simp only [Act.put, List.setIfInBounds_toArray, List.set_cons_zero, List.set_cons_succ])
        refine wpAnyH_take (i := 1) (v := .bool false) rfl (by kernel_rfl) (by kernel_rfl) (by kernel_rfl) (fun _ _ _ h => h) (Or.inl ⟨by kernel_rfl, fun w9 hSw => ?_⟩) hS ?_
        · obtain ⟨s1, s2, s3, s4, s5⟩ := hSw
          go_simp
        change wpAnyH _ _ _ _ _ _ _ (Act.put _ (some 108) (.bool false)) _
        (try simp only [Act.put, List.setIfInBounds_toArray, List.set_cons_zero, List.set_cons_succ])
        refine wpAnyH_take (i := 2) (v := .bool false) rfl (by kernel_rfl) (by kernel_rfl) (by kernel_rfl) (fun _ _ _ h => h) (Or.inl ⟨by kernel_rfl, fun w9 hSw => ?_⟩) hS ?_
        · obtain ⟨s1, s2, s3, s4, s5⟩ := hSw
          go_simp
        change wpAnyH _ _ _ _ _ _ _ (Act.put _ (some 109) (.bool false)) _
        (try simp only [Act.put, List.setIfInBounds_toArray, List.set_cons_zero, List.set_cons_succ])
        refine wpAnyH_take (i := 3) (v := undef) rfl (by kernel_rfl) (by kernel_rfl) (by kernel_rfl) (fun _ _ _ h => h) (Or.inr ⟨by kernel_rfl, rfl⟩) hS ?_
        change wpAnyH _ _ _ _ _ _ _ (Act.put _ (some 110) (undef)) _
        (try simp only [Act.put, List.setIfInBounds_toArray, List.set_cons_zero, List.set_cons_succ])
        refine wpAnyH_take (i := 4) (v := undef) rfl (by kernel_rfl) (by kernel_rfl) (by kernel_rfl) (fun _ _ _ h => h) (Or.inr ⟨by kernel_rfl, rfl⟩) hS ?_
        change wpAnyH _ _ _ _ _ _ _ (Act.put _ (some 111) (undef)) _
        (try simp only [Act.put, List.setIfInBounds_toArray, List.set_cons_zero, List.set_cons_succ])
        refine wpAnyH_take (i := 5) (v := undef) rfl (by kernel_rfl) (by kernel_rfl) (by kernel_rfl) (fun _ _ _ h => h) (Or.inr ⟨by kernel_rfl, rfl⟩) hS ?_
        change wpAnyH _ _ _ _ _ _ _ (Act.put _ (some 112) (undef)) _
        (try simp only [Act.put, List.setIfInBounds_toArray, List.set_cons_zero, List.set_cons_succ])
        refine wpAnyH_take (i := 6) (v := undef) rfl (by kernel_rfl) (by kernel_rfl) (by kernel_rfl) (fun _ _ _ h => h) (Or.inr ⟨by kernel_rfl, rfl⟩) hS ?_
        change wpAnyH _ _ _ _ _ _ _ (Act.put _ (some 113) (undef)) _
        (try simp only [Act.put, List.setIfInBounds_toArray, List.set_cons_zero, List.set_cons_succ])
        refine wpAnyH_take (i := 7) (v := undef) rfl (by kernel_rfl) (by kernel_rfl) (by kernel_rfl) (fun _ _ _ h => h) (Or.inr ⟨by kernel_rfl, rfl⟩) hS ?_
        change wpAnyH _ _ _ _ _ _ _ (Act.put _ (some 114) (undef)) _
        (try simp only [Act.put, List.setIfInBounds_toArray, List.set_cons_zero, List.set_cons_succ])
        refine wpAnyH_take (i := 8) (v := undef) rfl (by kernel_rfl) (by kernel_rfl) (by kernel_rfl) (fun _ _ _ h => h) (Or.inr ⟨by kernel_rfl, rfl⟩) hS ?_
        change wpAnyH _ _ _ _ _ _ _ (Act.put _ (some 115) (undef)) _
        (try simp only [Act.put, List.setIfInBounds_toArray, List.set_cons_zero, List.set_cons_succ])
        refine wpAnyH_take (i := 9) (v := undef) rfl (by kernel_rfl) (by kernel_rfl) (by kernel_rfl) (fun _ _ _ h => h) (Or.inr ⟨by kernel_rfl, rfl⟩) hS ?_
        change wpAnyH _ _ _ _ _ _ _ (Act.put _ (some 116) (undef)) _
        (try simp only [Act.put, List.setIfInBounds_toArray, List.set_cons_zero, List.set_cons_succ])
        refine wpAnyH_take (i := 10) (v := undef) rfl (by kernel_rfl) (by kernel_rfl) (by kernel_rfl) (fun _ _ _ h => h) (Or.inr ⟨by kernel_rfl, rfl⟩) hS ?_
        change wpAnyH _ _ _ _ _ _ _ (Act.put _ (some 117) (undef)) _
        (try simp only [Act.put, List.setIfInBounds_toArray, List.set_cons_zero, List.set_cons_succ])
        refine wpAnyH_take (i := 11) (v := .bool false) rfl (by kernel_rfl) (by kernel_rfl) (by kernel_rfl) (fun _ _ _ h => h) (Or.inl ⟨by kernel_rfl, fun w9 hSw => ?_⟩) hS ?_
        · obtain ⟨s1, s2, s3, s4, s5⟩ := hSw
          go_simp
        change wpAnyH _ _ _ _ _ _ _ (Act.put _ (some 118) (.bool false)) _
        (try simp only [Act.put, List.setIfInBounds_toArray, List.set_cons_zero, List.set_cons_succ])
        refine wpAnyH_done (by kernel_rfl) ?_ _
        (try simp only [Act.put, List.setIfInBounds_toArray, List.set_cons_zero, List.set_cons_succ])
        go_wp2_with fail
        go_roundw
        case rel => exact ⟨j + 1, by omega, by omega, by go_num, bel_step HB.out HY3.out.drew⟩
        case measure => simp [intOf]; omega
    · obtain rfl : nl = j := by omega
      have hltI : ¬ (nl : Int) < (nl : Int) := by omega
      go_upto_region 21 with (go_at_call 11; refine HLn.out.mono ?_; rintro e y0 ⟨rfl, rfl⟩)
      have hS : wr.drew.cell? ⟨b4, 0, none⟩ = some (.slice (some ⟨b, o, none⟩) nl lc) ∧ wr.drew.cell? ⟨b4, 1, none⟩ = some (.slice wa nw wc) := (HS4.out.later HB.out).cells
      refine wp_region_held_drew (S := fun w' => w'.cell? ⟨b4, 0, none⟩ = some (.slice (some ⟨b, o, none⟩) nl lc) ∧ w'.cell? ⟨b4, 1, none⟩ = some (.slice wa nw wc)) (by kernel_rfl) hS (fun _ => ?_)
      refine wpAnyH_take (i := 0) (v := .pointer (some ⟨ab, 0, none⟩)) rfl (by kernel_rfl) (by kernel_rfl) (by kernel_rfl) (fun _ _ _ h => h) (Or.inl ⟨by kernel_rfl, fun w9 hSw => ?_⟩) hS ?_
      · obtain ⟨s1, s2⟩ := hSw
        go_simp
      change wpAnyH _ _ _ _ _ _ _ (Act.put _ (some 119) (.pointer (some ⟨ab, 0, none⟩))) _
      (try simp only [Act.put, List.setIfInBounds_toArray, List.set_cons_zero, List.set_cons_succ])
      refine wpAnyH_ready (rs := [1]) (by kernel_rfl) (by simp) ?_
      refine AllReadyH.cons rfl (fun K hK => ?_) AllReadyH.nil
      go_simp
      refine (fall_P (HT2.out.later (bel_step HB.out (Below.refl _ _).drew)) HIW.out 0).mono ?_
      rintro ex y1 ⟨rfl, hbb⟩
      rw [fall_zero]
      have HY1 := Lib.hid (bel_und hbb)
      have hS2 := (HS4.out.later (bel_step HB.out HY1.out)).cells
      clear hS hbb
      have hS := hS2
      clear hS2
      refine hK.out _ _ hS (fun _ => ?_)
      clear hK K
      (try simp only [Act.put, List.setIfInBounds_toArray, List.set_cons_zero, List.set_cons_succ])
      refine wpAnyH_take (i := 2) (v := .bool true) rfl (by kernel_rfl) (by kernel_rfl) (by kernel_rfl) (fun _ _ _ h => h) (Or.inl ⟨by kernel_rfl, fun w9 hSw => ?_⟩) hS ?_
      · obtain ⟨s1, s2⟩ := hSw
        go_simp
      change wpAnyH _ _ _ _ _ _ _ (Act.put _ (some 121) (.bool true)) _
      (try simp only [Act.put, List.setIfInBounds_toArray, List.set_cons_zero, List.set_cons_succ])
      refine wpAnyH_take (i := 3) (v := .bool true) rfl (by kernel_rfl) (by kernel_rfl) (by kernel_rfl) (fun _ _ _ h => h) (Or.inl ⟨by kernel_rfl, fun w9 hSw => ?_⟩) hS ?_
      · obtain ⟨s1, s2⟩ := hSw
        go_simp
      change wpAnyH _ _ _ _ _ _ _ (Act.put _ (some 122) (.bool true)) _
      (try simp only [Act.put, List.setIfInBounds_toArray, List.set_cons_zero, List.set_cons_succ])
      refine wpAnyH_take (i := 4) (v := .pointer (some ⟨ab, 0, none⟩)) rfl (by kernel_rfl) (by kernel_rfl) (by kernel_rfl) (fun _ _ _ h => h) (Or.inl ⟨by kernel_rfl, fun w9 hSw => ?_⟩) hS ?_
      · obtain ⟨s1, s2⟩ := hSw
        go_simp
      change wpAnyH _ _ _ _ _ _ _ (Act.put _ (some 123) (.pointer (some ⟨ab, 0, none⟩))) _
      (try simp only [Act.put, List.setIfInBounds_toArray, List.set_cons_zero, List.set_cons_succ])
      refine wpAnyH_take (i := 6) (v := .pointer (some ⟨b4, 0, none⟩)) rfl (by kernel_rfl) (by kernel_rfl) (by kernel_rfl) (fun _ _ _ h => h) (Or.inl ⟨by kernel_rfl, fun w9 hSw => ?_⟩) hS ?_
      · obtain ⟨s1, s2⟩ := hSw
        go_simp
      change wpAnyH _ _ _ _ _ _ _ (Act.put _ (some 125) (.pointer (some ⟨b4, 0, none⟩))) _
      (try simp only [Act.put, List.setIfInBounds_toArray, List.set_cons_zero, List.set_cons_succ])
      refine wpAnyH_take (i := 7) (v := .slice (some ⟨b, o, none⟩) nl lc) rfl (by kernel_rfl) (by kernel_rfl) (by kernel_rfl) (fun _ _ _ h => h) (Or.inl ⟨by kernel_rfl, fun w9 hSw => ?_⟩) hS ?_
      · obtain ⟨s1, s2⟩ := hSw
        go_simp
      change wpAnyH _ _ _ _ _ _ _ (Act.put _ (some 126) (.slice (some ⟨b, o, none⟩) nl lc)) _
      (try simp only [Act.put, List.setIfInBounds_toArray, List.set_cons_zero, List.set_cons_succ])
      refine wpAnyH_take (i := 8) (v := .int .i64 (nl : Int)) rfl (by kernel_rfl) (by kernel_rfl) (by kernel_rfl) (fun _ _ _ h => h) (Or.inl ⟨by kernel_rfl, fun w9 hSw => ?_⟩) hS ?_
      · obtain ⟨s1, s2⟩ := hSw
        go_simp
      change wpAnyH _ _ _ _ _ _ _ (Act.put _ (some 127) (.int .i64 (nl : Int))) _
      (try simp only [Act.put, List.setIfInBounds_toArray, List.set_cons_zero, List.set_cons_succ])
      refine wpAnyH_ready (rs := [5]) (by kernel_rfl) (by simp) ?_
      refine AllReadyH.cons rfl (fun K hK => ?_) AllReadyH.nil
      go_simp
      refine (len_P (HT2.out.later (bel_step HB.out HY1.out))).mono ?_
      rintro ex y2 ⟨rfl, rfl⟩
      rw [HNL.out]
      refine hK.out _ _ hS (fun _ => ?_)
      clear hK K
      (try simp only [Act.put, List.setIfInBounds_toArray, List.set_cons_zero, List.set_cons_succ])
      refine wpAnyH_take (i := 9) (v := .bool true) rfl (by kernel_rfl) (by kernel_rfl) (by kernel_rfl) (fun _ _ _ h => h) (Or.inl ⟨by kernel_rfl, fun w9 hSw => ?_⟩) hS ?_
      · obtain ⟨s1, s2⟩ := hSw
        go_simp
      change wpAnyH _ _ _ _ _ _ _ (Act.put _ (some 128) (.bool true)) _
      (try simp only [Act.put, List.setIfInBounds_toArray, List.set_cons_zero, List.set_cons_succ])
      refine wpAnyH_take (i := 10) (v := .bool true) rfl (by kernel_rfl) (by kernel_rfl) (by kernel_rfl) (fun _ _ _ h => h) (Or.inl ⟨by kernel_rfl, fun w9 hSw => ?_⟩) hS ?_
      · obtain ⟨s1, s2⟩ := hSw
        go_simp
      change wpAnyH _ _ _ _ _ _ _ (Act.put _ (some 129) (.bool true)) _
      (try simp only [Act.put, List.setIfInBounds_toArray, List.set_cons_zero, List.set_cons_succ])
      refine wpAnyH_take (i := 11) (v := .bool true) rfl (by kernel_rfl) (by kernel_rfl) (by kernel_rfl) (fun _ _ _ h => h) (Or.inl ⟨by kernel_rfl, fun w9 hSw => ?_⟩) hS ?_
      · obtain ⟨s1, s2⟩ := hSw
        go_simp
      change wpAnyH _ _ _ _ _ _ _ (Act.put _ (some 130) (.bool true)) _
      (try simp only [Act.put, List.setIfInBounds_toArray, List.set_cons_zero, List.set_cons_succ])
      refine wpAnyH_ready (rs := [12]) (by kernel_rfl) (by simp) ?_
      refine AllReadyH.cons rfl (fun K hK => ?_) AllReadyH.nil
      go_simp
      refine (lives13_any _).mono ?_
      rintro ex y2 ⟨rfl, hbb⟩
      have HY2 := Lib.hid (bel_step HY1.out hbb)
      have hS2 := (HS4.out.later (bel_step HB.out HY2.out)).cells
      clear hS hbb
      have hS := hS2
      clear hS2
      refine hK.out _ _ hS (fun _ => ?_)
      clear hK K
      (try simp only [Act.put, List.setIfInBounds_toArray, List.set_cons_zero, List.set_cons_succ])
      refine wpAnyH_take (i := 13) (v := .bool true) rfl (by kernel_rfl) (by kernel_rfl) (by kernel_rfl) (fun _ _ _ h => h) (Or.inl ⟨by kernel_rfl, fun w9 hSw => ?_⟩) hS ?_
      · obtain ⟨s1, s2⟩ := hSw
        go_simp
      change wpAnyH _ _ _ _ _ _ _ (Act.put _ (some 132) (.bool true)) _
      (try simp only [Act.put, List.setIfInBounds_toArray, List.set_cons_zero, List.set_cons_succ])
      refine wpAnyH_take (i := 14) (v := .bool true) rfl (by kernel_rfl) (by kernel_rfl) (by kernel_rfl) (fun _ _ _ h => h) (Or.inl ⟨by kernel_rfl, fun w9 hSw => ?_⟩) hS ?_
      · obtain ⟨s1, s2⟩ := hSw
        go_simp
      change wpAnyH _ _ _ _ _ _ _ (Act.put _ (some 4) (.bool true)) _
      (try simp only [Act.put, List.setIfInBounds_toArray, List.set_cons_zero, List.set_cons_succ])
      refine wpAnyH_done (by kernel_rfl) ?_ _
      (try simp only [Act.put, List.setIfInBounds_toArray, List.set_cons_zero, List.set_cons_succ])
      go_wp2_with fail
      go_ret
      exact ⟨rfl, bel_step HB2.out (bel_step HB.out HY2.out)⟩
end Go.Proofs.Ytehmbnloplamaaa
