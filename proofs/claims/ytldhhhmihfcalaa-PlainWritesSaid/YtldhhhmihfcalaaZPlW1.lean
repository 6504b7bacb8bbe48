/- A raster of digits written by the document, over any memory. Condition: the head may be, there are as many pixels as it has, and not too many. -/
import Derived.Test.YtldhhhmihfcalaaZgAE
import Derived.Test.YtldhhhmihfcalaaZgAB
import Derived.Deep.RegionHeld3
namespace Go.Proofs.Ytldhhhmihfcalaa
open Go.RowKit
set_option linter.unusedVariables false

set_option maxRecDepth 100000 in
set_option maxHeartbeats 8000000 in
theorem refWriteP_any (a : Option Addr) (n cap : Nat) (l : List Int) (G : Hd.H) (hf : Hj.Fit G) (hm : Pl.May G) (hn : n ≤ 1000) (hN : G.w * G.h = (n : Int)) (hl : ∀ p ∈ l, Pq.Px.U p) (w : World) (hs : SlK .u64 w a n l) :
    Calls Try.prog 52 #[.slice a n cap, agH G] w fun e w' => e = .returned (Pl.wV G l) ∧ Below w.heap.size w w' := by
  have hmm := hm.m
  have hF := refFormat_any G hm.1
  unfold Hj.fm agH at hF
  have hMY := refPlMay_any G hf
  rw [decide_eq_true hm] at hMY
  unfold agH at hMY
  have HMY := Lib.hid hMY
  have HS := Lib.hid hs
  have HU := Lib.hid hl
  have HL := Lib.hid hs.1
  have HWV : Hid (Pl.wV G l = Pl.wV G l) := Lib.hid rfl
  obtain ⟨V, hV⟩ : ∃ V, Pl.wV G l = V := ⟨_, rfl⟩
  rw [hV]
  have HV := Lib.hid hV
  obtain ⟨C, hC⟩ : ∃ C, Hj.chan G = C := ⟨_, rfl⟩
  rw [hC] at hF
  have HC := Lib.hid hC
  have HF := Lib.hid hF
  have gN : wrap64 (G.w * G.h) = (n : Int) := by rw [hN, IntWalk.wrap64_in] <;> omega
  have gn : ((n : Int) != (n : Int)) = false := by simp
  obtain ⟨gw, hgw⟩ : ∃ gw : Nat, G.w = (gw : Int) := ⟨G.w.toNat, by omega⟩
  have HGW := Lib.hid hgw
  have w1 : ¬ (gw : Int) = 0 := by omega
  have w2 : ((gw : Int) == 0) = false := by simp; omega
  have w3 : ¬ gw = 0 := by omega
  have w4 : (gw == 0) = false := by simp; omega
  have w5 : wrap64 ((gw : Int) - 1) = (gw : Int) - 1 := by rw [IntWalk.wrap64_in] <;> omega
  clear hs hl hV hC hF hf hm hMY hgw
  unfold agH
  go_enter Try.func52, Try.ntmps52
  go_wp2_with fail
  refine (HMY.out _).mono ?_
  rintro e w1 ⟨rfl, hb⟩
  have HB1 := Lib.hid (((Below.refl _ w).alloc (Nat.le_refl _) _).trans (hb.mono (by simp)))
  have HK1 := Lib.hid ((Hb.new w 42 G).later hb)
  have HS1 := Lib.hid (HS.out.below HB1.out)
  clear hb
  obtain ⟨hb0, hh0⟩ : ∃ k, w.heap.size = k := ⟨_, rfl⟩
  rw [hh0] at HK1 ⊢
  have HH0 := Lib.hid hh0
  clear hh0
  obtain ⟨k0, k1, k2, k3⟩ := HK1.out.cells
  go_wp2_with fail
  clear k0 k1 k2 k3
  go_loopw [7, 8] (fun u7 u8 wr => ∃ i : Nat, i ≤ n ∧ u8 = .int .i64 i ∧ u7 = .string (strOfNums (Pl.wAll G l i)) ∧ (∀ j, j < i → Pq.Px.fitsV (l.getD j 0) C G.m = true) ∧ Below w1.heap.size w1 wr) (fun _ u8 _ => n - (intOf u8).toNat)
  case atStart => exact ⟨0, Nat.zero_le _, rfl, rfl, (fun j hj => absurd hj (Nat.not_lt_zero _)), .refl _ _⟩
  case round =>
    obtain ⟨i, hi, rfl, rfl, hfit, hB⟩ := hrel
    have HB := Lib.hid hB
    have HFIT := Lib.hid hfit
    obtain ⟨k0, k1, k2, k3⟩ := (HK1.out.later hB).cells
    have HBt := Lib.hid (HB1.out.trans (hB.mono HB1.out.size))
    clear hB hfit
    by_cases hlt : i < n
    · obtain ⟨p, hp⟩ : ∃ p, l.getD i 0 = p := ⟨_, rfl⟩
      have hil : i < l.length := by rw [HL.out]; exact hlt
      have hU : Pq.Px.U p := by rw [← hp]; exact HU.out _ (getD_mem hil)
      have HZ := Lib.hid (Pl.wAll_succ G l i)
      have hAL := Pl.wAll_len (G := G) HU.out i (by omega)
      have hsi := Pl.smp_in hU
      have HI := Lib.hid (Pl.smp_I hU)
      have HUP := Lib.hid (fun W => Pq.refUnpack_any p hU W)
      obtain ⟨F, hF⟩ : ∃ F, Pq.Px.fitsV p C G.m = F := ⟨_, rfl⟩
      have HFT : Hid (∀ W, Calls Try.prog 92 #[.int .u64 p, .agg #[.int .i64 C, .int .i64 G.m]] W fun e w' => e = .returned (.bool F) ∧ Below W.heap.size W w') := Lib.hid fun W => by rw [← hF]; exact Pq.refFits_any p C G.m hU W
      obtain ⟨zs, hzs⟩ : ∃ zs, Pq.Px.smp p = zs := ⟨_, rfl⟩
      obtain ⟨A, hA⟩ : ∃ A, Pl.wAll G l i = A := ⟨_, rfl⟩
      rw [hp, hzs, hA] at HZ
      rw [hzs] at HI HUP hsi
      rw [hA] at hAL ⊢
      obtain ⟨m, hm⟩ : ∃ m, zs.length = m := ⟨_, rfl⟩
      have HML := Lib.hid hm
      have hm3 : m ≤ 3 := by have := hsi.1; omega
      have HFF := Lib.hid (show Pq.Px.fitsV (l.getD i 0) C G.m = F by rw [hp]; exact hF)
      obtain ⟨blk, off, ha, c0⟩ : ∃ blk off, a = some ⟨blk, off, none⟩ ∧ wr.cell? ⟨blk, off + i, none⟩ = some (.int .u64 p) := by
        rcases HS.out.2 with h | ⟨blk, off, rfl, hc⟩
        · omega
        · exact ⟨blk, off, rfl, cell_later HBt.out (by rw [hc i hlt, hp])⟩
      subst ha
      have hBt := Below.refl wr.heap.size wr
      have HAL := Lib.hid hAL
      have HIL := Lib.hid hil
      have HWR := Lib.hid (show i < n from hlt)
      clear hp hU hsi hzs hA hm hil hF hAL
      go_wp2_with fail
      go_cut [9] (fun s9 wx => s9 = .bool F ∧ Below wr.heap.size wr wx)
      case first =>
        go_region_held3 (fun w' => w'.cell? ⟨hb0, 0, none⟩ = some (.int .i64 G.kd) ∧ w'.cell? ⟨hb0, 1, none⟩ = some (.int .i64 G.w) ∧ w'.cell? ⟨hb0, 2, none⟩ = some (.int .i64 G.h) ∧ w'.cell? ⟨hb0, 3, none⟩ = some (.int .i64 G.m) ∧ w'.cell? ⟨blk, off + i, none⟩ = some (.int .u64 p))
          (first | exact ⟨k0, k1, k2, k3, c0⟩ | exact ⟨cell_later (by repeat' (first | (with_reducible exact hBt) | (with_reducible refine Below.alloc ?_ ?_ _) | (with_reducible refine Below.drew ?_) | (with_reducible refine below_drewN ?_ _) | (with_reducible refine Below.setCell ?_ ?_ _) | exact hBt.size | (have := hBt.size; first | omega | (simp; done) | (simp; omega)))) k0, cell_later (by repeat' (first | (with_reducible exact hBt) | (with_reducible refine Below.alloc ?_ ?_ _) | (with_reducible refine Below.drew ?_) | (with_reducible refine below_drewN ?_ _) | (with_reducible refine Below.setCell ?_ ?_ _) | exact hBt.size | (have := hBt.size; first | omega | (simp; done) | (simp; omega)))) k1, cell_later (by repeat' (first | (with_reducible exact hBt) | (with_reducible refine Below.alloc ?_ ?_ _) | (with_reducible refine Below.drew ?_) | (with_reducible refine below_drewN ?_ _) | (with_reducible refine Below.setCell ?_ ?_ _) | exact hBt.size | (have := hBt.size; first | omega | (simp; done) | (simp; omega)))) k2, cell_later (by repeat' (first | (with_reducible exact hBt) | (with_reducible refine Below.alloc ?_ ?_ _) | (with_reducible refine Below.drew ?_) | (with_reducible refine below_drewN ?_ _) | (with_reducible refine Below.setCell ?_ ?_ _) | exact hBt.size | (have := hBt.size; first | omega | (simp; done) | (simp; omega)))) k3, cell_later (by repeat' (first | (with_reducible exact hBt) | (with_reducible refine Below.alloc ?_ ?_ _) | (with_reducible refine Below.drew ?_) | (with_reducible refine below_drewN ?_ _) | (with_reducible refine Below.setCell ?_ ?_ _) | exact hBt.size | (have := hBt.size; first | omega | (simp; done) | (simp; omega)))) c0⟩)
          (first
            | (go_at_call 84; refine (HF.out _).mono ?_; rintro e w9 ⟨rfl, hb9⟩; replace hBt := bel_step (w := wr) (by repeat' (first | (with_reducible exact hBt) | (with_reducible refine Below.alloc ?_ ?_ _) | (with_reducible refine Below.drew ?_) | (with_reducible refine below_drewN ?_ _) | (with_reducible refine Below.setCell ?_ ?_ _) | exact hBt.size | (have := hBt.size; first | omega | (simp; done) | (simp; omega)))) hb9; have hsz9 := hBt.size)
            | (go_at_call 92; refine (HFT.out _).mono ?_; rintro e w9 ⟨rfl, hb9⟩; replace hBt := bel_step (w := wr) (by repeat' (first | (with_reducible exact hBt) | (with_reducible refine Below.alloc ?_ ?_ _) | (with_reducible refine Below.drew ?_) | (with_reducible refine below_drewN ?_ _) | (with_reducible refine Below.setCell ?_ ?_ _) | exact hBt.size | (have := hBt.size; first | omega | (simp; done) | (simp; omega)))) hb9; have hsz9 := hBt.size))
        all_goals
          go_wp2_with fail
          go_meet
          case rel => exact ⟨rfl, hBt⟩
      case rest =>
        obtain ⟨rfl, hbx⟩ := hcut
        have HBX := Lib.hid hbx
        replace k0 := cell_later hbx k0; replace k1 := cell_later hbx k1; replace k2 := cell_later hbx k2; replace k3 := cell_later hbx k3; replace c0 := cell_later hbx c0
        clear hbx hBt HF HFT HMY
        cases F with
        | false =>
          have HVV : Hid (V = .tuple #[.string ⟨#[]⟩, .int .i64 1]) := by
            refine Lib.hid ?_
            rw [← HV.out]; unfold Pl.wV
            rw [Pl.fitAll_no HIL.out (by rw [HC.out]; exact HFF.out)]; rfl
          go_wp2_with fail
          go_ret2
          rw [HVV.out]
          exact ⟨rfl, HBt.out.trans (HBX.out.mono HBt.out.size)⟩
        | true =>
          go_wp2_with fail
          refine (HUP.out _).mono ?_
          rintro e w2 ⟨ad, cp, rfl, hO, hb2⟩
          rw [HML.out]
          have HO := Lib.hid hO.sl
          have HB2 := Lib.hid hb2
          replace k0 := cell_later hb2 k0; replace k1 := cell_later hb2 k1; replace k2 := cell_later hb2 k2; replace k3 := cell_later hb2 k3
          have K0 := Lib.hid k0; have K1 := Lib.hid k1; have K2 := Lib.hid k2; have K3 := Lib.hid k3
          have HWL : Hid (A.length ≤ 202000) := Lib.hid (by have := HAL.out; omega)
          clear hO hb2 c0 k0 k1 k2 k3
          go_wp2_with fail
          go_loopw [7, 11] (fun u7 u11 wi => ∃ j : Nat, j ≤ m ∧ u11 = .int .i64 j ∧ u7 = .string (strOfNums (A ++ Pl.wTk zs j)) ∧ Below w2.heap.size w2 wi) (fun _ u11 _ => m - (intOf u11).toNat)
          case atStart => exact ⟨0, Nat.zero_le _, rfl, by simp [Pl.wTk], .refl _ _⟩
          case round =>
            obtain ⟨j, hj, rfl, rfl, hC⟩ := hrel
            have HCB := Lib.hid hC
            clear hC
            by_cases hjt : j < m
            · obtain ⟨z, hz⟩ : ∃ z, zs.getD j 0 = z := ⟨_, rfl⟩
              have hjl : j < zs.length := by rw [HML.out]; exact hjt
              have hzI : Nu.I z := by rw [← hz]; exact HI.out _ (getD_mem hjl)
              have HY := Lib.hid (Pl.wTk_succ zs j)
              rw [hz, HML.out] at HY
              have HDC := Lib.hid (fun W => refDecimal_any z hzI W)
              have hTL := Pl.wTk_len HI.out j (by omega)
              have hDL := Nu.decV_len hzI
              obtain ⟨T, hT⟩ : ∃ T, strOfNums (A ++ Pl.wTk zs j) = T := ⟨_, rfl⟩
              obtain ⟨D, hD⟩ : ∃ D, strOfNums (Nu.decV z) = D := ⟨_, rfl⟩
              have hTs : T.size ≤ 203000 := by rw [← hT, strOfNums_size, List.length_append]; have := HWL.out; omega
              have hDs : D.size ≤ 66 := by rw [← hD, strOfNums_size]; exact hDL
              have L1 : ¬ 9223372036854775807 < T.size + D.size := by omega
              have L2 : ¬ 9223372036854775807 < T.size + D.size + 1 := by omega
              rw [hD] at HDC
              rw [hT]
              have HT := Lib.hid hT; have HD := Lib.hid hD
              obtain ⟨b2, o2, rfl, hcell⟩ : ∃ blk off, ad = some ⟨blk, off, none⟩ ∧ wr.cell? ⟨blk, off + j, none⟩ = some (.int .i64 z) := by
                rcases HO.out.2 with h | ⟨blk, off, rfl, hc⟩
                · rw [HML.out] at h; omega
                · exact ⟨blk, off, rfl, cell_later HCB.out (by rw [hc j (by rw [HML.out]; exact hjt), hz])⟩
              have g1 : wrap64 ((m : Int) - 1) = (m : Int) - 1 := by rw [IntWalk.wrap64_in] <;> omega
              clear hz hjl hzI hTL hDL hT hD
              by_cases hj1 : j + 1 < m
              · have hj2 : (j : Int) < (m : Int) - 1 := by omega
                have HYY : Hid (T ++ D ++ ⟨#[32]⟩ = strOfNums (A ++ Pl.wTk zs (j + 1))) := Lib.hid (by rw [HY.out, if_pos hj1, ← HT.out, ← HD.out, Pl.str32]; simp only [strOfNums_append, List.append_assoc, ByteArray.append_assoc])
                go_wp2_with (go_at_call 33; refine (HDC.out _).mono ?_; rintro e w3 ⟨rfl, hb3⟩; have HB3 := Lib.hid hb3; clear hb3)
                go_roundw
                case rel => exact ⟨j + 1, by omega, by go_num, by rw [← HYY.out], HCB.out.trans (HB3.out.mono HCB.out.size)⟩
                case measure => simp [intOf]; omega
              · have hj2 : ¬ (j : Int) < (m : Int) - 1 := by omega
                have HYY : Hid (T ++ D = strOfNums (A ++ Pl.wTk zs (j + 1))) := Lib.hid (by rw [HY.out, if_neg hj1, ← HT.out, ← HD.out]; simp only [strOfNums_append, List.append_nil, ByteArray.append_assoc])
                go_wp2_with (go_at_call 33; refine (HDC.out _).mono ?_; rintro e w3 ⟨rfl, hb3⟩; have HB3 := Lib.hid hb3; clear hb3)
                go_roundw
                case rel => exact ⟨j + 1, by omega, by go_num, by rw [← HYY.out], HCB.out.trans (HB3.out.mono HCB.out.size)⟩
                case measure => simp [intOf]; omega
            · have hje : j = m := by omega
              subst hje
              obtain ⟨k0, k1, k2, k3⟩ : _ ∧ _ ∧ _ ∧ _ := ⟨cell_later HCB.out K0.out, cell_later HCB.out K1.out, cell_later HCB.out K2.out, cell_later HCB.out K3.out⟩
              rw [HGW.out] at k1
              have hTL := Pl.wTk_len HI.out j (by rw [HML.out]; omega)
              have HY := HZ.out
              rw [HML.out] at HY
              obtain ⟨T, hT⟩ : ∃ T, strOfNums (A ++ Pl.wTk zs j) = T := ⟨_, rfl⟩
              have hTs : T.size ≤ 203000 := by rw [← hT, strOfNums_size, List.length_append]; have := HWL.out; omega
              have L1 : ¬ 9223372036854775807 < T.size + 1 := by omega
              rw [hT]
              have HT := Lib.hid hT
              have HYS := Lib.hid HY
              have hw1 : Pl.wLn G i = Pl.wLn G i := rfl
              clear hT hTL HY hw1
              have FITN : Hid (∀ j, j < i + 1 → Pq.Px.fitsV (l.getD j 0) C G.m = true) := Lib.hid fun j hj => by
                by_cases he : j = i
                · rw [he]; exact HFF.out
                · exact HFIT.out j (by omega)
              have BN := Lib.hid (HBX.out.trans ((HB2.out.trans (HCB.out.mono HB2.out.size)).mono HBX.out.size))
              go_wp2_with fail
              all_goals
                go_roundw
                case rel =>
                  first
                    | exact ⟨i + 1, by omega, by go_num, by rw [HYS.out, Pl.ln_yes1 (by assumption), if_pos rfl, ← HT.out, Pl.str10, ← strOfNums_append], FITN.out, HB.out.trans (BN.out.mono HB.out.size)⟩
                    | exact ⟨i + 1, by omega, by go_num, by rw [HYS.out, Pl.ln_yes2 HGW.out (by assumption), if_pos rfl, ← HT.out, Pl.str10, ← strOfNums_append], FITN.out, HB.out.trans (BN.out.mono HB.out.size)⟩
                    | exact ⟨i + 1, by omega, by go_num, by rw [HYS.out, Pl.ln_yes3 HGW.out (by assumption), if_pos rfl, ← HT.out, Pl.str10, ← strOfNums_append], FITN.out, HB.out.trans (BN.out.mono HB.out.size)⟩
                    | exact ⟨i + 1, by omega, by go_num, by rw [HYS.out, Pl.ln_no HGW.out (by assumption), ← HT.out]; simp, FITN.out, HB.out.trans (BN.out.mono HB.out.size)⟩
                case measure => simp [intOf]; omega
    · have hin : i = n := by omega
      subst hin
      have HVV : Hid (V = .tuple #[.string (strOfNums (Pl.wAll G l i)), .int .i64 0]) := by
        refine Lib.hid ?_
        rw [← HV.out]; unfold Pl.wV
        rw [Pl.fitAll_yes (fun j hj => by rw [HC.out]; exact HFIT.out j (by rw [HL.out] at hj; exact hj)), if_pos rfl, HL.out]
      go_wp2_with fail
      go_ret2
      rw [HVV.out]
      exact ⟨rfl, HBt.out⟩
end Go.Proofs.Ytldhhhmihfcalaa
