/- RawReads: all pixels of a raster, or the error, are the document's: the walk of the law. No condition. -/
import Derived.Test.YtflpocnbmpdhiaaZRwL
namespace Go.Proofs.Ytflpocnbmpdhiaa
open Go.RowKit
set_option linter.unusedVariables false

set_option maxRecDepth 100000 in
set_option maxHeartbeats 8000000 in
theorem rawReads_walk (a0 : Option Addr) (len0 cap0 : Nat) (z0 : List Int) (a1k0 a1w1 a1h2 a1m3 : Int) (w : World) (w0 : IsRow .u8 w a0 len0 cap0 z0) (w10 : (Lit.int .i64 a1k0).wf = true) (w11 : (Lit.int .i64 a1w1).wf = true) (w12 : (Lit.int .i64 a1h2).wf = true) (w13 : (Lit.int .i64 a1m3).wf = true) :
    Calls Try.prog 5 #[.slice a0 len0 cap0, .agg #[.int .i64 a1k0, .int .i64 a1w1, .int .i64 a1h2, .int .i64 a1m3]] w fun e w' => e = .returned (.bool true) ∧ Below w.heap.size w w' := by
  have HF : Hj.Fit ⟨a1k0, a1w1, a1h2, a1m3⟩ := ⟨wfI w10, wfI w11, wfI w12, wfI w13⟩
  have hG := refRwHead_any 5 (by decide) (by decide) _ HF
  have hM := (Rw.headV_in 5 (by decide) (by decide) ⟨a1k0, a1w1, a1h2, a1m3⟩).1
  generalize Rw.headV 5 ⟨a1k0, a1w1, a1h2, a1m3⟩ = G at hG hM
  have HFG := Rw.may_fit hM
  unfold agH at hG
  have HG := Lib.hid hG
  clear hG w10 w11 w12 w13 hM
  obtain ⟨l1, l2, l3, l4⟩ := isrow_len w0
  obtain ⟨m, hmm⟩ : ∃ m, ((len0 ≤ 100 ∧ m = len0) ∨ (100 < len0 ∧ m = 100)) := ⟨min len0 100, by omega⟩
  have hm1 : m ≤ len0 := by omega
  have hm100 : m ≤ 100 := by omega
  have kd : min (len0 : Int) 100 = (m : Int) := by omega
  have HS := Lib.hid (Rw.bs_in w0 m hm1)
  generalize z0.take m = bs at HS
  have hr := fun h hf W hb => (rwRead_any a0 m cap0 bs (by omega) h hf W (HS.out.below hb)).mono fun e w' h => rwdv h
  have hq := fun h hf W hb => (refRead_any a0 m cap0 bs (by omega) h hf W (HS.out.below hb)).mono fun e w' h => rwdv h
  simp only [← Rw.readV_same] at hq
  unfold agH at hr hq
  have hr0 := hr _ HF
  have hq0 := hq _ HF
  have hr1 := hr _ HFG
  have hq1 := hq _ HFG
  have hl0 := Rw.readV_len ⟨a1k0, a1w1, a1h2, a1m3⟩ bs HS.out.2.2.2
  have hl1 := Rw.readV_len G bs HS.out.2.2.2
  rw [HS.out.1.1] at hl0 hl1
  generalize Rw.readV ⟨a1k0, a1w1, a1h2, a1m3⟩ bs = V0 at hr0 hq0 hl0
  generalize Rw.readV G bs = V1 at hr1 hq1 hl1
  obtain ⟨L0, e0⟩ := V0
  obtain ⟨L1, e1⟩ := V1
  simp only at hr0 hq0 hr1 hq1 hl0 hl1
  obtain ⟨l0, hl0'⟩ : ∃ l, L0.length = l := ⟨_, rfl⟩
  obtain ⟨l1', hl1'⟩ : ∃ l, L1.length = l := ⟨_, rfl⟩
  rw [hl0'] at hr0 hq0 hl0
  rw [hl1'] at hr1 hq1 hl1
  have HR0 := Lib.hid hr0
  have HQ0 := Lib.hid hq0
  have HR1 := Lib.hid hr1
  have HQ1 := Lib.hid hq1
  have HL0 : Hid (l0 ≤ 409600) := Lib.hid (by omega)
  have HL1 : Hid (l1' ≤ 409600) := Lib.hid (by omega)
  have hmc : (m : Int) ≤ (cap0 : Int) := by omega
  have hm0 : (0 : Int) ≤ (m : Int) := by omega
  clear hr hq hr0 hq0 hr1 hq1 hl0 hl1 hl0' hl1' HF HFG w0
  go_enter Try.func5, Try.ntmps5
  go_upto_region 1 with fail
  generalize hW : w.alloc (.cells #[.int .i64 a1k0, .int .i64 a1w1, .int .i64 a1h2, .int .i64 a1m3] 25) = W1
  have HK1 : Hid (Hb W1 w.heap.size 25 ⟨a1k0, a1w1, a1h2, a1m3⟩) := by show Hb _ _ _ _; rw [← hW]; exact Hb.new w 25 ⟨a1k0, a1w1, a1h2, a1m3⟩
  have HB1 : Hid (Below w.heap.size w W1) := by show Below _ _ _; rw [← hW]; exact box1' _ _
  clear hW
  go_cut [0] from 11 to 15 (fun s0 wx => s0 = .slice a0 m cap0 ∧ wx = W1)
  case first =>
    go_wp2_with fail
    all_goals
      go_meet
      case rel => exact ⟨by show Value.slice a0 _ cap0 = Value.slice a0 m cap0; congr 1; omega, rfl⟩
  case rest =>
   obtain ⟨rfl, rfl⟩ := hcut
   go_upto_region 2 with fail
   have hBt : Below wc.heap.size wc wc := .refl _ _
   obtain ⟨n0, n1, n2, n3⟩ := HK1.out.cells
   simp only at n0 n1 n2 n3
   go_cut [5] from 16 to 19 (fun s5 wx => ∃ g, s5 = .slice (some ⟨g, 0, none⟩) 2 2 ∧ Ha wx g ⟨a1k0, a1w1, a1h2, a1m3⟩ G ∧ Below wc.heap.size wc wx)
   case first =>
     go_region_held3 (fun w' => w'.cell? ⟨w.heap.size, 0, none⟩ = some (.int .i64 a1k0) ∧ w'.cell? ⟨w.heap.size, 1, none⟩ = some (.int .i64 a1w1) ∧ w'.cell? ⟨w.heap.size, 2, none⟩ = some (.int .i64 a1h2) ∧ w'.cell? ⟨w.heap.size, 3, none⟩ = some (.int .i64 a1m3))
       (first | (with_reducible exact ⟨n0, n1, n2, n3⟩) | exact Hb.cells (Hb.later HK1.out (by repeat' (first | (with_reducible exact hBt) | (with_reducible refine Below.alloc ?_ ?_ _) | (with_reducible refine Below.drew ?_) | (with_reducible refine below_drewN ?_ _) | exact hBt.size | (have := hBt.size; first | omega | (simp; done) | (simp; omega))))))
       (first | (go_at_call 24; refine (HG.out _).mono ?_; rintro e w9 ⟨rfl, hb9⟩; replace hBt := bel_step (w := wc) (by repeat' (first | (with_reducible exact hBt) | (with_reducible refine Below.alloc ?_ ?_ _) | (with_reducible refine Below.drew ?_) | (with_reducible refine below_drewN ?_ _) | exact hBt.size | (have := hBt.size; first | omega | (simp; done) | (simp; omega)))) hb9))
     all_goals
       go_wp2_with fail
       go_meet
       case rel => exact ⟨_, rfl, World.alloc_heap_new _ _, (by repeat' (first | (with_reducible exact hBt) | (with_reducible refine Below.alloc ?_ ?_ _) | (with_reducible refine Below.drew ?_) | (with_reducible refine below_drewN ?_ _) | exact hBt.size | (have := hBt.size; first | omega | (simp; done) | (simp; omega))))⟩
   case rest =>
     obtain ⟨g, rfl, hHA, hB2⟩ := hcut
     have HA2 := Lib.hid hHA
     have HB2 := Lib.hid (HB1.out.trans (hB2.mono HB1.out.size))
     clear hHA hB2 hBt n0 n1 n2 n3
     go_wp2_with fail
     refine wp_loop_rounds 3 ?_
     rw [rounds_succ]
     obtain ⟨k0, k1, k2, k3, k4, k5, k6, k7⟩ := HA2.out.cells
     simp only at k0 k1 k2 k3 k4 k5 k6 k7
     go_wp2_with fail
     refine (HR0.out _ HB2.out).mono ?_
     rintro e w3 ⟨a3, c3, rfl, hS, hb⟩
     have HA3 := Lib.hid (HA2.out.later hb)
     have HB3 := Lib.hid (HB2.out.trans (hb.mono HB2.out.size))
     have HS3 := Lib.hid hS
     clear hS hb k0 k1 k2 k3 k4 k5 k6 k7
     obtain ⟨k0, k1, k2, k3, k4, k5, k6, k7⟩ := HA3.out.cells
     simp only at k0 k1 k2 k3 k4 k5 k6 k7
     go_wp2_with fail
     refine (HQ0.out _ HB3.out).mono ?_
     rintro e w4 ⟨a4, c4, rfl, hS, hb⟩
     have HA4 := Lib.hid (HA3.out.later hb)
     have HB4 := Lib.hid (HB3.out.trans (hb.mono HB3.out.size))
     have HS4 := Lib.hid (HS3.out.below hb)
     have HT4 := Lib.hid hS
     clear hS hb k0 k1 k2 k3 k4 k5 k6 k7
     go_wp2_with fail
     refine (same_yes a3 a4 l0 c3 c4 _ _ (by have := HL0.out; omega) HS4.out HT4.out).mono ?_
     rintro e w5 ⟨rfl, hb⟩
     have HA5 := Lib.hid (HA4.out.later hb)
     have HB5 := Lib.hid (HB4.out.trans (hb.mono HB4.out.size))
     clear hb
     go_wp2_with fail
     rw [rounds_succ]
     obtain ⟨k0, k1, k2, k3, k4, k5, k6, k7⟩ := HA5.out.cells
     simp only at k0 k1 k2 k3 k4 k5 k6 k7
     go_wp2_with fail
     refine (HR1.out _ HB5.out).mono ?_
     rintro e w6 ⟨a6, c6, rfl, hS, hb⟩
     have HA6 := Lib.hid (HA5.out.later hb)
     have HB6 := Lib.hid (HB5.out.trans (hb.mono HB5.out.size))
     have HS6 := Lib.hid hS
     clear hS hb k0 k1 k2 k3 k4 k5 k6 k7
     obtain ⟨k0, k1, k2, k3, k4, k5, k6, k7⟩ := HA6.out.cells
     simp only at k0 k1 k2 k3 k4 k5 k6 k7
     go_wp2_with fail
     refine (HQ1.out _ HB6.out).mono ?_
     rintro e w7 ⟨a7, c7, rfl, hS, hb⟩
     have HA7 := Lib.hid (HA6.out.later hb)
     have HB7 := Lib.hid (HB6.out.trans (hb.mono HB6.out.size))
     have HS7 := Lib.hid (HS6.out.below hb)
     have HT7 := Lib.hid hS
     clear hS hb k0 k1 k2 k3 k4 k5 k6 k7
     go_wp2_with fail
     refine (same_yes a6 a7 l1' c6 c7 _ _ (by have := HL1.out; omega) HS7.out HT7.out).mono ?_
     rintro e w8 ⟨rfl, hb⟩
     have HA8 := Lib.hid (HA7.out.later hb)
     have HB8 := Lib.hid (HB7.out.trans (hb.mono HB7.out.size))
     clear hb
     go_wp2_with fail
     rw [rounds_succ]
     go_wp2_with fail
     refine (lives9_any _).mono ?_
     rintro e w9 ⟨rfl, hb⟩
     have HB9 := Lib.hid (HB8.out.trans (hb.mono HB8.out.size))
     clear hb
     go_wp2
     go_ret
     exact ⟨rfl, HB9.out⟩
end Go.Proofs.Ytflpocnbmpdhiaa
