/- RectParts: a number, a part, and whether another one is there, is the document's: the walk of the law. No condition. -/
import Derived.Test.YtfgfpnflabmaeaaRecQ
import Derived.Test.YtfgfpnflabmaeaaRecO
import Derived.Test.YtfgfpnflabmaeaaRecT
namespace Go.Proofs.Ytfgfpnflabmaeaa
open Go.RowKit
set_option linter.unusedVariables false

set_option maxRecDepth 100000 in
set_option maxHeartbeats 8000000 in
theorem rectParts_walk (a0w0 a0h1 : Int) (a0 : Option Addr) (len0 cap0 : Nat) (z0 : List Int) (a1w0 a1h1 : Int) (a1 : Option Addr) (len1 cap1 : Nat) (z1 : List Int) (a2e0 a2e1 a2e2 a2e3 : Int) (w : World) (w00 : (Lit.int .i64 a0w0).wf = true) (w01 : (Lit.int .i64 a0h1).wf = true) (w02 : IsRow .u64 w a0 len0 cap0 z0) (w10 : (Lit.int .i64 a1w0).wf = true) (w11 : (Lit.int .i64 a1h1).wf = true) (w12 : IsRow .u64 w a1 len1 cap1 z1) (w20 : (Lit.int .i64 a2e0).wf = true) (w21 : (Lit.int .i64 a2e1).wf = true) (w22 : (Lit.int .i64 a2e2).wf = true) (w23 : (Lit.int .i64 a2e3).wf = true) :
    Calls Try.prog 5 #[.agg #[.int .i64 a0w0, .int .i64 a0h1, .slice a0 len0 cap0], .agg #[.int .i64 a1w0, .int .i64 a1h1, .slice a1 len1 cap1], .agg #[.int .i64 a2e0, .int .i64 a2e1, .int .i64 a2e2, .int .i64 a2e3]] w fun e w' => e = .returned (.bool true) ∧ Below w.heap.size w w' := by
  obtain ⟨l1, l2, l3, l4⟩ := isrow_len w02
  obtain ⟨m1, m2, m3, m4⟩ := isrow_len w12
  have hG := Lib.hid (fun W2 h => good_any a0w0 a0h1 7 a0 len0 cap0 (z0.take len0) (i64_of w00) (i64_of w01) (by omega) (by omega) l1 W2 h (px_take w02 len0))
  have hO := Lib.hid (fun W2 h => good_any a1w0 a1h1 3 a1 len1 cap1 (z1.take len1) (i64_of w10) (i64_of w11) (by omega) (by omega) m1 W2 h (px_take w12 len1))
  have HSL := Lib.hid (row_slk w02)
  have HSL1 := Lib.hid (row_slk w12)
  have HOK := Lib.hid (good_ok a0w0 a0h1 7 (z0.take len0) (by omega) (by omega))
  have HOO := Lib.hid (good_ok a1w0 a1h1 3 (z1.take len1) (by omega) (by omega))
  obtain ⟨gw1, gw2⟩ := goodW_in a0w0 7 (by omega)
  obtain ⟨gh1, gh2⟩ := goodW_in a0h1 7 (by omega)
  obtain ⟨ow1, ow2⟩ := goodW_in a1w0 3 (by omega)
  obtain ⟨oh1, oh2⟩ := goodW_in a1h1 3 (by omega)
  generalize goodW a0w0 7 = GW at hG HOK gw1 gw2
  generalize goodW a0h1 7 = GH at hG HOK gh1 gh2
  generalize goodM a0w0 a0h1 7 (z0.take len0) = G at hG HOK
  generalize goodW a1w0 3 = OW at hO HOO ow1 ow2
  generalize goodW a1h1 3 = OH at hO HOO oh1 oh2
  generalize goodM a1w0 a1h1 3 (z1.take len1) = O at hO HOO
  obtain ⟨n, hn⟩ : ∃ n, G.length = n := ⟨_, rfl⟩
  obtain ⟨no, hno⟩ : ∃ n, O.length = n := ⟨_, rfl⟩
  have hn2 : n ≤ 16777216 := by rw [← hn]; exact ok_len HOK.out
  have hno2 : no ≤ 16777216 := by rw [← hno]; exact ok_len HOO.out
  have A0 := Lib.hid (fun W2 => around_i (i64_of w20) (m := 9) (by omega) (by omega) W2)
  obtain ⟨x0, y0⟩ := Ar.around_lt a2e0 9 (by omega)
  generalize Ar.around a2e0 9 = r0 at A0 x0 y0
  have c0 : IntKind.i64.wrap (r0 - 1) = r0 - 1 := by rw [IntWalk.i64_in] <;> omega
  have A1 := Lib.hid (fun W2 => around_i (i64_of w21) (m := 9) (by omega) (by omega) W2)
  obtain ⟨x1, y1⟩ := Ar.around_lt a2e1 9 (by omega)
  generalize Ar.around a2e1 9 = r1 at A1 x1 y1
  have c1 : IntKind.i64.wrap (r1 - 1) = r1 - 1 := by rw [IntWalk.i64_in] <;> omega
  have A2 := Lib.hid (fun W2 => around_i (i64_of w22) (m := 9) (by omega) (by omega) W2)
  obtain ⟨x2, y2⟩ := Ar.around_lt a2e2 9 (by omega)
  generalize Ar.around a2e2 9 = r2 at A2 x2 y2
  have c2 : IntKind.i64.wrap (r2 - 1) = r2 - 1 := by rw [IntWalk.i64_in] <;> omega
  have A3 := Lib.hid (fun W2 => around_i (i64_of w23) (m := 9) (by omega) (by omega) W2)
  obtain ⟨x3, y3⟩ := Ar.around_lt a2e3 9 (by omega)
  generalize Ar.around a2e3 9 = r3 at A3 x3 y3
  have c3 : IntKind.i64.wrap (r3 - 1) = r3 - 1 := by rw [IntWalk.i64_in] <;> omega
  rw [hn] at hG
  rw [hno] at hO
  have HN := Lib.hid hn
  have HNO := Lib.hid hno
  obtain ⟨t1, t2, t3, t4⟩ := start4 w (.int .i64 a0w0) (.int .i64 a0h1) (.slice a0 len0 cap0) (.int .i64 a1w0) (.int .i64 a1h1) (.slice a1 len1 cap1) 25 25 50 a2e0 a2e1 a2e2 a2e3
  have T2 := Lib.hid t2
  have T3 := Lib.hid t3
  have B := t4
  clear t1 t2 t3 t4 w00 w01 w02 w10 w11 w12 w20 w21 w22 w23 hn hno
  go_enter Try.func5, Try.ntmps5
  go_upto_region 3 with (go_at_call 12; first
    | ((with_reducible refine (hG.out _ (HSL.out.below B)).mono ?_); rintro e w1 ⟨ga, gc, rfl, ho, hc1, hc2, hb⟩; replace B := bel_step (bel_step B hb) (box1 w1 (.cells #[.int .i64 GW, .int .i64 GH, .slice ga n gc] 25)); have HGO := Lib.hid (ho.later (box1 w1 (.cells #[.int .i64 GW, .int .i64 GH, .slice ga n gc] 25))); have HGB := Lib.hid (Sb.new w1 25 (.int .i64 GW) (.int .i64 GH) (.slice ga n gc)); have U2 := Lib.hid ((T2.out.later hb).later (box1 w1 (.cells #[.int .i64 GW, .int .i64 GH, .slice ga n gc] 25))); have U3 := Lib.hid ((T3.out.later hb).later (box1 w1 (.cells #[.int .i64 GW, .int .i64 GH, .slice ga n gc] 25))); obtain ⟨d0, d1, d2⟩ := U2.out.cells; clear hb ho)
    | ((with_reducible refine (hO.out _ (HSL1.out.below B)).mono ?_); rintro e w2 ⟨oa, oc, rfl, ho, hd1, hd2, hb⟩; replace B := bel_step (bel_step B hb) (box1 w2 (.cells #[.int .i64 OW, .int .i64 OH, .slice oa no oc] 25)); have HOO2 := Lib.hid (ho.later (box1 w2 (.cells #[.int .i64 OW, .int .i64 OH, .slice oa no oc] 25))); have HOB := Lib.hid (Sb.new w2 25 (.int .i64 OW) (.int .i64 OH) (.slice oa no oc)); have HGO2 := Lib.hid ((HGO.out.later hb).later (box1 w2 (.cells #[.int .i64 OW, .int .i64 OH, .slice oa no oc] 25))); have HGB2 := Lib.hid ((HGB.out.later hb).later (box1 w2 (.cells #[.int .i64 OW, .int .i64 OH, .slice oa no oc] 25))); have U4 := Lib.hid ((U3.out.later hb).later (box1 w2 (.cells #[.int .i64 OW, .int .i64 OH, .slice oa no oc] 25))); clear hb ho))
  obtain ⟨W1, hW1⟩ : ∃ W1, w2.alloc (.cells #[.int .i64 OW, .int .i64 OH, .slice oa no oc] 25) = W1 := ⟨_, rfl⟩
  rw [hW1] at B HOO2 HOB HGO2 HGB2 U4 ⊢
  have VB := Lib.hid B
  have V5 := Lib.hid (show SlK .u64 W1 ga n G by have := HGO2.out.sl; rwa [HN.out] at this)
  have V6 := Lib.hid (show SlK .u64 W1 oa no O by have := HOO2.out.sl; rwa [HNO.out] at this)
  clear hW1 B d0 d1 d2 HGO HGO2 HGB HOO2 U2 U3 T2 T3 hG hO HSL HSL1
  obtain ⟨p0, p1, p2, p3⟩ := U4.out.cells
  have hBt := Below.refl W1.heap.size W1
  go_cut [9] (fun s9 wx => ∃ nb, s9 = .pointer (some ⟨nb, 0, none⟩) ∧ P4 wx nb 50 (r0 - 1) (r1 - 1) (r2 - 1) (r3 - 1) ∧ Below W1.heap.size W1 wx)
  case first =>
    go_region_held3 (fun w' => w'.cell? ⟨w.heap.size + 1 + 1, 0, none⟩ = some (.int .i64 a2e0) ∧ w'.cell? ⟨w.heap.size + 1 + 1, 1, none⟩ = some (.int .i64 a2e1) ∧ w'.cell? ⟨w.heap.size + 1 + 1, 2, none⟩ = some (.int .i64 a2e2) ∧ w'.cell? ⟨w.heap.size + 1 + 1, 3, none⟩ = some (.int .i64 a2e3))
      (first | exact ⟨p0, p1, p2, p3⟩ | exact ⟨cell_later (by repeat' (first | (with_reducible exact hBt) | (with_reducible refine Below.alloc ?_ ?_ _) | (with_reducible refine Below.drew ?_) | (with_reducible refine below_drewN ?_ _) | (with_reducible refine Below.setCell ?_ ?_ _) | exact hBt.size | (have := hBt.size; first | omega | (simp; done) | (simp; omega)))) p0, cell_later (by repeat' (first | (with_reducible exact hBt) | (with_reducible refine Below.alloc ?_ ?_ _) | (with_reducible refine Below.drew ?_) | (with_reducible refine below_drewN ?_ _) | (with_reducible refine Below.setCell ?_ ?_ _) | exact hBt.size | (have := hBt.size; first | omega | (simp; done) | (simp; omega)))) p1, cell_later (by repeat' (first | (with_reducible exact hBt) | (with_reducible refine Below.alloc ?_ ?_ _) | (with_reducible refine Below.drew ?_) | (with_reducible refine below_drewN ?_ _) | (with_reducible refine Below.setCell ?_ ?_ _) | exact hBt.size | (have := hBt.size; first | omega | (simp; done) | (simp; omega)))) p2, cell_later (by repeat' (first | (with_reducible exact hBt) | (with_reducible refine Below.alloc ?_ ?_ _) | (with_reducible refine Below.drew ?_) | (with_reducible refine below_drewN ?_ _) | (with_reducible refine Below.setCell ?_ ?_ _) | exact hBt.size | (have := hBt.size; first | omega | (simp; done) | (simp; omega)))) p3⟩)
      (first
        | (go_at_call 22; (first | (with_reducible refine (A0.out _).mono ?_) | (with_reducible refine (A1.out _).mono ?_) | (with_reducible refine (A2.out _).mono ?_) | (with_reducible refine (A3.out _).mono ?_)); rintro e w9 ⟨rfl, rfl⟩))
    all_goals
      go_wp2_with fail
      go_meet
      case rel =>
        first
          | exact ⟨_, rfl, heapNew _ _, (by repeat' (first | (with_reducible exact hBt) | (with_reducible refine Below.alloc ?_ ?_ _) | (with_reducible refine Below.drew ?_) | (with_reducible refine below_drewN ?_ _) | (with_reducible refine Below.setCell ?_ ?_ _) | exact hBt.size | (have := hBt.size; first | omega | (simp; done) | (simp; omega))))⟩
          | exact ⟨_, rfl, P4.drew (heapNew _ _), (by repeat' (first | (with_reducible exact hBt) | (with_reducible refine Below.alloc ?_ ?_ _) | (with_reducible refine Below.drew ?_) | (with_reducible refine below_drewN ?_ _) | (with_reducible refine Below.setCell ?_ ?_ _) | exact hBt.size | (have := hBt.size; first | omega | (simp; done) | (simp; omega))))⟩
  case rest =>
    obtain ⟨nb, rfl, hNB, hBx⟩ := hcut
    have VX := Lib.hid hBx
    have VN := Lib.hid hNB
    obtain ⟨n0, n1, n2', n3⟩ := hNB.cells
    obtain ⟨q0, q1, q2, q3⟩ := (U4.out.later hBx).cells
    have H1 := Lib.hid hc1; have H2 := Lib.hid hc2; have D1 := Lib.hid hd1; have D2 := Lib.hid hd2
    clear hNB hBx p0 p1 p2 p3 hBt hc1 hc2 hd1 hd2 hn2 hno2 gw1 gw2 gh1 gh2 ow1 ow2 oh1 oh2 x0 x1 x2 x3 y0 y1 y2 y3 c0 c1 c2 c3 A0 A1 A2 A3 l2 l3 l4 m2 m3 m4
    go_wp2
    have KB := bel_step VX.out (box1 wc (.cells #[.int .i64 a2e0, .int .i64 a2e1, .int .i64 a2e2, .int .i64 a2e3, .int .i64 (r0 - 1), .int .i64 (r1 - 1), .int .i64 (r2 - 1), .int .i64 (r3 - 1)] 50))
    have KG := Lib.hid (HGB2.out.later KB)
    have KS := Lib.hid (HOB.out.later KB)
    have K5 := Lib.hid (V5.out.below KB)
    have K6 := Lib.hid (V6.out.below KB)
    have KB2 := Lib.hid (bel_step (w := w) VB.out KB)
    have K8 : (wc.alloc (.cells #[.int .i64 a2e0, .int .i64 a2e1, .int .i64 a2e2, .int .i64 a2e3, .int .i64 (r0 - 1), .int .i64 (r1 - 1), .int .i64 (r2 - 1), .int .i64 (r3 - 1)] 50)).heap[wc.heap.size]? = some (.cells #[.int .i64 a2e0, .int .i64 a2e1, .int .i64 a2e2, .int .i64 a2e3, .int .i64 (r0 - 1), .int .i64 (r1 - 1), .int .i64 (r2 - 1), .int .i64 (r3 - 1)] 50) := heapNew _ _
    obtain ⟨W3, hW3⟩ : ∃ W3, wc.alloc (.cells #[.int .i64 a2e0, .int .i64 a2e1, .int .i64 a2e2, .int .i64 a2e3, .int .i64 (r0 - 1), .int .i64 (r1 - 1), .int .i64 (r2 - 1), .int .i64 (r3 - 1)] 50) = W3 := ⟨_, rfl⟩
    rw [hW3] at KG KS K5 K6 KB2 K8 ⊢
    have K9 := Lib.hid K8
    clear KB hW3 K8 n0 n1 n2' n3 q0 q1 q2 q3
    go_loopg [11] 2 (fun g s11 wr => ∃ k : Nat, k + g = 2 ∧ s11 = .int .i64 k ∧ Below W3.heap.size W3 wr)
    case atStart => exact ⟨0, rfl, rfl, Below.refl _ _⟩
    case round =>
      obtain ⟨k, hk, rfl, hBr⟩ := hrel
      cases gk with
      | zero =>
        obtain rfl : k = 2 := by omega
        go_wp2_with (go_at_call 21; refine (lives_any _).mono ?_; rintro e w9 ⟨rfl, hb9⟩; have hBt := bel_step hBr hb9)
        go_ret
        exact ⟨rfl, bel_step KB2.out hBt⟩
      | succ g =>
        obtain ⟨u0, u1, u2, u3, v0, v1, v2, v3⟩ : ∃ u0 u1 u2 u3, wr.cell? ⟨wc.heap.size, k * 4, none⟩ = some (.int .i64 u0) ∧ wr.cell? ⟨wc.heap.size, k * 4 + 1, none⟩ = some (.int .i64 u1) ∧ wr.cell? ⟨wc.heap.size, k * 4 + 2, none⟩ = some (.int .i64 u2) ∧ wr.cell? ⟨wc.heap.size, k * 4 + 3, none⟩ = some (.int .i64 u3) := by
          have h8 : wr.heap[wc.heap.size]? = some (.cells #[.int .i64 a2e0, .int .i64 a2e1, .int .i64 a2e2, .int .i64 a2e3, .int .i64 (r0 - 1), .int .i64 (r1 - 1), .int .i64 (r2 - 1), .int .i64 (r3 - 1)] 50) := (hBr.block _ (Array.getElem?_eq_some_iff.1 K9.out).1).trans K9.out
          have : k = 0 ∨ k = 1 := by omega
          rcases this with rfl | rfl
          · refine ⟨a2e0, a2e1, a2e2, a2e3, ?_, ?_, ?_, ?_⟩ <;> simp [World.cell?, h8]
          · refine ⟨r0 - 1, r1 - 1, r2 - 1, r3 - 1, ?_, ?_, ?_, ?_⟩ <;> simp [World.cell?, h8]
        have i0 : (0 : Int) ≤ (k : Int) := Int.natCast_nonneg _
        have i1 : (k : Int) < 2 := by omega
        go_upto_region 9 with fail
        have KC := bel_step hBr (box1 wr (.cells #[.int .i64 u0, .int .i64 u1, .int .i64 u2, .int .i64 u3] 50))
        have QG := Lib.hid (KG.out.later KC)
        have QS := Lib.hid (KS.out.later KC)
        have Q5 := Lib.hid (K5.out.below KC)
        have Q6 := Lib.hid (K6.out.below KC)
        have QB := Lib.hid KC
        have QQ : P4 (wr.alloc (.cells #[.int .i64 u0, .int .i64 u1, .int .i64 u2, .int .i64 u3] 50)) wr.heap.size 50 u0 u1 u2 u3 := heapNew _ _
        obtain ⟨W2, hW2⟩ : ∃ W2, wr.alloc (.cells #[.int .i64 u0, .int .i64 u1, .int .i64 u2, .int .i64 u3] 50) = W2 := ⟨_, rfl⟩
        rw [hW2] at QG QS Q5 Q6 QB QQ ⊢
        obtain ⟨g0, g1, g2⟩ := QG.out.cells
        obtain ⟨s0, s1, s2⟩ := QS.out.cells
        obtain ⟨q0, q1, q2, q3⟩ := QQ.cells
        have VQ := Lib.hid QQ
        have hBt := Below.refl W2.heap.size W2
        clear KC hW2 QQ v0 v1 v2 v3
        have C1 := Lib.hid (fun W2 h => at_any GW GH u0 u1 ga gc G HOK.out (by rw [HN.out]; exact H1.out) H2.out W2 h)
        have C2 := Lib.hid (fun W2 h => refAt_any GW GH u0 u1 ga gc G HOK.out (by rw [HN.out]; exact H1.out) H2.out W2 h)
        have C3 := Lib.hid (fun W2 h => sub_any GW GH u0 u1 u2 u3 ga gc G HOK.out (by rw [HN.out]; exact H1.out) H2.out W2 h)
        have C4 := Lib.hid (fun W2 h => refSub_any GW GH u0 u1 u2 u3 ga gc G HOK.out (by rw [HN.out]; exact H1.out) H2.out W2 h)
        have C6 := Lib.hid (fun W2 h1 h2 => has_any GW GH OW OH u0 u1 ga oa gc oc G O HOK.out HOO.out (by rw [HN.out]; exact H1.out) H2.out (by rw [HNO.out]; exact D1.out) D2.out W2 h1 h2)
        have C7 := Lib.hid (fun W2 h1 h2 => refHas_any GW GH OW OH u0 u1 ga oa gc oc G O HOK.out HOO.out (by rw [HN.out]; exact H1.out) H2.out (by rw [HNO.out]; exact D1.out) D2.out W2 h1 h2)
        rw [HN.out] at C1 C2 C3 C4 C6 C7
        rw [HNO.out] at C6 C7
        have hSV : (Rc.subV GW GH G u0 u1 u2 u3).2.2.2 = true → Rc.Ok (Rc.subV GW GH G u0 u1 u2 u3).1 (Rc.subV GW GH G u0 u1 u2 u3).2.1 (Rc.subV GW GH G u0 u1 u2 u3).2.2.1 ∧ Rc.hasV GW GH G (Rc.subV GW GH G u0 u1 u2 u3).1 (Rc.subV GW GH G u0 u1 u2 u3).2.1 (Rc.subV GW GH G u0 u1 u2 u3).2.2.1 u0 u1 = true := by
          intro h
          cases hx : (Rc.insV u0 u2 GW && Rc.insV u1 u3 GH)
          · rw [show Rc.subV GW GH G u0 u1 u2 u3 = (0, 0, [], false) by simp [Rc.subV, hx]] at h; cases h
          · obtain ⟨e1, e2⟩ : Rc.insV u0 u2 GW = true ∧ Rc.insV u1 u3 GH = true := by simpa using hx
            rw [show Rc.subV GW GH G u0 u1 u2 u3 = (u2, u3, Rc.subL G GW u0 u1 u2 u3, true) by simp only [Rc.subV, hx, if_true]]
            exact ⟨Rc.sub_ok HOK.out e1 e2, by simp [Rc.hasV, e1, e2]⟩
        have hSLn : (Rc.subV GW GH G u0 u1 u2 u3).2.2.1.length ≤ 16777216 := by
          cases hx : (Rc.insV u0 u2 GW && Rc.insV u1 u3 GH)
          · rw [show Rc.subV GW GH G u0 u1 u2 u3 = (0, 0, [], false) by simp [Rc.subV, hx]]; simp
          · obtain ⟨e1, e2⟩ : Rc.insV u0 u2 GW = true ∧ Rc.insV u1 u3 GH = true := by simpa using hx
            rw [show Rc.subV GW GH G u0 u1 u2 u3 = (u2, u3, Rc.subL G GW u0 u1 u2 u3, true) by simp only [Rc.subV, hx, if_true]]
            exact ok_len (Rc.sub_ok HOK.out e1 e2)
        generalize Rc.subV GW GH G u0 u1 u2 u3 = SV at C3 C4 hSV hSLn
        obtain ⟨S1, S2, SL, SB⟩ := SV
        generalize Rc.atV GW GH G u0 u1 = AV at C1 C2
        obtain ⟨av, ab⟩ := AV
        generalize hHV : Rc.hasV GW GH G OW OH O u0 u1 = HV at C6 C7
        clear hHV
        have HSV := Lib.hid hSV
        have HSLn := Lib.hid (show SL.length ≤ 9223372036854775807 by simp only at hSLn; omega)
        clear hSLn
        have C5 := Lib.hid (fun (x y : Option Addr) (cx cy : Nat) W2 h1 h2 => refSame_any S1 S2 S1 S2 x y SL.length SL.length cx cy SL SL W2 HSLn.out h1 h2)
        rw [show (decide (S1 = S1) && (decide (S2 = S2) && decide (SL = SL))) = true by simp] at C5
        clear hSV
        go_region_held3 (fun w' => w'.cell? ⟨w1.heap.size, 0, none⟩ = some (.int .i64 GW) ∧ w'.cell? ⟨w1.heap.size, 1, none⟩ = some (.int .i64 GH) ∧ w'.cell? ⟨w1.heap.size, 2, none⟩ = some (.slice ga n gc) ∧ w'.cell? ⟨wr.heap.size, 0, none⟩ = some (.int .i64 u0) ∧ w'.cell? ⟨wr.heap.size, 1, none⟩ = some (.int .i64 u1))
          (first | exact ⟨g0, g1, g2, q0, q1⟩ | exact ⟨cell_later (by repeat' (first | (with_reducible exact hBt) | (with_reducible refine Below.alloc ?_ ?_ _) | (with_reducible refine Below.drew ?_) | (with_reducible refine below_drewN ?_ _) | (with_reducible refine Below.setCell ?_ ?_ _) | exact hBt.size | (have := hBt.size; first | omega | (simp; done) | (simp; omega)))) g0, cell_later (by repeat' (first | (with_reducible exact hBt) | (with_reducible refine Below.alloc ?_ ?_ _) | (with_reducible refine Below.drew ?_) | (with_reducible refine below_drewN ?_ _) | (with_reducible refine Below.setCell ?_ ?_ _) | exact hBt.size | (have := hBt.size; first | omega | (simp; done) | (simp; omega)))) g1, cell_later (by repeat' (first | (with_reducible exact hBt) | (with_reducible refine Below.alloc ?_ ?_ _) | (with_reducible refine Below.drew ?_) | (with_reducible refine below_drewN ?_ _) | (with_reducible refine Below.setCell ?_ ?_ _) | exact hBt.size | (have := hBt.size; first | omega | (simp; done) | (simp; omega)))) g2, cell_later (by repeat' (first | (with_reducible exact hBt) | (with_reducible refine Below.alloc ?_ ?_ _) | (with_reducible refine Below.drew ?_) | (with_reducible refine below_drewN ?_ _) | (with_reducible refine Below.setCell ?_ ?_ _) | exact hBt.size | (have := hBt.size; first | omega | (simp; done) | (simp; omega)))) q0, cell_later (by repeat' (first | (with_reducible exact hBt) | (with_reducible refine Below.alloc ?_ ?_ _) | (with_reducible refine Below.drew ?_) | (with_reducible refine below_drewN ?_ _) | (with_reducible refine Below.setCell ?_ ?_ _) | exact hBt.size | (have := hBt.size; first | omega | (simp; done) | (simp; omega)))) q1⟩)
          (first
            | (go_at_call 25; refine (of_any _ _ _ _ _ _).mono ?_; rintro e w9 ⟨rfl, hb9⟩; replace hBt := bel_step (w := W2) (by repeat' (first | (with_reducible exact hBt) | (with_reducible refine Below.alloc ?_ ?_ _) | (with_reducible refine Below.drew ?_) | (with_reducible refine below_drewN ?_ _) | (with_reducible refine Below.setCell ?_ ?_ _) | exact hBt.size | (have := hBt.size; first | omega | (simp; done) | (simp; omega)))) hb9; have hsz9 := hBt.size)
            | (go_at_call 27; refine (C1.out _ (Q5.out.below (by repeat' (first | (with_reducible exact hBt) | (with_reducible refine Below.alloc ?_ ?_ _) | (with_reducible refine Below.drew ?_) | (with_reducible refine below_drewN ?_ _) | (with_reducible refine Below.setCell ?_ ?_ _) | exact hBt.size | (have := hBt.size; first | omega | (simp; done) | (simp; omega)))))).mono ?_; rintro e w9 ⟨rfl, hb9⟩; replace hBt := bel_step (w := W2) (by repeat' (first | (with_reducible exact hBt) | (with_reducible refine Below.alloc ?_ ?_ _) | (with_reducible refine Below.drew ?_) | (with_reducible refine below_drewN ?_ _) | (with_reducible refine Below.setCell ?_ ?_ _) | exact hBt.size | (have := hBt.size; first | omega | (simp; done) | (simp; omega)))) hb9; have hsz9 := hBt.size))
        obtain ⟨g0, g1, g2⟩ := (QG.out.later hBt).cells
        obtain ⟨q0, q1, q2, q3⟩ := (VQ.out.later hBt).cells
        go_upto_region 11 with (go_at_call 28; refine (C2.out _ (Q5.out.below hBt)).mono ?_; rintro e w10 ⟨rfl, hb10⟩; replace hBt := bel_step hBt hb10; obtain ⟨g0, g1, g2⟩ := (QG.out.later hBt).cells; obtain ⟨q0, q1, q2, q3⟩ := (VQ.out.later hBt).cells)
        have QX := Lib.hid hBt
        have X5 := Lib.hid (Q5.out.below hBt)
        clear hBt
        have hBt := Below.refl w10.heap.size w10
        go_cut [17, 18] (fun s17 s18 wx => ∃ nc ac cc, s17 = .pointer (some ⟨nc, 0, none⟩) ∧ s18 = .bool SB ∧ Sb wx nc 26 (.int .i64 S1) (.int .i64 S2) (.slice ac SL.length cc) ∧ SlK .u64 wx ac SL.length SL ∧ Below w10.heap.size w10 wx)
        case first =>
          go_region_held3 (fun w' => w'.cell? ⟨w1.heap.size, 0, none⟩ = some (.int .i64 GW) ∧ w'.cell? ⟨w1.heap.size, 1, none⟩ = some (.int .i64 GH) ∧ w'.cell? ⟨w1.heap.size, 2, none⟩ = some (.slice ga n gc) ∧ w'.cell? ⟨wr.heap.size, 0, none⟩ = some (.int .i64 u0) ∧ w'.cell? ⟨wr.heap.size, 1, none⟩ = some (.int .i64 u1) ∧ w'.cell? ⟨wr.heap.size, 2, none⟩ = some (.int .i64 u2) ∧ w'.cell? ⟨wr.heap.size, 3, none⟩ = some (.int .i64 u3))
            (first | exact ⟨g0, g1, g2, q0, q1, q2, q3⟩ | exact ⟨cell_later (by repeat' (first | (with_reducible exact hBt) | (with_reducible refine Below.alloc ?_ ?_ _) | (with_reducible refine Below.drew ?_) | (with_reducible refine below_drewN ?_ _) | (with_reducible refine Below.setCell ?_ ?_ _) | exact hBt.size | (have := hBt.size; first | omega | (simp; done) | (simp; omega)))) g0, cell_later (by repeat' (first | (with_reducible exact hBt) | (with_reducible refine Below.alloc ?_ ?_ _) | (with_reducible refine Below.drew ?_) | (with_reducible refine below_drewN ?_ _) | (with_reducible refine Below.setCell ?_ ?_ _) | exact hBt.size | (have := hBt.size; first | omega | (simp; done) | (simp; omega)))) g1, cell_later (by repeat' (first | (with_reducible exact hBt) | (with_reducible refine Below.alloc ?_ ?_ _) | (with_reducible refine Below.drew ?_) | (with_reducible refine below_drewN ?_ _) | (with_reducible refine Below.setCell ?_ ?_ _) | exact hBt.size | (have := hBt.size; first | omega | (simp; done) | (simp; omega)))) g2, cell_later (by repeat' (first | (with_reducible exact hBt) | (with_reducible refine Below.alloc ?_ ?_ _) | (with_reducible refine Below.drew ?_) | (with_reducible refine below_drewN ?_ _) | (with_reducible refine Below.setCell ?_ ?_ _) | exact hBt.size | (have := hBt.size; first | omega | (simp; done) | (simp; omega)))) q0, cell_later (by repeat' (first | (with_reducible exact hBt) | (with_reducible refine Below.alloc ?_ ?_ _) | (with_reducible refine Below.drew ?_) | (with_reducible refine below_drewN ?_ _) | (with_reducible refine Below.setCell ?_ ?_ _) | exact hBt.size | (have := hBt.size; first | omega | (simp; done) | (simp; omega)))) q1, cell_later (by repeat' (first | (with_reducible exact hBt) | (with_reducible refine Below.alloc ?_ ?_ _) | (with_reducible refine Below.drew ?_) | (with_reducible refine below_drewN ?_ _) | (with_reducible refine Below.setCell ?_ ?_ _) | exact hBt.size | (have := hBt.size; first | omega | (simp; done) | (simp; omega)))) q2, cell_later (by repeat' (first | (with_reducible exact hBt) | (with_reducible refine Below.alloc ?_ ?_ _) | (with_reducible refine Below.drew ?_) | (with_reducible refine below_drewN ?_ _) | (with_reducible refine Below.setCell ?_ ?_ _) | exact hBt.size | (have := hBt.size; first | omega | (simp; done) | (simp; omega)))) q3⟩)
            (first
              | (go_at_call 25; refine (of_any _ _ _ _ _ _).mono ?_; rintro e w9 ⟨rfl, hb9⟩; replace hBt := bel_step (w := w10) (by repeat' (first | (with_reducible exact hBt) | (with_reducible refine Below.alloc ?_ ?_ _) | (with_reducible refine Below.drew ?_) | (with_reducible refine below_drewN ?_ _) | (with_reducible refine Below.setCell ?_ ?_ _) | exact hBt.size | (have := hBt.size; first | omega | (simp; done) | (simp; omega)))) hb9; have hsz9 := hBt.size; (try (have hnl9 := hNB.lt)); (try replace hNB := hNB.later hb9); (try ((first | have hNB := Sb.later (Sb.new _ _ _ _ _) hb9 | have hNB := Sb.later (Sb.drew (Sb.new _ _ _ _ _)) hb9); (try simp only [World.size_drew, size_drewN'] at hNB))); (try (obtain ⟨z0, z1, z2⟩ := hNB.cells)); (try (obtain ⟨y0, y1, y2⟩ := hNB.fr)))
              | (go_at_call 29; refine (C3.out _ (X5.out.below (by repeat' (first | (with_reducible exact hBt) | (with_reducible refine Below.alloc ?_ ?_ _) | (with_reducible refine Below.drew ?_) | (with_reducible refine below_drewN ?_ _) | (with_reducible refine Below.setCell ?_ ?_ _) | exact hBt.size | (have := hBt.size; first | omega | (simp; done) | (simp; omega)))))).mono ?_; rintro e w9 ⟨⟨ac, cc, rfl, ho, hl, hm⟩, hb9⟩; replace hBt := bel_step (w := w10) (by repeat' (first | (with_reducible exact hBt) | (with_reducible refine Below.alloc ?_ ?_ _) | (with_reducible refine Below.drew ?_) | (with_reducible refine below_drewN ?_ _) | (with_reducible refine Below.setCell ?_ ?_ _) | exact hBt.size | (have := hBt.size; first | omega | (simp; done) | (simp; omega)))) hb9; have hsz9 := hBt.size; (try (have hnl9 := hNB.lt)); (try replace hNB := hNB.later hb9); (try ((first | have hNB := Sb.later (Sb.new _ _ _ _ _) hb9 | have hNB := Sb.later (Sb.drew (Sb.new _ _ _ _ _)) hb9); (try simp only [World.size_drew, size_drewN'] at hNB))); (try (obtain ⟨z0, z1, z2⟩ := hNB.cells)); (try (obtain ⟨y0, y1, y2⟩ := hNB.fr))))
          all_goals
            go_wp2_with fail
            go_meet
            case rel =>
              first
                | exact ⟨_, _, _, rfl, rfl, Sb.new _ _ _ _ _, (ho.later (box1 _ _)).sl, (by repeat' (first | (with_reducible exact hBt) | (with_reducible refine Below.alloc ?_ ?_ _) | (with_reducible refine Below.drew ?_) | (with_reducible refine below_drewN ?_ _) | (with_reducible refine Below.setCell ?_ ?_ _) | exact hBt.size | (have := hBt.size; first | omega | (simp; done) | (simp; omega))))⟩
                | exact ⟨_, _, _, rfl, rfl, hNB.put _ _ _, (ownK_set (ownK_set (ownK_set ho (by first | (simp; done) | (simp; omega)) _) (by first | (simp; done) | (simp; omega)) _) (by first | (simp; done) | (simp; omega)) _).sl, (by repeat' (first | (with_reducible exact hBt) | (with_reducible refine Below.alloc ?_ ?_ _) | (with_reducible refine Below.drew ?_) | (with_reducible refine below_drewN ?_ _) | (with_reducible refine Below.setCell ?_ ?_ _) | exact hBt.size | (have := hBt.size; first | omega | (simp; done) | (simp; omega))))⟩
        case rest =>
          obtain ⟨nc, ac, cc, rfl, rfl, hNC, hSC, hBx0⟩ := hcut
          have hBx := bel_step (w := W2) QX.out hBx0
          have VC := Lib.hid hNC
          have VS := Lib.hid hSC
          have VX2 := Lib.hid hBx
          obtain ⟨g0, g1, g2⟩ := (QG.out.later hBx).cells
          obtain ⟨q0, q1, q2, q3⟩ := (VQ.out.later hBx).cells
          clear hNC hSC hBt hBx0
          go_upto_region 13 with (go_at_call 30; refine (C4.out _ (Q5.out.below hBx)).mono ?_; rintro e w12 ⟨⟨ad, cd, rfl, ho, hl, hm⟩, hb12⟩; replace hBx := bel_step (bel_step hBx hb12) (box1 w12 (.cells #[.int .i64 S1, .int .i64 S2, .slice ad SL.length cd] 25)); have HO12 := Lib.hid (ho.later (box1 w12 (.cells #[.int .i64 S1, .int .i64 S2, .slice ad SL.length cd] 25))).sl; have VC2 := Lib.hid ((VC.out.later hb12).alloc (.cells #[.int .i64 S1, .int .i64 S2, .slice ad SL.length cd] 25)); have VS2 := Lib.hid ((VS.out.below hb12).below (box1 w12 (.cells #[.int .i64 S1, .int .i64 S2, .slice ad SL.length cd] 25))); clear ho hb12)
          obtain ⟨d0, d1, d2⟩ := (Sb.new w12 25 (.int .i64 S1) (.int .i64 S2) (.slice ad SL.length cd)).cells
          obtain ⟨b0, b1, b2⟩ := VC2.out.cells
          obtain ⟨g0, g1, g2⟩ := (QG.out.later hBx).cells
          obtain ⟨s0, s1, s2⟩ := (QS.out.later hBx).cells
          obtain ⟨q0, q1, q2, q3⟩ := (VQ.out.later hBx).cells
          have R5 := Lib.hid (Q5.out.below hBx)
          have R6 := Lib.hid (Q6.out.below hBx)
          have RB := Lib.hid hBx
          obtain ⟨W4, hW4⟩ : ∃ W4, w12.alloc (.cells #[.int .i64 S1, .int .i64 S2, .slice ad SL.length cd] 25) = W4 := ⟨_, rfl⟩
          rw [hW4] at d0 d1 d2 b0 b1 b2 g0 g1 g2 s0 s1 s2 q0 q1 q2 q3 R5 R6 RB HO12 VS2 ⊢
          have hBt := Below.refl W4.heap.size W4
          clear hW4 hBx
          go_cut [137] (fun s137 wx => s137 = .bool false ∧ Below W4.heap.size W4 wx)
          case first =>
            go_region_held3 (fun w' => w'.cell? ⟨nc, 0, none⟩ = some (.int .i64 S1) ∧ w'.cell? ⟨nc, 1, none⟩ = some (.int .i64 S2) ∧ w'.cell? ⟨nc, 2, none⟩ = some (.slice ac SL.length cc) ∧ w'.cell? ⟨w12.heap.size, 0, none⟩ = some (.int .i64 S1) ∧ w'.cell? ⟨w12.heap.size, 1, none⟩ = some (.int .i64 S2) ∧ w'.cell? ⟨w12.heap.size, 2, none⟩ = some (.slice ad SL.length cd) ∧ w'.cell? ⟨w1.heap.size, 0, none⟩ = some (.int .i64 GW) ∧ w'.cell? ⟨w1.heap.size, 1, none⟩ = some (.int .i64 GH) ∧ w'.cell? ⟨w1.heap.size, 2, none⟩ = some (.slice ga n gc) ∧ w'.cell? ⟨w2.heap.size, 0, none⟩ = some (.int .i64 OW) ∧ w'.cell? ⟨w2.heap.size, 1, none⟩ = some (.int .i64 OH) ∧ w'.cell? ⟨w2.heap.size, 2, none⟩ = some (.slice oa no oc) ∧ w'.cell? ⟨wr.heap.size, 0, none⟩ = some (.int .i64 u0) ∧ w'.cell? ⟨wr.heap.size, 1, none⟩ = some (.int .i64 u1))
              (first | exact ⟨b0, b1, b2, d0, d1, d2, g0, g1, g2, s0, s1, s2, q0, q1⟩ | exact ⟨cell_later (by repeat' (first | (with_reducible exact hBt) | (with_reducible refine Below.alloc ?_ ?_ _) | (with_reducible refine Below.drew ?_) | (with_reducible refine below_drewN ?_ _) | (with_reducible refine Below.setCell ?_ ?_ _) | exact hBt.size | (have := hBt.size; first | omega | (simp; done) | (simp; omega)))) b0, cell_later (by repeat' (first | (with_reducible exact hBt) | (with_reducible refine Below.alloc ?_ ?_ _) | (with_reducible refine Below.drew ?_) | (with_reducible refine below_drewN ?_ _) | (with_reducible refine Below.setCell ?_ ?_ _) | exact hBt.size | (have := hBt.size; first | omega | (simp; done) | (simp; omega)))) b1, cell_later (by repeat' (first | (with_reducible exact hBt) | (with_reducible refine Below.alloc ?_ ?_ _) | (with_reducible refine Below.drew ?_) | (with_reducible refine below_drewN ?_ _) | (with_reducible refine Below.setCell ?_ ?_ _) | exact hBt.size | (have := hBt.size; first | omega | (simp; done) | (simp; omega)))) b2, cell_later (by repeat' (first | (with_reducible exact hBt) | (with_reducible refine Below.alloc ?_ ?_ _) | (with_reducible refine Below.drew ?_) | (with_reducible refine below_drewN ?_ _) | (with_reducible refine Below.setCell ?_ ?_ _) | exact hBt.size | (have := hBt.size; first | omega | (simp; done) | (simp; omega)))) d0, cell_later (by repeat' (first | (with_reducible exact hBt) | (with_reducible refine Below.alloc ?_ ?_ _) | (with_reducible refine Below.drew ?_) | (with_reducible refine below_drewN ?_ _) | (with_reducible refine Below.setCell ?_ ?_ _) | exact hBt.size | (have := hBt.size; first | omega | (simp; done) | (simp; omega)))) d1, cell_later (by repeat' (first | (with_reducible exact hBt) | (with_reducible refine Below.alloc ?_ ?_ _) | (with_reducible refine Below.drew ?_) | (with_reducible refine below_drewN ?_ _) | (with_reducible refine Below.setCell ?_ ?_ _) | exact hBt.size | (have := hBt.size; first | omega | (simp; done) | (simp; omega)))) d2, cell_later (by repeat' (first | (with_reducible exact hBt) | (with_reducible refine Below.alloc ?_ ?_ _) | (with_reducible refine Below.drew ?_) | (with_reducible refine below_drewN ?_ _) | (with_reducible refine Below.setCell ?_ ?_ _) | exact hBt.size | (have := hBt.size; first | omega | (simp; done) | (simp; omega)))) g0, cell_later (by repeat' (first | (with_reducible exact hBt) | (with_reducible refine Below.alloc ?_ ?_ _) | (with_reducible refine Below.drew ?_) | (with_reducible refine below_drewN ?_ _) | (with_reducible refine Below.setCell ?_ ?_ _) | exact hBt.size | (have := hBt.size; first | omega | (simp; done) | (simp; omega)))) g1, cell_later (by repeat' (first | (with_reducible exact hBt) | (with_reducible refine Below.alloc ?_ ?_ _) | (with_reducible refine Below.drew ?_) | (with_reducible refine below_drewN ?_ _) | (with_reducible refine Below.setCell ?_ ?_ _) | exact hBt.size | (have := hBt.size; first | omega | (simp; done) | (simp; omega)))) g2, cell_later (by repeat' (first | (with_reducible exact hBt) | (with_reducible refine Below.alloc ?_ ?_ _) | (with_reducible refine Below.drew ?_) | (with_reducible refine below_drewN ?_ _) | (with_reducible refine Below.setCell ?_ ?_ _) | exact hBt.size | (have := hBt.size; first | omega | (simp; done) | (simp; omega)))) s0, cell_later (by repeat' (first | (with_reducible exact hBt) | (with_reducible refine Below.alloc ?_ ?_ _) | (with_reducible refine Below.drew ?_) | (with_reducible refine below_drewN ?_ _) | (with_reducible refine Below.setCell ?_ ?_ _) | exact hBt.size | (have := hBt.size; first | omega | (simp; done) | (simp; omega)))) s1, cell_later (by repeat' (first | (with_reducible exact hBt) | (with_reducible refine Below.alloc ?_ ?_ _) | (with_reducible refine Below.drew ?_) | (with_reducible refine below_drewN ?_ _) | (with_reducible refine Below.setCell ?_ ?_ _) | exact hBt.size | (have := hBt.size; first | omega | (simp; done) | (simp; omega)))) s2, cell_later (by repeat' (first | (with_reducible exact hBt) | (with_reducible refine Below.alloc ?_ ?_ _) | (with_reducible refine Below.drew ?_) | (with_reducible refine below_drewN ?_ _) | (with_reducible refine Below.setCell ?_ ?_ _) | exact hBt.size | (have := hBt.size; first | omega | (simp; done) | (simp; omega)))) q0, cell_later (by repeat' (first | (with_reducible exact hBt) | (with_reducible refine Below.alloc ?_ ?_ _) | (with_reducible refine Below.drew ?_) | (with_reducible refine below_drewN ?_ _) | (with_reducible refine Below.setCell ?_ ?_ _) | exact hBt.size | (have := hBt.size; first | omega | (simp; done) | (simp; omega)))) q1⟩)
              (first
                | (go_at_call 15; refine (as_any _ _ _ _ _ _).mono ?_; rintro e w9 ⟨rfl, hb9⟩; replace hBt := bel_step (w := W4) (by repeat' (first | (with_reducible exact hBt) | (with_reducible refine Below.alloc ?_ ?_ _) | (with_reducible refine Below.drew ?_) | (with_reducible refine below_drewN ?_ _) | (with_reducible refine Below.setCell ?_ ?_ _) | exact hBt.size | (have := hBt.size; first | omega | (simp; done) | (simp; omega)))) hb9; have hsz9 := hBt.size)
                | (go_at_call 14; refine (C5.out _ _ _ _ _ (VS2.out.below (by repeat' (first | (with_reducible exact hBt) | (with_reducible refine Below.alloc ?_ ?_ _) | (with_reducible refine Below.drew ?_) | (with_reducible refine below_drewN ?_ _) | (with_reducible refine Below.setCell ?_ ?_ _) | exact hBt.size | (have := hBt.size; first | omega | (simp; done) | (simp; omega))))) (HO12.out.below (by repeat' (first | (with_reducible exact hBt) | (with_reducible refine Below.alloc ?_ ?_ _) | (with_reducible refine Below.drew ?_) | (with_reducible refine below_drewN ?_ _) | (with_reducible refine Below.setCell ?_ ?_ _) | exact hBt.size | (have := hBt.size; first | omega | (simp; done) | (simp; omega)))))).mono ?_; rintro e w9 ⟨rfl, hb9⟩; replace hBt := bel_step (w := W4) (by repeat' (first | (with_reducible exact hBt) | (with_reducible refine Below.alloc ?_ ?_ _) | (with_reducible refine Below.drew ?_) | (with_reducible refine below_drewN ?_ _) | (with_reducible refine Below.setCell ?_ ?_ _) | exact hBt.size | (have := hBt.size; first | omega | (simp; done) | (simp; omega)))) hb9; have hsz9 := hBt.size)
                | (go_at_call 25; refine (of_any _ _ _ _ _ _).mono ?_; rintro e w9 ⟨rfl, hb9⟩; replace hBt := bel_step (w := W4) (by repeat' (first | (with_reducible exact hBt) | (with_reducible refine Below.alloc ?_ ?_ _) | (with_reducible refine Below.drew ?_) | (with_reducible refine below_drewN ?_ _) | (with_reducible refine Below.setCell ?_ ?_ _) | exact hBt.size | (have := hBt.size; first | omega | (simp; done) | (simp; omega)))) hb9; have hsz9 := hBt.size)
                | (go_at_call 31; refine (C6.out _ (R5.out.below (by repeat' (first | (with_reducible exact hBt) | (with_reducible refine Below.alloc ?_ ?_ _) | (with_reducible refine Below.drew ?_) | (with_reducible refine below_drewN ?_ _) | (with_reducible refine Below.setCell ?_ ?_ _) | exact hBt.size | (have := hBt.size; first | omega | (simp; done) | (simp; omega))))) (R6.out.below (by repeat' (first | (with_reducible exact hBt) | (with_reducible refine Below.alloc ?_ ?_ _) | (with_reducible refine Below.drew ?_) | (with_reducible refine below_drewN ?_ _) | (with_reducible refine Below.setCell ?_ ?_ _) | exact hBt.size | (have := hBt.size; first | omega | (simp; done) | (simp; omega)))))).mono ?_; rintro e w9 ⟨rfl, hb9⟩; replace hBt := bel_step (w := W4) (by repeat' (first | (with_reducible exact hBt) | (with_reducible refine Below.alloc ?_ ?_ _) | (with_reducible refine Below.drew ?_) | (with_reducible refine below_drewN ?_ _) | (with_reducible refine Below.setCell ?_ ?_ _) | exact hBt.size | (have := hBt.size; first | omega | (simp; done) | (simp; omega)))) hb9; have hsz9 := hBt.size)
                | (go_at_call 32; refine (C7.out _ (R5.out.below (by repeat' (first | (with_reducible exact hBt) | (with_reducible refine Below.alloc ?_ ?_ _) | (with_reducible refine Below.drew ?_) | (with_reducible refine below_drewN ?_ _) | (with_reducible refine Below.setCell ?_ ?_ _) | exact hBt.size | (have := hBt.size; first | omega | (simp; done) | (simp; omega))))) (R6.out.below (by repeat' (first | (with_reducible exact hBt) | (with_reducible refine Below.alloc ?_ ?_ _) | (with_reducible refine Below.drew ?_) | (with_reducible refine below_drewN ?_ _) | (with_reducible refine Below.setCell ?_ ?_ _) | exact hBt.size | (have := hBt.size; first | omega | (simp; done) | (simp; omega)))))).mono ?_; rintro e w9 ⟨rfl, hb9⟩; replace hBt := bel_step (w := W4) (by repeat' (first | (with_reducible exact hBt) | (with_reducible refine Below.alloc ?_ ?_ _) | (with_reducible refine Below.drew ?_) | (with_reducible refine below_drewN ?_ _) | (with_reducible refine Below.setCell ?_ ?_ _) | exact hBt.size | (have := hBt.size; first | omega | (simp; done) | (simp; omega)))) hb9; have hsz9 := hBt.size))
            all_goals
              go_wp2_with fail
              go_meet
              case rel => exact ⟨rfl, (by repeat' (first | (with_reducible exact hBt) | (with_reducible refine Below.alloc ?_ ?_ _) | (with_reducible refine Below.drew ?_) | (with_reducible refine below_drewN ?_ _) | (with_reducible refine Below.setCell ?_ ?_ _) | exact hBt.size | (have := hBt.size; first | omega | (simp; done) | (simp; omega))))⟩
          case rest =>
            obtain ⟨rfl, hBy⟩ := hcut
            replace d0 := cell_later hBy d0
            replace d1 := cell_later hBy d1
            replace d2 := cell_later hBy d2
            replace g0 := cell_later hBy g0
            replace g1 := cell_later hBy g1
            replace g2 := cell_later hBy g2
            replace q0 := cell_later hBy q0
            replace q1 := cell_later hBy q1
            have T5 := Lib.hid (R5.out.below hBy)
            have TO := Lib.hid (HO12.out.below hBy)
            have RC := Lib.hid (bel_step (w := W3) (bel_step (w := W3) QB.out RB.out) hBy)
            clear b0 b1 b2 s0 s1 s2 q2 q3 hBy hBt
            have hBt := Below.refl wc.heap.size wc
            go_wp2
            cases SB
            case false =>
              go_quiet (fail)
              all_goals
                go_wp2
                go_roundg g
                case measure => first | exact Nat.lt_succ_self _ | omega
                case rel => exact ⟨k + 1, st_one hk, by go_num, bel_step (w := W3) RC.out (by repeat' (first | (with_reducible exact hBt) | (with_reducible refine Below.alloc ?_ ?_ _) | (with_reducible refine Below.drew ?_) | (with_reducible refine below_drewN ?_ _) | (with_reducible refine Below.setCell ?_ ?_ _) | exact hBt.size | (have := hBt.size; first | omega | (simp; done) | (simp; omega))))⟩
            case true =>
              obtain ⟨hok8, hhas8⟩ := HSV.out rfl
              have C8 := Lib.hid (fun W2 h1 h2 => has_any GW GH S1 S2 u0 u1 ga ad gc cd G SL HOK.out hok8 (by rw [HN.out]; exact H1.out) H2.out hl hm W2 h1 h2)
              rw [HN.out, hhas8] at C8
              clear hok8 hhas8
              go_region_held3 (fun w' => w'.cell? ⟨w1.heap.size, 0, none⟩ = some (.int .i64 GW) ∧ w'.cell? ⟨w1.heap.size, 1, none⟩ = some (.int .i64 GH) ∧ w'.cell? ⟨w1.heap.size, 2, none⟩ = some (.slice ga n gc) ∧ w'.cell? ⟨w12.heap.size, 0, none⟩ = some (.int .i64 S1) ∧ w'.cell? ⟨w12.heap.size, 1, none⟩ = some (.int .i64 S2) ∧ w'.cell? ⟨w12.heap.size, 2, none⟩ = some (.slice ad SL.length cd) ∧ w'.cell? ⟨wr.heap.size, 0, none⟩ = some (.int .i64 u0) ∧ w'.cell? ⟨wr.heap.size, 1, none⟩ = some (.int .i64 u1))
                (first | exact ⟨g0, g1, g2, d0, d1, d2, q0, q1⟩ | exact ⟨cell_later (by repeat' (first | (with_reducible exact hBt) | (with_reducible refine Below.alloc ?_ ?_ _) | (with_reducible refine Below.drew ?_) | (with_reducible refine below_drewN ?_ _) | (with_reducible refine Below.setCell ?_ ?_ _) | exact hBt.size | (have := hBt.size; first | omega | (simp; done) | (simp; omega)))) g0, cell_later (by repeat' (first | (with_reducible exact hBt) | (with_reducible refine Below.alloc ?_ ?_ _) | (with_reducible refine Below.drew ?_) | (with_reducible refine below_drewN ?_ _) | (with_reducible refine Below.setCell ?_ ?_ _) | exact hBt.size | (have := hBt.size; first | omega | (simp; done) | (simp; omega)))) g1, cell_later (by repeat' (first | (with_reducible exact hBt) | (with_reducible refine Below.alloc ?_ ?_ _) | (with_reducible refine Below.drew ?_) | (with_reducible refine below_drewN ?_ _) | (with_reducible refine Below.setCell ?_ ?_ _) | exact hBt.size | (have := hBt.size; first | omega | (simp; done) | (simp; omega)))) g2, cell_later (by repeat' (first | (with_reducible exact hBt) | (with_reducible refine Below.alloc ?_ ?_ _) | (with_reducible refine Below.drew ?_) | (with_reducible refine below_drewN ?_ _) | (with_reducible refine Below.setCell ?_ ?_ _) | exact hBt.size | (have := hBt.size; first | omega | (simp; done) | (simp; omega)))) d0, cell_later (by repeat' (first | (with_reducible exact hBt) | (with_reducible refine Below.alloc ?_ ?_ _) | (with_reducible refine Below.drew ?_) | (with_reducible refine below_drewN ?_ _) | (with_reducible refine Below.setCell ?_ ?_ _) | exact hBt.size | (have := hBt.size; first | omega | (simp; done) | (simp; omega)))) d1, cell_later (by repeat' (first | (with_reducible exact hBt) | (with_reducible refine Below.alloc ?_ ?_ _) | (with_reducible refine Below.drew ?_) | (with_reducible refine below_drewN ?_ _) | (with_reducible refine Below.setCell ?_ ?_ _) | exact hBt.size | (have := hBt.size; first | omega | (simp; done) | (simp; omega)))) d2, cell_later (by repeat' (first | (with_reducible exact hBt) | (with_reducible refine Below.alloc ?_ ?_ _) | (with_reducible refine Below.drew ?_) | (with_reducible refine below_drewN ?_ _) | (with_reducible refine Below.setCell ?_ ?_ _) | exact hBt.size | (have := hBt.size; first | omega | (simp; done) | (simp; omega)))) q0, cell_later (by repeat' (first | (with_reducible exact hBt) | (with_reducible refine Below.alloc ?_ ?_ _) | (with_reducible refine Below.drew ?_) | (with_reducible refine below_drewN ?_ _) | (with_reducible refine Below.setCell ?_ ?_ _) | exact hBt.size | (have := hBt.size; first | omega | (simp; done) | (simp; omega)))) q1⟩)
                (first
                  | (go_at_call 25; refine (of_any _ _ _ _ _ _).mono ?_; rintro e w9 ⟨rfl, hb9⟩; replace hBt := bel_step (w := wc) (by repeat' (first | (with_reducible exact hBt) | (with_reducible refine Below.alloc ?_ ?_ _) | (with_reducible refine Below.drew ?_) | (with_reducible refine below_drewN ?_ _) | (with_reducible refine Below.setCell ?_ ?_ _) | exact hBt.size | (have := hBt.size; first | omega | (simp; done) | (simp; omega)))) hb9; have hsz9 := hBt.size)
                  | (go_at_call 31; refine (C8.out _ (T5.out.below (by repeat' (first | (with_reducible exact hBt) | (with_reducible refine Below.alloc ?_ ?_ _) | (with_reducible refine Below.drew ?_) | (with_reducible refine below_drewN ?_ _) | (with_reducible refine Below.setCell ?_ ?_ _) | exact hBt.size | (have := hBt.size; first | omega | (simp; done) | (simp; omega))))) (TO.out.below (by repeat' (first | (with_reducible exact hBt) | (with_reducible refine Below.alloc ?_ ?_ _) | (with_reducible refine Below.drew ?_) | (with_reducible refine below_drewN ?_ _) | (with_reducible refine Below.setCell ?_ ?_ _) | exact hBt.size | (have := hBt.size; first | omega | (simp; done) | (simp; omega)))))).mono ?_; rintro e w9 ⟨rfl, hb9⟩; replace hBt := bel_step (w := wc) (by repeat' (first | (with_reducible exact hBt) | (with_reducible refine Below.alloc ?_ ?_ _) | (with_reducible refine Below.drew ?_) | (with_reducible refine below_drewN ?_ _) | (with_reducible refine Below.setCell ?_ ?_ _) | exact hBt.size | (have := hBt.size; first | omega | (simp; done) | (simp; omega)))) hb9; have hsz9 := hBt.size))
              all_goals
                go_wp2
                go_roundg g
                case measure => first | exact Nat.lt_succ_self _ | omega
                case rel => exact ⟨k + 1, st_one hk, by go_num, bel_step (w := W3) RC.out (by repeat' (first | (with_reducible exact hBt) | (with_reducible refine Below.alloc ?_ ?_ _) | (with_reducible refine Below.drew ?_) | (with_reducible refine below_drewN ?_ _) | (with_reducible refine Below.setCell ?_ ?_ _) | exact hBt.size | (have := hBt.size; first | omega | (simp; done) | (simp; omega))))⟩
end Go.Proofs.Ytfgfpnflabmaeaa
