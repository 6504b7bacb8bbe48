/- RectFinds: where another matrix is, is the document's: the walk of the law. No condition. -/
import Derived.Test.YtfgfpnflabmaeaaRecQ
import Derived.Test.YtfgfpnflabmaeaaRecO
import Derived.Test.YtfgfpnflabmaeaaRecT
namespace Go.Proofs.Ytfgfpnflabmaeaa
open Go.RowKit
set_option linter.unusedVariables false

theorem find_some {W H : Int} {L : List Int} {w h : Int} {M : List Int} {x y : Int} (h1 : Rc.hasV W H L w h M x y = true) (hx : 0 ≤ x ∧ x < W) (hy : 0 ≤ y ∧ y < H) : (Rc.findV W H L w h M).length ≠ 0 := by
  intro e
  have e2 := List.eq_nil_of_length_eq_zero e
  have : (x, y) ∈ Rc.findV W H L w h M := by
    unfold Rc.findV
    refine List.mem_flatMap.2 ⟨y.toNat, List.mem_range.2 (by omega), List.mem_flatMap.2 ⟨x.toNat, List.mem_range.2 (by omega), ?_⟩⟩
    rw [show ((x.toNat : Nat) : Int) = x by omega, show ((y.toNat : Nat) : Int) = y by omega, if_pos h1]
    simp
  rw [e2] at this
  cases this
set_option maxRecDepth 100000 in
set_option maxHeartbeats 8000000 in
theorem rectFinds_walk (a0w0 a0h1 : Int) (a0 : Option Addr) (len0 cap0 : Nat) (z0 : List Int) (a1w0 a1h1 : Int) (a1 : Option Addr) (len1 cap1 : Nat) (z1 : List Int) (a2e0 a2e1 a2e2 a2e3 : Int) (w : World) (w00 : (Lit.int .i64 a0w0).wf = true) (w01 : (Lit.int .i64 a0h1).wf = true) (w02 : IsRow .u64 w a0 len0 cap0 z0) (w10 : (Lit.int .i64 a1w0).wf = true) (w11 : (Lit.int .i64 a1h1).wf = true) (w12 : IsRow .u64 w a1 len1 cap1 z1) (w20 : (Lit.int .i64 a2e0).wf = true) (w21 : (Lit.int .i64 a2e1).wf = true) (w22 : (Lit.int .i64 a2e2).wf = true) (w23 : (Lit.int .i64 a2e3).wf = true) :
    Calls Try.prog 6 #[.agg #[.int .i64 a0w0, .int .i64 a0h1, .slice a0 len0 cap0], .agg #[.int .i64 a1w0, .int .i64 a1h1, .slice a1 len1 cap1], .agg #[.int .i64 a2e0, .int .i64 a2e1, .int .i64 a2e2, .int .i64 a2e3]] w fun e w' => e = .returned (.bool true) ∧ Below w.heap.size w w' := by
  obtain ⟨l1, l2, l3, l4⟩ := isrow_len w02
  obtain ⟨m1, m2, m3, m4⟩ := isrow_len w12
  have hG := Lib.hid (fun W2 h => good_any a0w0 a0h1 8 a0 len0 cap0 (z0.take len0) (i64_of w00) (i64_of w01) (by omega) (by omega) l1 W2 h (px_take w02 len0))
  have hO := Lib.hid (fun W2 h => good_any a1w0 a1h1 3 a1 len1 cap1 (z1.take len1) (i64_of w10) (i64_of w11) (by omega) (by omega) m1 W2 h (px_take w12 len1))
  have HSL := Lib.hid (row_slk w02)
  have HSL1 := Lib.hid (row_slk w12)
  have HOK := Lib.hid (good_ok a0w0 a0h1 8 (z0.take len0) (by omega) (by omega))
  have HOO := Lib.hid (good_ok a1w0 a1h1 3 (z1.take len1) (by omega) (by omega))
  obtain ⟨gw1, gw2⟩ := goodW_in a0w0 8 (by omega)
  obtain ⟨gh1, gh2⟩ := goodW_in a0h1 8 (by omega)
  obtain ⟨ow1, ow2⟩ := goodW_in a1w0 3 (by omega)
  obtain ⟨oh1, oh2⟩ := goodW_in a1h1 3 (by omega)
  generalize goodW a0w0 8 = GW at hG HOK gw1 gw2
  generalize goodW a0h1 8 = GH at hG HOK gh1 gh2
  generalize goodM a0w0 a0h1 8 (z0.take len0) = G at hG HOK
  generalize goodW a1w0 3 = OW at hO HOO ow1 ow2
  generalize goodW a1h1 3 = OH at hO HOO oh1 oh2
  generalize goodM a1w0 a1h1 3 (z1.take len1) = O at hO HOO
  obtain ⟨n, hn⟩ : ∃ n, G.length = n := ⟨_, rfl⟩
  obtain ⟨no, hno⟩ : ∃ n, O.length = n := ⟨_, rfl⟩
  have hn2 : n ≤ 16777216 := by rw [← hn]; exact ok_len HOK.out
  have hno2 : no ≤ 16777216 := by rw [← hno]; exact ok_len HOO.out
  have A1 := Lib.hid (fun W2 => around_i (i64_of w20) (m := GW) (by omega) (by omega) W2)
  have A2 := Lib.hid (fun W2 => around_i (i64_of w21) (m := GH) (by omega) (by omega) W2)
  obtain ⟨x0, x1⟩ := Ar.around_lt a2e0 GW (by omega)
  obtain ⟨y0, y1⟩ := Ar.around_lt a2e1 GH (by omega)
  generalize Ar.around a2e0 GW = x at A1 x0 x1
  generalize Ar.around a2e1 GH = y at A2 y0 y1
  have A3 := Lib.hid (fun W2 => around_i (i64_of w22) (m := GW - x) (by omega) (by omega) W2)
  have A4 := Lib.hid (fun W2 => around_i (i64_of w23) (m := GH - y) (by omega) (by omega) W2)
  obtain ⟨u0, u1⟩ := Ar.around_lt a2e2 (GW - x) (by omega)
  obtain ⟨v0, v1⟩ := Ar.around_lt a2e3 (GH - y) (by omega)
  generalize Ar.around a2e2 (GW - x) = u at A3 u0 u1
  generalize Ar.around a2e3 (GH - y) = v at A4 v0 v1
  obtain ⟨p, hp⟩ : ∃ p, 1 + u = p := ⟨_, rfl⟩
  obtain ⟨q, hq⟩ : ∃ q, 1 + v = q := ⟨_, rfl⟩
  have c1' : IntKind.i64.wrap (GW - x) = GW - x := by rw [IntWalk.i64_in] <;> omega
  have c2' : IntKind.i64.wrap (GH - y) = GH - y := by rw [IntWalk.i64_in] <;> omega
  have c3 : IntKind.i64.wrap (1 + u) = p := by rw [hp, IntWalk.i64_in] <;> omega
  have c4 : IntKind.i64.wrap (1 + v) = q := by rw [hq, IntWalk.i64_in] <;> omega
  have X1 := Lib.hid (show Rc.insV x p GW = true by rw [Rc.insV_iff]; omega)
  have X2 := Lib.hid (show Rc.insV y q GH = true by rw [Rc.insV_iff]; omega)
  have HOP := Lib.hid (Rc.sub_ok HOK.out X1.out X2.out)
  have HF1 := Lib.hid (find_some (W := GW) (H := GH) (L := G) (w := p) (h := q) (M := Rc.subL G GW x y p q) (x := x) (y := y) (by unfold Rc.hasV; rw [X1.out, X2.out]; simp) ⟨x0, x1⟩ ⟨y0, y1⟩)
  obtain ⟨P, hP⟩ : ∃ P, Rc.subL G GW x y p q = P := ⟨_, rfl⟩
  have S1 := Lib.hid (fun (a : Option Addr) (c : Nat) h1 h2 W2 h => refSub_yes GW GH x y p q a c G HOK.out h1 h2 X1.out X2.out W2 h)
  rw [hP] at HOP HF1 S1
  rw [hn] at hG S1
  rw [hno] at hO
  have hPn := ok_len HOP.out
  have HN := Lib.hid hn
  have HNO := Lib.hid hno
  obtain ⟨t1, t2, t3, t4⟩ := start4 w (.int .i64 a0w0) (.int .i64 a0h1) (.slice a0 len0 cap0) (.int .i64 a1w0) (.int .i64 a1h1) (.slice a1 len1 cap1) 25 25 50 a2e0 a2e1 a2e2 a2e3
  have T2 := Lib.hid t2
  have T3 := Lib.hid t3
  have B := t4
  clear t1 t2 t3 t4 w00 w01 w02 w10 w11 w12 w20 w21 w22 w23 hn hno hp hq hP l2 l3 l4 m2 m3 m4
  go_enter Try.func6, Try.ntmps6
  go_upto_region 5 with (first
    | (go_at_call 12; first
      | ((with_reducible refine (hG.out _ (HSL.out.below B)).mono ?_); rintro e w1 ⟨ga, gc, rfl, ho, hc1, hc2, hb⟩; replace B := bel_step (bel_step B hb) (box1 w1 (.cells #[.int .i64 GW, .int .i64 GH, .slice ga n gc] 25)); have HGO := Lib.hid (ho.later (box1 w1 (.cells #[.int .i64 GW, .int .i64 GH, .slice ga n gc] 25))); have HGB := Lib.hid (Sb.new w1 25 (.int .i64 GW) (.int .i64 GH) (.slice ga n gc)); have U2 := Lib.hid ((T2.out.later hb).later (box1 w1 (.cells #[.int .i64 GW, .int .i64 GH, .slice ga n gc] 25))); have U3 := Lib.hid ((T3.out.later hb).later (box1 w1 (.cells #[.int .i64 GW, .int .i64 GH, .slice ga n gc] 25))); obtain ⟨d0, d1, d2⟩ := U2.out.cells; clear hb ho)
      | ((with_reducible refine (hO.out _ (HSL1.out.below B)).mono ?_); rintro e w2 ⟨oa, oc, rfl, ho, hd1, hd2, hb⟩; replace B := bel_step (bel_step B hb) (box1 w2 (.cells #[.int .i64 OW, .int .i64 OH, .slice oa no oc] 25)); have HOO2 := Lib.hid (ho.later (box1 w2 (.cells #[.int .i64 OW, .int .i64 OH, .slice oa no oc] 25))); have HOB := Lib.hid (Sb.new w2 25 (.int .i64 OW) (.int .i64 OH) (.slice oa no oc)); have HGO2 := Lib.hid ((HGO.out.later hb).later (box1 w2 (.cells #[.int .i64 OW, .int .i64 OH, .slice oa no oc] 25))); have HGB2 := Lib.hid ((HGB.out.later hb).later (box1 w2 (.cells #[.int .i64 OW, .int .i64 OH, .slice oa no oc] 25))); have U4 := Lib.hid ((U3.out.later hb).later (box1 w2 (.cells #[.int .i64 OW, .int .i64 OH, .slice oa no oc] 25))); obtain ⟨p0, p1, p2, p3⟩ := U4.out.cells; obtain ⟨g0, g1, g2⟩ := HGB2.out.cells; clear hb ho))
    | (go_at_call 22; (first | (with_reducible refine (A1.out _).mono ?_) | (with_reducible refine (A2.out _).mono ?_)); rintro e w9 ⟨rfl, rfl⟩))
  obtain ⟨W1, hW1⟩ : ∃ W1, w2.alloc (.cells #[.int .i64 OW, .int .i64 OH, .slice oa no oc] 25) = W1 := ⟨_, rfl⟩
  rw [hW1] at B HOO2 HOB HGO2 HGB2 U4 p0 p1 p2 p3 g0 g1 g2 ⊢
  have VB := Lib.hid B
  have V5 := Lib.hid (show SlK .u64 W1 ga n G by have := HGO2.out.sl; rwa [HN.out] at this)
  have V6 := Lib.hid (show SlK .u64 W1 oa no O by have := HOO2.out.sl; rwa [HNO.out] at this)
  clear hW1 B d0 d1 d2 HGO HGO2 HGB HOO2 U2 U3 T2 T3 hG hO HSL HSL1 A1 A2
  have hBt := Below.refl W1.heap.size W1
  go_cut [11, 12] (fun s11 s12 wx => ∃ nt ta tc, s11 = .pointer (some ⟨nt, 0, none⟩) ∧ s12 = .bool true ∧ Sb wx nt 25 (.int .i64 p) (.int .i64 q) (.slice ta P.length tc) ∧ SlK .u64 wx ta P.length P ∧ P.length ≤ tc ∧ tc ≤ 9223372036854775807 ∧ Below W1.heap.size W1 wx)
  case first =>
    go_region_held3 (fun w' => w'.cell? ⟨w1.heap.size, 0, none⟩ = some (.int .i64 GW) ∧ w'.cell? ⟨w1.heap.size, 1, none⟩ = some (.int .i64 GH) ∧ w'.cell? ⟨w1.heap.size, 2, none⟩ = some (.slice ga n gc) ∧ w'.cell? ⟨w.heap.size + 1 + 1, 2, none⟩ = some (.int .i64 a2e2) ∧ w'.cell? ⟨w.heap.size + 1 + 1, 3, none⟩ = some (.int .i64 a2e3))
      (first | exact ⟨g0, g1, g2, p2, p3⟩ | exact ⟨cell_later (by repeat' (first | (with_reducible exact hBt) | (with_reducible refine Below.alloc ?_ ?_ _) | (with_reducible refine Below.drew ?_) | (with_reducible refine below_drewN ?_ _) | (with_reducible refine Below.setCell ?_ ?_ _) | exact hBt.size | (have := hBt.size; first | omega | (simp; done) | (simp; omega)))) g0, cell_later (by repeat' (first | (with_reducible exact hBt) | (with_reducible refine Below.alloc ?_ ?_ _) | (with_reducible refine Below.drew ?_) | (with_reducible refine below_drewN ?_ _) | (with_reducible refine Below.setCell ?_ ?_ _) | exact hBt.size | (have := hBt.size; first | omega | (simp; done) | (simp; omega)))) g1, cell_later (by repeat' (first | (with_reducible exact hBt) | (with_reducible refine Below.alloc ?_ ?_ _) | (with_reducible refine Below.drew ?_) | (with_reducible refine below_drewN ?_ _) | (with_reducible refine Below.setCell ?_ ?_ _) | exact hBt.size | (have := hBt.size; first | omega | (simp; done) | (simp; omega)))) g2, cell_later (by repeat' (first | (with_reducible exact hBt) | (with_reducible refine Below.alloc ?_ ?_ _) | (with_reducible refine Below.drew ?_) | (with_reducible refine below_drewN ?_ _) | (with_reducible refine Below.setCell ?_ ?_ _) | exact hBt.size | (have := hBt.size; first | omega | (simp; done) | (simp; omega)))) p2, cell_later (by repeat' (first | (with_reducible exact hBt) | (with_reducible refine Below.alloc ?_ ?_ _) | (with_reducible refine Below.drew ?_) | (with_reducible refine below_drewN ?_ _) | (with_reducible refine Below.setCell ?_ ?_ _) | exact hBt.size | (have := hBt.size; first | omega | (simp; done) | (simp; omega)))) p3⟩)
      (first
        | (go_at_call 22; (first | (with_reducible refine (A3.out _).mono ?_) | (with_reducible refine (A4.out _).mono ?_)); rintro e w9 ⟨rfl, rfl⟩)
        | (go_at_call 30; refine (S1.out _ _ hc1 hc2 _ (V5.out.below (by repeat' (first | (with_reducible exact hBt) | (with_reducible refine Below.alloc ?_ ?_ _) | (with_reducible refine Below.drew ?_) | (with_reducible refine below_drewN ?_ _) | (with_reducible refine Below.setCell ?_ ?_ _) | exact hBt.size | (have := hBt.size; first | omega | (simp; done) | (simp; omega)))))).mono ?_; rintro e w9 ⟨⟨ta, tc, rfl, ho, hl, hm⟩, hb9⟩; replace hBt := bel_step (w := W1) (by repeat' (first | (with_reducible exact hBt) | (with_reducible refine Below.alloc ?_ ?_ _) | (with_reducible refine Below.drew ?_) | (with_reducible refine below_drewN ?_ _) | (with_reducible refine Below.setCell ?_ ?_ _) | exact hBt.size | (have := hBt.size; first | omega | (simp; done) | (simp; omega)))) hb9; have hsz9 := hBt.size; (try (have hnl9 := hNB.lt)); (try replace hNB := hNB.later hb9); (try ((first | have hNB := Sb.later (Sb.new _ _ _ _ _) hb9 | have hNB := Sb.later (Sb.drew (Sb.new _ _ _ _ _)) hb9); (try simp only [World.size_drew, size_drewN'] at hNB))); (try (obtain ⟨z0, z1, z2⟩ := hNB.cells)); (try (obtain ⟨y0, y1, y2⟩ := hNB.fr))))
    all_goals
      go_wp2_with fail
      go_meet
      case rel =>
        first
          | exact ⟨_, _, _, rfl, rfl, Sb.new _ _ _ _ _, (ho.later (box1 _ _)).sl, hl, hm, (by repeat' (first | (with_reducible exact hBt) | (with_reducible refine Below.alloc ?_ ?_ _) | (with_reducible refine Below.drew ?_) | (with_reducible refine below_drewN ?_ _) | (with_reducible refine Below.setCell ?_ ?_ _) | exact hBt.size | (have := hBt.size; first | omega | (simp; done) | (simp; omega))))⟩
          | exact ⟨_, _, _, rfl, rfl, hNB.put _ _ _, (ownK_set (ownK_set (ownK_set ho (by first | (simp; done) | (simp; omega)) _) (by first | (simp; done) | (simp; omega)) _) (by first | (simp; done) | (simp; omega)) _).sl, hl, hm, (by repeat' (first | (with_reducible exact hBt) | (with_reducible refine Below.alloc ?_ ?_ _) | (with_reducible refine Below.drew ?_) | (with_reducible refine below_drewN ?_ _) | (with_reducible refine Below.setCell ?_ ?_ _) | exact hBt.size | (have := hBt.size; first | omega | (simp; done) | (simp; omega))))⟩
  case rest =>
    obtain ⟨nt, ta, tc, rfl, rfl, hNT, hST, ht1, ht2, hBx⟩ := hcut
    have VT := Lib.hid hNT
    have VTS := Lib.hid hST
    have VX := Lib.hid hBx
    obtain ⟨t0, t1, t2⟩ := hNT.cells
    obtain ⟨o0, o1, o2⟩ := (HOB.out.later hBx).cells
    clear hNT hST hBx hBt p0 p1 p2 p3 g0 g1 g2 x0 x1 y0 y1 u0 u1 v0 v1 c1' c2' c3 c4 A3 A4 S1 gw1 gw2 gh1 gh2 ow1 ow2 oh1 oh2
    go_wp2
    have KB := bel_step VX.out (box1 wc (.cells #[.int .i64 OW, .int .i64 OH, .slice oa no oc, .int .i64 p, .int .i64 q, .slice ta P.length tc] 25))
    have KG := Lib.hid (HGB2.out.later KB)
    have K5 := Lib.hid (V5.out.below KB)
    have K6 := Lib.hid (V6.out.below KB)
    have K7 := Lib.hid (VTS.out.below (box1 wc (.cells #[.int .i64 OW, .int .i64 OH, .slice oa no oc, .int .i64 p, .int .i64 q, .slice ta P.length tc] 25)))
    have KB2 := Lib.hid (bel_step (w := w) VB.out KB)
    have K8 : (wc.alloc (.cells #[.int .i64 OW, .int .i64 OH, .slice oa no oc, .int .i64 p, .int .i64 q, .slice ta P.length tc] 25)).heap[wc.heap.size]? = some (.cells #[.int .i64 OW, .int .i64 OH, .slice oa no oc, .int .i64 p, .int .i64 q, .slice ta P.length tc] 25) := heapNew _ _
    obtain ⟨W3, hW3⟩ : ∃ W3, wc.alloc (.cells #[.int .i64 OW, .int .i64 OH, .slice oa no oc, .int .i64 p, .int .i64 q, .slice ta P.length tc] 25) = W3 := ⟨_, rfl⟩
    rw [hW3] at KG K5 K6 K7 KB2 K8 ⊢
    have K9 := Lib.hid K8
    clear KB hW3 K8 t0 t1 t2 o0 o1 o2
    go_loopg [14] 2 (fun g s14 wr => ∃ k : Nat, k + g = 2 ∧ s14 = .int .i64 k ∧ Below W3.heap.size W3 wr)
    case atStart => exact ⟨0, rfl, rfl, Below.refl _ _⟩
    case round =>
      obtain ⟨k, hk, rfl, hBr⟩ := hrel
      cases gk with
      | zero =>
        obtain rfl : k = 2 := by omega
        go_wp2_with (go_at_call 21; refine (lives_any _).mono ?_; rintro e w9 ⟨rfl, hb9⟩; have hBt := bel_step hBr hb9)
        go_ret
        exact ⟨rfl, bel_step KB2.out hBt⟩
      | succ g =>
        obtain ⟨MW, MH, ma, mc, ML, z0', z1', z2', hok, hsl, hm1, hm2, hne⟩ : ∃ MW MH ma mc ML, wr.cell? ⟨wc.heap.size, k * 3, none⟩ = some (.int .i64 MW) ∧ wr.cell? ⟨wc.heap.size, k * 3 + 1, none⟩ = some (.int .i64 MH) ∧ wr.cell? ⟨wc.heap.size, k * 3 + 2, none⟩ = some (.slice ma (List.length ML) mc) ∧ Rc.Ok MW MH ML ∧ SlK .u64 W3 ma ML.length ML ∧ ML.length ≤ mc ∧ mc ≤ 9223372036854775807 ∧ (k = 1 → (Rc.findV GW GH G MW MH ML).length ≠ 0) := by
          have h8 : wr.heap[wc.heap.size]? = some (.cells #[.int .i64 OW, .int .i64 OH, .slice oa no oc, .int .i64 p, .int .i64 q, .slice ta P.length tc] 25) := (hBr.block _ (Array.getElem?_eq_some_iff.1 K9.out).1).trans K9.out
          have : k = 0 ∨ k = 1 := by omega
          rcases this with rfl | rfl
          · exact ⟨OW, OH, oa, oc, O, by simp [World.cell?, h8], by simp [World.cell?, h8], by simp [World.cell?, h8, HNO.out], HOO.out, by rw [HNO.out]; exact K6.out, by rw [HNO.out]; exact hd1, hd2, fun h => by cases h⟩
          · exact ⟨p, q, ta, tc, P, by simp [World.cell?, h8], by simp [World.cell?, h8], by simp [World.cell?, h8], HOP.out, K7.out, ht1, ht2, fun _ => HF1.out⟩
        have C1 := Lib.hid (fun W2 h1 h2 => find_any GW GH MW MH ga ma gc mc G ML HOK.out hok (by rw [HN.out]; exact hc1) hc2 hm1 hm2 W2 h1 h2)
        have C2 := Lib.hid (fun W2 h1 h2 => refFind_any GW GH MW MH ga ma gc mc G ML HOK.out hok (by rw [HN.out]; exact hc1) hc2 hm1 hm2 W2 h1 h2)
        rw [HN.out] at C1 C2
        generalize Rc.findV GW GH G MW MH ML = F at C1 C2 hne
        have HNE := Lib.hid hne
        obtain ⟨nm, hnm⟩ : ∃ nm, ML.length = nm := ⟨_, rfl⟩
        rw [hnm] at C1 C2 z2' hsl
        have R5 := Lib.hid (K5.out.below hBr)
        have R7 := Lib.hid (hsl.below hBr)
        have RB := Lib.hid hBr
        have i0 : (0 : Int) ≤ (k : Int) := Int.natCast_nonneg _
        have i1 : (k : Int) < 2 := by omega
        obtain ⟨g0, g1, g2⟩ := (KG.out.later hBr).cells
        have hBt := Below.refl wr.heap.size wr
        clear hne hnm hsl hBr hok hm1 hm2
        go_wp2
        go_region_held3 (fun w' => w'.cell? ⟨w1.heap.size, 0, none⟩ = some (.int .i64 GW) ∧ w'.cell? ⟨w1.heap.size, 1, none⟩ = some (.int .i64 GH) ∧ w'.cell? ⟨w1.heap.size, 2, none⟩ = some (.slice ga n gc) ∧ w'.cell? ⟨wc.heap.size, k * 3, none⟩ = some (.int .i64 MW) ∧ w'.cell? ⟨wc.heap.size, k * 3 + 1, none⟩ = some (.int .i64 MH) ∧ w'.cell? ⟨wc.heap.size, k * 3 + 2, none⟩ = some (.slice ma nm mc))
          (first | exact ⟨g0, g1, g2, z0', z1', z2'⟩ | exact ⟨cell_later (by repeat' (first | (with_reducible exact hBt) | (with_reducible refine Below.alloc ?_ ?_ _) | (with_reducible refine Below.drew ?_) | (with_reducible refine below_drewN ?_ _) | (with_reducible refine Below.setCell ?_ ?_ _) | exact hBt.size | (have := hBt.size; first | omega | (simp; done) | (simp; omega)))) g0, cell_later (by repeat' (first | (with_reducible exact hBt) | (with_reducible refine Below.alloc ?_ ?_ _) | (with_reducible refine Below.drew ?_) | (with_reducible refine below_drewN ?_ _) | (with_reducible refine Below.setCell ?_ ?_ _) | exact hBt.size | (have := hBt.size; first | omega | (simp; done) | (simp; omega)))) g1, cell_later (by repeat' (first | (with_reducible exact hBt) | (with_reducible refine Below.alloc ?_ ?_ _) | (with_reducible refine Below.drew ?_) | (with_reducible refine below_drewN ?_ _) | (with_reducible refine Below.setCell ?_ ?_ _) | exact hBt.size | (have := hBt.size; first | omega | (simp; done) | (simp; omega)))) g2, cell_later (by repeat' (first | (with_reducible exact hBt) | (with_reducible refine Below.alloc ?_ ?_ _) | (with_reducible refine Below.drew ?_) | (with_reducible refine below_drewN ?_ _) | (with_reducible refine Below.setCell ?_ ?_ _) | exact hBt.size | (have := hBt.size; first | omega | (simp; done) | (simp; omega)))) z0', cell_later (by repeat' (first | (with_reducible exact hBt) | (with_reducible refine Below.alloc ?_ ?_ _) | (with_reducible refine Below.drew ?_) | (with_reducible refine below_drewN ?_ _) | (with_reducible refine Below.setCell ?_ ?_ _) | exact hBt.size | (have := hBt.size; first | omega | (simp; done) | (simp; omega)))) z1', cell_later (by repeat' (first | (with_reducible exact hBt) | (with_reducible refine Below.alloc ?_ ?_ _) | (with_reducible refine Below.drew ?_) | (with_reducible refine below_drewN ?_ _) | (with_reducible refine Below.setCell ?_ ?_ _) | exact hBt.size | (have := hBt.size; first | omega | (simp; done) | (simp; omega)))) z2'⟩)
          (first
            | (go_at_call 25; refine (of_any _ _ _ _ _ _).mono ?_; rintro e w9 ⟨rfl, hb9⟩; replace hBt := bel_step (w := wr) (by repeat' (first | (with_reducible exact hBt) | (with_reducible refine Below.alloc ?_ ?_ _) | (with_reducible refine Below.drew ?_) | (with_reducible refine below_drewN ?_ _) | (with_reducible refine Below.setCell ?_ ?_ _) | exact hBt.size | (have := hBt.size; first | omega | (simp; done) | (simp; omega)))) hb9; have hsz9 := hBt.size)
            | (go_at_call 33; refine (C1.out _ (R5.out.below (by repeat' (first | (with_reducible exact hBt) | (with_reducible refine Below.alloc ?_ ?_ _) | (with_reducible refine Below.drew ?_) | (with_reducible refine below_drewN ?_ _) | (with_reducible refine Below.setCell ?_ ?_ _) | exact hBt.size | (have := hBt.size; first | omega | (simp; done) | (simp; omega))))) (R7.out.below (by repeat' (first | (with_reducible exact hBt) | (with_reducible refine Below.alloc ?_ ?_ _) | (with_reducible refine Below.drew ?_) | (with_reducible refine below_drewN ?_ _) | (with_reducible refine Below.setCell ?_ ?_ _) | exact hBt.size | (have := hBt.size; first | omega | (simp; done) | (simp; omega)))))).mono ?_; rintro e Y1 ⟨v1, rfl, ho1, hb9⟩; replace hBt := bel_step (w := wr) (by repeat' (first | (with_reducible exact hBt) | (with_reducible refine Below.alloc ?_ ?_ _) | (with_reducible refine Below.drew ?_) | (with_reducible refine below_drewN ?_ _) | (with_reducible refine Below.setCell ?_ ?_ _) | exact hBt.size | (have := hBt.size; first | omega | (simp; done) | (simp; omega)))) hb9; have hsz9 := hBt.size))
        have O1 := Lib.hid ho1
        have VY1 := Lib.hid hBt
        obtain ⟨g0, g1, g2⟩ := (KG.out.later (bel_step RB.out hBt)).cells
        replace z0' := cell_later hBt z0'
        replace z1' := cell_later hBt z1'
        replace z2' := cell_later hBt z2'
        have Q5 := Lib.hid (R5.out.below hBt)
        have Q7 := Lib.hid (R7.out.below hBt)
        clear ho1 hBt
        have hBt := Below.refl Y1.heap.size Y1
        obtain ⟨ad1, cp1, hv1⟩ := ownsRow_val O1.out
        subst hv1
        go_wp2
        go_region_held3 (fun w' => w'.cell? ⟨w1.heap.size, 0, none⟩ = some (.int .i64 GW) ∧ w'.cell? ⟨w1.heap.size, 1, none⟩ = some (.int .i64 GH) ∧ w'.cell? ⟨w1.heap.size, 2, none⟩ = some (.slice ga n gc) ∧ w'.cell? ⟨wc.heap.size, k * 3, none⟩ = some (.int .i64 MW) ∧ w'.cell? ⟨wc.heap.size, k * 3 + 1, none⟩ = some (.int .i64 MH) ∧ w'.cell? ⟨wc.heap.size, k * 3 + 2, none⟩ = some (.slice ma nm mc))
          (first | exact ⟨g0, g1, g2, z0', z1', z2'⟩ | exact ⟨cell_later (by repeat' (first | (with_reducible exact hBt) | (with_reducible refine Below.alloc ?_ ?_ _) | (with_reducible refine Below.drew ?_) | (with_reducible refine below_drewN ?_ _) | (with_reducible refine Below.setCell ?_ ?_ _) | exact hBt.size | (have := hBt.size; first | omega | (simp; done) | (simp; omega)))) g0, cell_later (by repeat' (first | (with_reducible exact hBt) | (with_reducible refine Below.alloc ?_ ?_ _) | (with_reducible refine Below.drew ?_) | (with_reducible refine below_drewN ?_ _) | (with_reducible refine Below.setCell ?_ ?_ _) | exact hBt.size | (have := hBt.size; first | omega | (simp; done) | (simp; omega)))) g1, cell_later (by repeat' (first | (with_reducible exact hBt) | (with_reducible refine Below.alloc ?_ ?_ _) | (with_reducible refine Below.drew ?_) | (with_reducible refine below_drewN ?_ _) | (with_reducible refine Below.setCell ?_ ?_ _) | exact hBt.size | (have := hBt.size; first | omega | (simp; done) | (simp; omega)))) g2, cell_later (by repeat' (first | (with_reducible exact hBt) | (with_reducible refine Below.alloc ?_ ?_ _) | (with_reducible refine Below.drew ?_) | (with_reducible refine below_drewN ?_ _) | (with_reducible refine Below.setCell ?_ ?_ _) | exact hBt.size | (have := hBt.size; first | omega | (simp; done) | (simp; omega)))) z0', cell_later (by repeat' (first | (with_reducible exact hBt) | (with_reducible refine Below.alloc ?_ ?_ _) | (with_reducible refine Below.drew ?_) | (with_reducible refine below_drewN ?_ _) | (with_reducible refine Below.setCell ?_ ?_ _) | exact hBt.size | (have := hBt.size; first | omega | (simp; done) | (simp; omega)))) z1', cell_later (by repeat' (first | (with_reducible exact hBt) | (with_reducible refine Below.alloc ?_ ?_ _) | (with_reducible refine Below.drew ?_) | (with_reducible refine below_drewN ?_ _) | (with_reducible refine Below.setCell ?_ ?_ _) | exact hBt.size | (have := hBt.size; first | omega | (simp; done) | (simp; omega)))) z2'⟩)
          (first
            | (go_at_call 34; refine (C2.out _ (Q5.out.below (by repeat' (first | (with_reducible exact hBt) | (with_reducible refine Below.alloc ?_ ?_ _) | (with_reducible refine Below.drew ?_) | (with_reducible refine below_drewN ?_ _) | (with_reducible refine Below.setCell ?_ ?_ _) | exact hBt.size | (have := hBt.size; first | omega | (simp; done) | (simp; omega))))) (Q7.out.below (by repeat' (first | (with_reducible exact hBt) | (with_reducible refine Below.alloc ?_ ?_ _) | (with_reducible refine Below.drew ?_) | (with_reducible refine below_drewN ?_ _) | (with_reducible refine Below.setCell ?_ ?_ _) | exact hBt.size | (have := hBt.size; first | omega | (simp; done) | (simp; omega)))))).mono ?_; rintro e Y2 ⟨v2, rfl, ho2, hb9⟩; replace hBt := bel_step (w := Y1) (by repeat' (first | (with_reducible exact hBt) | (with_reducible refine Below.alloc ?_ ?_ _) | (with_reducible refine Below.drew ?_) | (with_reducible refine below_drewN ?_ _) | (with_reducible refine Below.setCell ?_ ?_ _) | exact hBt.size | (have := hBt.size; first | omega | (simp; done) | (simp; omega)))) hb9; have hsz9 := hBt.size))
        have O2 := Lib.hid ho2
        have O3 := Lib.hid (ownsRow_later O1.out hBt)
        have RC := Lib.hid (bel_step (w := W3) (bel_step RB.out VY1.out) hBt)
        clear ho2 hBt z0' z1' z2' g0 g1 g2
        by_cases hF0 : F.length = 0
        · have hk1 : ((k : Int) == 1) = false := by
            rw [beq_eq_false_iff_ne]; intro e; exact HNE.out (by omega) hF0
          obtain ⟨ad2, cp2, hv2⟩ := ownsRow_val O2.out
          subst hv2
          go_wp2
          refine wp_loop_rounds 1 ?_
          rw [rounds_succ]
          go_wp2
          go_roundg g
          case measure => omega
          case rel => exact ⟨k + 1, by omega, by go_num, RC.out⟩
        · obtain ⟨b1, cq1, hv1⟩ := ownsRow_pos O3.out (by omega)
          obtain ⟨b2, cq2, hv2⟩ := ownsRow_pos O2.out (by omega)
          subst hv2
          injection hv1 with hv1 _ _
          subst hv1
          have hl0 : ((F.length : Int) == 0) = false := by rw [beq_eq_false_iff_ne]; omega
          have O4 := Lib.hid O3.out
          have hF9 := ownsRow_max O2.out
          obtain ⟨nF, hnF⟩ : ∃ nF, F.length = nF := ⟨_, rfl⟩
          have HNF := Lib.hid hnF
          rw [hnF] at hl0 hF0 hF9 ⊢
          clear hnF
          have HF9 := Lib.hid hF9
          clear hF9 hc1 hc2 hd1 hd2 ht1 ht2 hPn hsz9
          cases hk1 : ((k : Int) == 1)
          all_goals
            go_wp2
            go_loopg [17] nF (fun g2 s17 wx => ∃ (j q : Nat), j + g2 = nF ∧ s17 = .int .i64 j ∧ wx = Y2.drewN q)
            case atStart => exact ⟨0, 0, by omega, rfl, rfl⟩
            case round =>
              obtain ⟨j, q9, hj, rfl, rfl⟩ := hrel
              cases gk with
              | zero =>
                obtain rfl : j = nF := by omega
                go_wp2
                go_roundg g
                case measure => omega
                case rel => exact ⟨k + 1, by omega, by go_num, bel_drewN RC.out _⟩
              | succ g2 =>
                have hj1 : (j : Int) < (nF : Int) := st_lti hj
                have hj2 : wrap64 ((j : Int) + 1) = (j : Int) + 1 := st_wrap hj HF9.out
                have hj0 : (0 : Int) ≤ (j : Int) := Int.natCast_nonneg _
                obtain ⟨e1, e2⟩ := pairs_cells O4.out (i := j) (by rw [HNF.out]; exact st_lt hj)
                obtain ⟨f1, f2⟩ := pairs_cells O2.out (i := j) (by rw [HNF.out]; exact st_lt hj)
                generalize F.getD j (0, 0) = ef at e1 e2 f1 f2
                obtain ⟨e, f⟩ := ef
                simp only at e1 e2 f1 f2
                have PN := pair_neq e f
                have PG := pair_guard
                go_wp2_with (go_quiet (fail))
                go_roundg g2
                case measure => first | exact Nat.lt_succ_self _ | omega
                case rel => exact ⟨j + 1, _, st_one hj, (congrArg (Value.int .i64) hj2).trans (st_num j), rfl⟩
end Go.Proofs.Ytfgfpnflabmaeaa
