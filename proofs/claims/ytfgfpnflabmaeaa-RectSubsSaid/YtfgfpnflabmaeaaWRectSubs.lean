/- RectSubs: a part of a part is a part: the walk of the law. No condition. -/
import Derived.Test.YtfgfpnflabmaeaaRecQ
namespace Go.Proofs.Ytfgfpnflabmaeaa
open Go.RowKit
set_option linter.unusedVariables false

set_option maxRecDepth 100000 in
set_option maxHeartbeats 8000000 in
theorem rectSubs_walk (a0w0 a0h1 : Int) (a0 : Option Addr) (len0 cap0 : Nat) (z0 : List Int) (a1e0 a1e1 a1e2 a1e3 : Int) (a2e0 a2e1 a2e2 a2e3 : Int) (w : World) (w00 : (Lit.int .i64 a0w0).wf = true) (w01 : (Lit.int .i64 a0h1).wf = true) (w02 : IsRow .u64 w a0 len0 cap0 z0) (w10 : (Lit.int .i64 a1e0).wf = true) (w11 : (Lit.int .i64 a1e1).wf = true) (w12 : (Lit.int .i64 a1e2).wf = true) (w13 : (Lit.int .i64 a1e3).wf = true) (w20 : (Lit.int .i64 a2e0).wf = true) (w21 : (Lit.int .i64 a2e1).wf = true) (w22 : (Lit.int .i64 a2e2).wf = true) (w23 : (Lit.int .i64 a2e3).wf = true) :
    Calls Try.prog 9 #[.agg #[.int .i64 a0w0, .int .i64 a0h1, .slice a0 len0 cap0], .agg #[.int .i64 a1e0, .int .i64 a1e1, .int .i64 a1e2, .int .i64 a1e3], .agg #[.int .i64 a2e0, .int .i64 a2e1, .int .i64 a2e2, .int .i64 a2e3]] w fun e w' => e = .returned (.bool true) ∧ Below w.heap.size w w' := by
  obtain ⟨l1, l2, l3, l4⟩ := isrow_len w02
  have hG := Lib.hid (fun W2 h => good_any a0w0 a0h1 8 a0 len0 cap0 (z0.take len0) (i64_of w00) (i64_of w01) (by omega) (by omega) l1 W2 h (px_take w02 len0))
  have HSL := Lib.hid (row_slk w02)
  have HOK := Lib.hid (good_ok a0w0 a0h1 8 (z0.take len0) (by omega) (by omega))
  obtain ⟨gw1, gw2⟩ := goodW_in a0w0 8 (by omega)
  obtain ⟨gh1, gh2⟩ := goodW_in a0h1 8 (by omega)
  generalize goodW a0w0 8 = GW at hG HOK gw1 gw2
  generalize goodW a0h1 8 = GH at hG HOK gh1 gh2
  generalize goodM a0w0 a0h1 8 (z0.take len0) = G at hG HOK
  have A1 := Lib.hid (fun W2 => around_i (i64_of w10) (m := GW) (by omega) (by omega) W2)
  have A2 := Lib.hid (fun W2 => around_i (i64_of w11) (m := GH) (by omega) (by omega) W2)
  obtain ⟨x0, x1⟩ := Ar.around_lt a1e0 GW (by omega)
  obtain ⟨y0, y1⟩ := Ar.around_lt a1e1 GH (by omega)
  generalize Ar.around a1e0 GW = x at A1 x0 x1
  generalize Ar.around a1e1 GH = y at A2 y0 y1
  have A3 := Lib.hid (fun W2 => around_i (i64_of w12) (m := GW - x) (by omega) (by omega) W2)
  have A4 := Lib.hid (fun W2 => around_i (i64_of w13) (m := GH - y) (by omega) (by omega) W2)
  obtain ⟨u0, u1⟩ := Ar.around_lt a1e2 (GW - x) (by omega)
  obtain ⟨v0, v1⟩ := Ar.around_lt a1e3 (GH - y) (by omega)
  generalize Ar.around a1e2 (GW - x) = u at A3 u0 u1
  generalize Ar.around a1e3 (GH - y) = v at A4 v0 v1
  obtain ⟨p, hp⟩ : ∃ p, 1 + u = p := ⟨_, rfl⟩
  obtain ⟨q, hq⟩ : ∃ q, 1 + v = q := ⟨_, rfl⟩
  have A5 := Lib.hid (fun W2 => around_i (i64_of w20) (m := p) (by omega) (by omega) W2)
  have A6 := Lib.hid (fun W2 => around_i (i64_of w21) (m := q) (by omega) (by omega) W2)
  obtain ⟨i0, i1⟩ := Ar.around_lt a2e0 p (by omega)
  obtain ⟨k0, k1⟩ := Ar.around_lt a2e1 q (by omega)
  generalize Ar.around a2e0 p = i at A5 i0 i1
  generalize Ar.around a2e1 q = k at A6 k0 k1
  have A7 := Lib.hid (fun W2 => around_i (i64_of w22) (m := p - i) (by omega) (by omega) W2)
  have A8 := Lib.hid (fun W2 => around_i (i64_of w23) (m := q - k) (by omega) (by omega) W2)
  obtain ⟨g0', g1'⟩ := Ar.around_lt a2e2 (p - i) (by omega)
  obtain ⟨h0', h1'⟩ := Ar.around_lt a2e3 (q - k) (by omega)
  generalize Ar.around a2e2 (p - i) = r at A7 g0' g1'
  generalize Ar.around a2e3 (q - k) = t at A8 h0' h1'
  obtain ⟨sw, hsw⟩ : ∃ sw, 1 + r = sw := ⟨_, rfl⟩
  obtain ⟨sh, hsh⟩ : ∃ sh, 1 + t = sh := ⟨_, rfl⟩
  have csw : wrap64 sw = sw := by rw [IntWalk.wrap64_in] <;> omega
  have csh : wrap64 sh = sh := by rw [IntWalk.wrap64_in] <;> omega
  have c1 : wrap64 (GW - x) = GW - x := by rw [IntWalk.wrap64_in] <;> omega
  have c2 : wrap64 (GH - y) = GH - y := by rw [IntWalk.wrap64_in] <;> omega
  have c1' : IntKind.i64.wrap (GW - x) = GW - x := by rw [IntWalk.i64_in] <;> omega
  have c2' : IntKind.i64.wrap (GH - y) = GH - y := by rw [IntWalk.i64_in] <;> omega
  have c3 : IntKind.i64.wrap (1 + u) = p := by rw [hp, IntWalk.i64_in] <;> omega
  have c4 : IntKind.i64.wrap (1 + v) = q := by rw [hq, IntWalk.i64_in] <;> omega
  have c5 : wrap64 (p - i) = p - i := by rw [IntWalk.wrap64_in] <;> omega
  have c6 : wrap64 (q - k) = q - k := by rw [IntWalk.wrap64_in] <;> omega
  have c7 : wrap64 (x + i) = x + i := by rw [IntWalk.wrap64_in] <;> omega
  have c8 : wrap64 (y + k) = y + k := by rw [IntWalk.wrap64_in] <;> omega
  have c7' : IntKind.i64.wrap (x + i) = x + i := by rw [IntWalk.i64_in] <;> omega
  have c8' : IntKind.i64.wrap (y + k) = y + k := by rw [IntWalk.i64_in] <;> omega
  have X1 := Lib.hid (show Rc.insV x p GW = true by rw [Rc.insV_iff]; omega)
  have X2 := Lib.hid (show Rc.insV y q GH = true by rw [Rc.insV_iff]; omega)
  have X3 := Lib.hid (show Rc.insV i sw p = true by rw [Rc.insV_iff]; omega)
  have X4 := Lib.hid (show Rc.insV k sh q = true by rw [Rc.insV_iff]; omega)
  have X5 := Lib.hid (show Rc.insV (x + i) sw GW = true by rw [Rc.insV_iff]; omega)
  have X6 := Lib.hid (show Rc.insV (y + k) sh GH = true by rw [Rc.insV_iff]; omega)
  have HSS := Lib.hid (Rc.sub_sub HOK.out X1.out X2.out X3.out X4.out)
  have HOP := Lib.hid (Rc.sub_ok HOK.out X1.out X2.out)
  have HOS := Lib.hid (Rc.sub_ok HOK.out X5.out X6.out)
  obtain ⟨P, hP⟩ : ∃ P, Rc.subL G GW x y p q = P := ⟨_, rfl⟩
  obtain ⟨S, hS⟩ : ∃ S, Rc.subL G GW (x + i) (y + k) sw sh = S := ⟨_, rfl⟩
  rw [hP, hS] at HSS
  rw [hP] at HOP
  rw [hS] at HOS
  obtain ⟨n, hn⟩ : ∃ n, G.length = n := ⟨_, rfl⟩
  have hn2 : n ≤ 16777216 := by rw [← hn]; exact ok_len HOK.out
  have hPl := HOP.out.2.2.2.2.2
  have hSl := HOS.out.2.2.2.2.2
  obtain ⟨np, hnp⟩ : ∃ np, q.toNat * p.toNat = np := ⟨_, rfl⟩
  obtain ⟨ns, hns⟩ : ∃ ns, sh.toNat * sw.toNat = ns := ⟨_, rfl⟩
  have hnp2 : np ≤ 16777216 := by rw [← hnp, ← hPl]; exact ok_len HOP.out
  have hns2 : ns ≤ 16777216 := by rw [← hns, ← hSl]; exact ok_len HOS.out
  rw [hnp] at hPl
  rw [hns] at hSl
  have S1 := Lib.hid (fun (a : Option Addr) (c : Nat) h1 h2 W2 h3 => sub_yes GW GH x y p q a c G HOK.out h1 h2 X1.out X2.out W2 h3)
  have S2 := Lib.hid (fun (a : Option Addr) (c : Nat) h1 h2 W2 h3 => sub_yes p q i k sw sh a c P HOP.out h1 h2 X3.out X4.out W2 h3)
  have S3 := Lib.hid (fun (a : Option Addr) (c : Nat) h1 h2 W2 h3 => sub_yes GW GH (x + i) (y + k) sw sh a c G HOK.out h1 h2 X5.out X6.out W2 h3)
  have M1 := Lib.hid (fun (a : Option Addr) (W2 : World) => may_any p q a P.length np (by omega) W2)
  rw [Rc.ok_may HOP.out] at M1
  have HB1 := Lib.hid (fun (a a2 : Option Addr) W2 h1 h2 => same_any sw sh sw sh a a2 ns ns ns ns S S W2 (by omega) h1 h2)
  have HH1 := Lib.hid (fun (a a2 : Option Addr) (c : Nat) h1 h2 W2 h3 h4 => has_any GW GH sw sh (x + i) (y + k) a a2 c ns G S HOK.out HOS.out h1 h2 (by omega) (by omega) W2 h3 h4)
  rw [show Rc.hasV GW GH G sw sh S (x + i) (y + k) = true by unfold Rc.hasV; rw [X5.out, X6.out, hS]; simp] at HH1
  rw [show (decide (sw = sw) && (decide (sh = sh) && decide (S = S))) = true by simp] at HB1
  rw [hP, hnp] at S1
  rw [HSS.out, hns] at S2
  rw [hS, hns] at S3
  rw [hPl] at S2 M1
  rw [hSl] at HH1
  rw [hn] at hG S1 S3 HH1
  have HPL := Lib.hid hPl
  have HSL2 := Lib.hid hSl
  have HN := Lib.hid hn
  obtain ⟨t1, t2, t3, t4⟩ := start3 w (.cells #[.int .i64 a0w0, .int .i64 a0h1, .slice a0 len0 cap0] 25) (.int .i64 a0w0) (.int .i64 a0h1) (.slice a0 len0 cap0) 25 50 50 a1e0 a1e1 a1e2 a1e3 a2e0 a2e1 a2e2 a2e3
  have T1 := Lib.hid t1
  have T2 := Lib.hid t2
  have T3 := Lib.hid t3
  have B := t4
  clear t1 t2 t3 t4 w00 w01 w02 w10 w11 w12 w13 w20 w21 w22 w23 hP hS hn hPl hSl hnp hns hp hq
  go_enter Try.func9, Try.ntmps9
  go_upto_region 4 with (first
    | (go_at_call 12; refine (hG.out _ (HSL.out.below B)).mono ?_; rintro e w1 ⟨ga, gc, rfl, ho, hc1, hc2, hb⟩; replace B := bel_step B hb; have HGO := Lib.hid ho; have U2 := Lib.hid (T2.out.later hb); have U3 := Lib.hid (T3.out.later hb); obtain ⟨p0, p1, p2, p3⟩ := (U2.out.later (box1 w1 (.cells #[.int .i64 GW, .int .i64 GH, .slice ga n gc] 25))).cells; clear hb ho)
    | (go_at_call 22; (first | (with_reducible refine (A1.out _).mono ?_) | (with_reducible refine (A2.out _).mono ?_)); rintro e w9 ⟨rfl, rfl⟩))
  have U4 : Sb (w1.alloc (.cells #[.int .i64 GW, .int .i64 GH, .slice ga n gc] 25)) w1.heap.size 25 (.int .i64 GW) (.int .i64 GH) (.slice ga n gc) := Sb.new _ _ _ _ _
  have U5 : SlK .u64 (w1.alloc (.cells #[.int .i64 GW, .int .i64 GH, .slice ga n gc] 25)) ga n G := by have := (HGO.out.later (box1 w1 (.cells #[.int .i64 GW, .int .i64 GH, .slice ga n gc] 25))).sl; rwa [HN.out] at this
  have U6 := U2.out.later (box1 w1 (.cells #[.int .i64 GW, .int .i64 GH, .slice ga n gc] 25))
  have U7 := U3.out.later (box1 w1 (.cells #[.int .i64 GW, .int .i64 GH, .slice ga n gc] 25))
  have B1 := bel_step B (box1 w1 (.cells #[.int .i64 GW, .int .i64 GH, .slice ga n gc] 25))
  obtain ⟨W1, hW1⟩ : ∃ W1, w1.alloc (.cells #[.int .i64 GW, .int .i64 GH, .slice ga n gc] 25) = W1 := ⟨_, rfl⟩
  rw [hW1] at U4 U5 U6 U7 B1 p0 p1 p2 p3 ⊢
  clear B hW1
  obtain ⟨q0, q1, q2⟩ := U4.cells
  have V4 := Lib.hid U4
  have V5 := Lib.hid U5
  have V6 := Lib.hid U6
  have V7 := Lib.hid U7
  have VB := Lib.hid B1
  have hBt := Below.refl W1.heap.size W1
  clear U4 U5 U6 U7 B1 T1 T2 T3 U2 U3 HGO hG A1 A2 HSL
  go_cut [10, 11] (fun s10 s11 wx => ∃ na gp, s10 = .pointer (some ⟨na, 0, none⟩) ∧ s11 = .bool true ∧ Sb wx na 26 (.int .i64 p) (.int .i64 q) (.slice (some ⟨gp, 0, none⟩) np np) ∧ OwnG 0 wx gp P ∧ Below W1.heap.size W1 wx)
  case first =>
    go_region_held3 (fun w' => w'.cell? ⟨w1.heap.size, 0, none⟩ = some (.int .i64 GW) ∧ w'.cell? ⟨w1.heap.size, 1, none⟩ = some (.int .i64 GH) ∧ w'.cell? ⟨w1.heap.size, 2, none⟩ = some (.slice ga n gc) ∧ w'.cell? ⟨w.heap.size + 1, 2, none⟩ = some (.int .i64 a1e2) ∧ w'.cell? ⟨w.heap.size + 1, 3, none⟩ = some (.int .i64 a1e3))
      (first | exact ⟨q0, q1, q2, p2, p3⟩ | exact ⟨cell_later (by repeat' (first | (with_reducible exact hBt) | (with_reducible refine Below.alloc ?_ ?_ _) | (with_reducible refine Below.drew ?_) | (with_reducible refine below_drewN ?_ _) | (with_reducible refine Below.setCell ?_ ?_ _) | exact hBt.size | (have := hBt.size; first | omega | (simp; done) | (simp; omega)))) q0, cell_later (by repeat' (first | (with_reducible exact hBt) | (with_reducible refine Below.alloc ?_ ?_ _) | (with_reducible refine Below.drew ?_) | (with_reducible refine below_drewN ?_ _) | (with_reducible refine Below.setCell ?_ ?_ _) | exact hBt.size | (have := hBt.size; first | omega | (simp; done) | (simp; omega)))) q1, cell_later (by repeat' (first | (with_reducible exact hBt) | (with_reducible refine Below.alloc ?_ ?_ _) | (with_reducible refine Below.drew ?_) | (with_reducible refine below_drewN ?_ _) | (with_reducible refine Below.setCell ?_ ?_ _) | exact hBt.size | (have := hBt.size; first | omega | (simp; done) | (simp; omega)))) q2, cell_later (by repeat' (first | (with_reducible exact hBt) | (with_reducible refine Below.alloc ?_ ?_ _) | (with_reducible refine Below.drew ?_) | (with_reducible refine below_drewN ?_ _) | (with_reducible refine Below.setCell ?_ ?_ _) | exact hBt.size | (have := hBt.size; first | omega | (simp; done) | (simp; omega)))) p2, cell_later (by repeat' (first | (with_reducible exact hBt) | (with_reducible refine Below.alloc ?_ ?_ _) | (with_reducible refine Below.drew ?_) | (with_reducible refine below_drewN ?_ _) | (with_reducible refine Below.setCell ?_ ?_ _) | exact hBt.size | (have := hBt.size; first | omega | (simp; done) | (simp; omega)))) p3⟩)
      (first
        | (go_at_call 25; refine (of_any _ _ _ _ _ _).mono ?_; rintro e w9 ⟨rfl, hb9⟩; replace hBt := bel_step (w := W1) (by repeat' (first | (with_reducible exact hBt) | (with_reducible refine Below.alloc ?_ ?_ _) | (with_reducible refine Below.drew ?_) | (with_reducible refine below_drewN ?_ _) | (with_reducible refine Below.setCell ?_ ?_ _) | exact hBt.size | (have := hBt.size; first | omega | (simp; done) | (simp; omega)))) hb9; have hsz9 := hBt.size; (try (have hnl9 := hNB.lt)); (try replace hNB := hNB.later hb9); (try ((first | have hNB := Sb.later (Sb.new _ _ _ _ _) hb9 | have hNB := Sb.later (Sb.drew (Sb.new _ _ _ _ _)) hb9); (try simp only [World.size_drew, size_drewN'] at hNB))); (try (obtain ⟨z0, z1, z2⟩ := hNB.cells)); (try (obtain ⟨y0, y1, y2⟩ := hNB.fr)))
        | (go_at_call 22; (first | (with_reducible refine (A3.out _).mono ?_) | (with_reducible refine (A4.out _).mono ?_)); rintro e w9 ⟨rfl, rfl⟩)
        | (go_at_call 29; refine (S1.out _ _ hc1 hc2 _ (V5.out.below (by repeat' (first | (with_reducible exact hBt) | (with_reducible refine Below.alloc ?_ ?_ _) | (with_reducible refine Below.drew ?_) | (with_reducible refine below_drewN ?_ _) | (with_reducible refine Below.setCell ?_ ?_ _) | exact hBt.size | (have := hBt.size; first | omega | (simp; done) | (simp; omega)))))).mono ?_; rintro e w9 ⟨gg, rfl, hg, hb9⟩; replace hBt := bel_step (w := W1) (by repeat' (first | (with_reducible exact hBt) | (with_reducible refine Below.alloc ?_ ?_ _) | (with_reducible refine Below.drew ?_) | (with_reducible refine below_drewN ?_ _) | (with_reducible refine Below.setCell ?_ ?_ _) | exact hBt.size | (have := hBt.size; first | omega | (simp; done) | (simp; omega)))) hb9; have hsz9 := hBt.size; (try (have hnl9 := hNB.lt)); (try replace hNB := hNB.later hb9); (try ((first | have hNB := Sb.later (Sb.new _ _ _ _ _) hb9 | have hNB := Sb.later (Sb.drew (Sb.new _ _ _ _ _)) hb9); (try simp only [World.size_drew, size_drewN'] at hNB))); (try (obtain ⟨z0, z1, z2⟩ := hNB.cells)); (try (obtain ⟨y0, y1, y2⟩ := hNB.fr))))
    all_goals
      go_wp2_with fail
      go_meet
      case rel =>
        first
          | exact ⟨_, _, rfl, rfl, Sb.new _ _ _ _ _, (hg.mono (Nat.zero_le _)).alloc _, (by repeat' (first | (with_reducible exact hBt) | (with_reducible refine Below.alloc ?_ ?_ _) | (with_reducible refine Below.drew ?_) | (with_reducible refine below_drewN ?_ _) | (with_reducible refine Below.setCell ?_ ?_ _) | exact hBt.size | (have := hBt.size; first | omega | (simp; done) | (simp; omega))))⟩
          | exact ⟨_, _, rfl, rfl, hNB.put _ _ _, (((hg.mono (Nat.zero_le _)).set _ _ (by have := hg.1; simp at this ⊢; omega)).set _ _ (by have := hg.1; simp at this ⊢; omega)).set _ _ (by have := hg.1; simp at this ⊢; omega), (by repeat' (first | (with_reducible exact hBt) | (with_reducible refine Below.alloc ?_ ?_ _) | (with_reducible refine Below.drew ?_) | (with_reducible refine below_drewN ?_ _) | (with_reducible refine Below.setCell ?_ ?_ _) | exact hBt.size | (have := hBt.size; first | omega | (simp; done) | (simp; omega))))⟩
  case rest =>
    obtain ⟨na, gp, rfl, rfl, hNA, hGP, hBx⟩ := hcut
    have WA := Lib.hid hNA
    have WP := Lib.hid (show SlK .u64 wc (some ⟨gp, 0, none⟩) np P by have := hGP.sl; rwa [HPL.out] at this)
    have VX := Lib.hid hBx
    obtain ⟨a0', a1', a2'⟩ := hNA.cells
    clear hNA hGP hBx p0 p1 p2 p3 q0 q1 q2 hBt
    go_upto_region 13 with (first
      | (go_at_call 20; refine (M1.out _ _).mono ?_; rintro e w5 ⟨rfl, hb5⟩; have VX5 := Lib.hid (bel_step (w := W1) VX.out hb5); have WA5 := Lib.hid (WA.out.later hb5); have WP5 := Lib.hid (WP.out.below hb5); obtain ⟨b0', b1', b2'⟩ := WA5.out.cells; obtain ⟨p0, p1, p2, p3⟩ := (V7.out.later VX5.out).cells; clear hb5)
      | (go_at_call 22; (first | (with_reducible refine (A5.out _).mono ?_) | (with_reducible refine (A6.out _).mono ?_) | (with_reducible refine (A7.out _).mono ?_) | (with_reducible refine (A8.out _).mono ?_)); rintro e w9 ⟨rfl, rfl⟩)
      | (go_at_call 29; first
        | ((with_reducible refine (S2.out _ _ (Nat.le_refl _) (by omega) _ WP5.out).mono ?_); rintro e w6 ⟨gb, rfl, hg6, hb6⟩; have VX6 := Lib.hid (bel_step (w := W1) VX5.out hb6); have VX7 := Lib.hid (bel_step VX6.out (box1 w6 (.cells #[.int .i64 sw, .int .i64 sh, .slice (some ⟨gb, 0, none⟩) ns ns] 26))); have WB7 := Lib.hid (Sb.new w6 26 (.int .i64 sw) (.int .i64 sh) (.slice (some ⟨gb, 0, none⟩) ns ns)); have WS7 := Lib.hid (OwnG.alloc hg6 (.cells #[.int .i64 sw, .int .i64 sh, .slice (some ⟨gb, 0, none⟩) ns ns] 26)); obtain ⟨q0, q1, q2⟩ := (V4.out.later VX7.out).cells; clear hb6 hg6)
        | ((with_reducible refine (S3.out _ _ hc1 hc2 _ ?_).mono ?_); (exact V5.out.below (bel_step VX7.out hb7)); rintro e w8 ⟨gs, rfl, hg8, hb8⟩; have VX8 := Lib.hid (bel_step (bel_step VX7.out hb7) hb8); have WB8 := Lib.hid ((WB7.out.later hb7).later hb8); have WS8 := Lib.hid ((WS7.out.later hb7).later hb8); have HG8 := Lib.hid hg8; clear hb8 hg8))
      | (go_at_call 25; refine (of_any _ _ _ _ _ _).mono ?_; rintro e w7 ⟨rfl, hb7⟩))
    have B9 := bel_step VX8.out (box1 w8 (.cells #[.int .i64 sw, .int .i64 sh, .slice (some ⟨gs, 0, none⟩) ns ns] 26))
    obtain ⟨r0, r1, r2⟩ := (WB8.out.alloc (.cells #[.int .i64 sw, .int .i64 sh, .slice (some ⟨gs, 0, none⟩) ns ns] 26)).cells
    obtain ⟨s0, s1, s2⟩ := (Sb.new w8 26 (.int .i64 sw) (.int .i64 sh) (.slice (some ⟨gs, 0, none⟩) ns ns)).cells
    obtain ⟨q0, q1, q2⟩ := (V4.out.later B9).cells
    have K1 := Lib.hid (V5.out.below B9)
    have K2 := Lib.hid (show SlK .u64 (w8.alloc (.cells #[.int .i64 sw, .int .i64 sh, .slice (some ⟨gs, 0, none⟩) ns ns] 26)) (some ⟨gb, 0, none⟩) ns S by have := (WS8.out.alloc (.cells #[.int .i64 sw, .int .i64 sh, .slice (some ⟨gs, 0, none⟩) ns ns] 26)).sl; rwa [HSL2.out] at this)
    have K3 := Lib.hid (show SlK .u64 (w8.alloc (.cells #[.int .i64 sw, .int .i64 sh, .slice (some ⟨gs, 0, none⟩) ns ns] 26)) (some ⟨gs, 0, none⟩) ns S by have := (HG8.out.alloc (.cells #[.int .i64 sw, .int .i64 sh, .slice (some ⟨gs, 0, none⟩) ns ns] 26)).sl; rwa [HSL2.out] at this)
    have KB := Lib.hid (bel_step (w := w) VB.out B9)
    obtain ⟨W2, hW2⟩ : ∃ W2, w8.alloc (.cells #[.int .i64 sw, .int .i64 sh, .slice (some ⟨gs, 0, none⟩) ns ns] 26) = W2 := ⟨_, rfl⟩
    rw [hW2] at r0 r1 r2 s0 s1 s2 q0 q1 q2 K1 K2 K3 KB ⊢
    have hBt := Below.refl W2.heap.size W2
    clear B9 hW2
    go_region_held3 (fun w' => w'.cell? ⟨w6.heap.size, 0, none⟩ = some (.int .i64 sw) ∧ w'.cell? ⟨w6.heap.size, 1, none⟩ = some (.int .i64 sh) ∧ w'.cell? ⟨w6.heap.size, 2, none⟩ = some (.slice (some ⟨gb, 0, none⟩) ns ns) ∧ w'.cell? ⟨w8.heap.size, 0, none⟩ = some (.int .i64 sw) ∧ w'.cell? ⟨w8.heap.size, 1, none⟩ = some (.int .i64 sh) ∧ w'.cell? ⟨w8.heap.size, 2, none⟩ = some (.slice (some ⟨gs, 0, none⟩) ns ns) ∧ w'.cell? ⟨w1.heap.size, 0, none⟩ = some (.int .i64 GW) ∧ w'.cell? ⟨w1.heap.size, 1, none⟩ = some (.int .i64 GH) ∧ w'.cell? ⟨w1.heap.size, 2, none⟩ = some (.slice ga n gc))
      (first | exact ⟨r0, r1, r2, s0, s1, s2, q0, q1, q2⟩ | exact ⟨cell_later (by repeat' (first | (with_reducible exact hBt) | (with_reducible refine Below.alloc ?_ ?_ _) | (with_reducible refine Below.drew ?_) | (with_reducible refine below_drewN ?_ _) | (with_reducible refine Below.setCell ?_ ?_ _) | exact hBt.size | (have := hBt.size; first | omega | (simp; done) | (simp; omega)))) r0, cell_later (by repeat' (first | (with_reducible exact hBt) | (with_reducible refine Below.alloc ?_ ?_ _) | (with_reducible refine Below.drew ?_) | (with_reducible refine below_drewN ?_ _) | (with_reducible refine Below.setCell ?_ ?_ _) | exact hBt.size | (have := hBt.size; first | omega | (simp; done) | (simp; omega)))) r1, cell_later (by repeat' (first | (with_reducible exact hBt) | (with_reducible refine Below.alloc ?_ ?_ _) | (with_reducible refine Below.drew ?_) | (with_reducible refine below_drewN ?_ _) | (with_reducible refine Below.setCell ?_ ?_ _) | exact hBt.size | (have := hBt.size; first | omega | (simp; done) | (simp; omega)))) r2, cell_later (by repeat' (first | (with_reducible exact hBt) | (with_reducible refine Below.alloc ?_ ?_ _) | (with_reducible refine Below.drew ?_) | (with_reducible refine below_drewN ?_ _) | (with_reducible refine Below.setCell ?_ ?_ _) | exact hBt.size | (have := hBt.size; first | omega | (simp; done) | (simp; omega)))) s0, cell_later (by repeat' (first | (with_reducible exact hBt) | (with_reducible refine Below.alloc ?_ ?_ _) | (with_reducible refine Below.drew ?_) | (with_reducible refine below_drewN ?_ _) | (with_reducible refine Below.setCell ?_ ?_ _) | exact hBt.size | (have := hBt.size; first | omega | (simp; done) | (simp; omega)))) s1, cell_later (by repeat' (first | (with_reducible exact hBt) | (with_reducible refine Below.alloc ?_ ?_ _) | (with_reducible refine Below.drew ?_) | (with_reducible refine below_drewN ?_ _) | (with_reducible refine Below.setCell ?_ ?_ _) | exact hBt.size | (have := hBt.size; first | omega | (simp; done) | (simp; omega)))) s2, cell_later (by repeat' (first | (with_reducible exact hBt) | (with_reducible refine Below.alloc ?_ ?_ _) | (with_reducible refine Below.drew ?_) | (with_reducible refine below_drewN ?_ _) | (with_reducible refine Below.setCell ?_ ?_ _) | exact hBt.size | (have := hBt.size; first | omega | (simp; done) | (simp; omega)))) q0, cell_later (by repeat' (first | (with_reducible exact hBt) | (with_reducible refine Below.alloc ?_ ?_ _) | (with_reducible refine Below.drew ?_) | (with_reducible refine below_drewN ?_ _) | (with_reducible refine Below.setCell ?_ ?_ _) | exact hBt.size | (have := hBt.size; first | omega | (simp; done) | (simp; omega)))) q1, cell_later (by repeat' (first | (with_reducible exact hBt) | (with_reducible refine Below.alloc ?_ ?_ _) | (with_reducible refine Below.drew ?_) | (with_reducible refine below_drewN ?_ _) | (with_reducible refine Below.setCell ?_ ?_ _) | exact hBt.size | (have := hBt.size; first | omega | (simp; done) | (simp; omega)))) q2⟩)
      (first
        | (go_at_call 25; refine (of_any _ _ _ _ _ _).mono ?_; rintro e w9 ⟨rfl, hb9⟩; replace hBt := bel_step (w := W2) (by repeat' (first | (with_reducible exact hBt) | (with_reducible refine Below.alloc ?_ ?_ _) | (with_reducible refine Below.drew ?_) | (with_reducible refine below_drewN ?_ _) | (with_reducible refine Below.setCell ?_ ?_ _) | exact hBt.size | (have := hBt.size; first | omega | (simp; done) | (simp; omega)))) hb9; have hsz9 := hBt.size)
        | (go_at_call 39; refine (HB1.out _ _ _ (K2.out.below (by repeat' (first | (with_reducible exact hBt) | (with_reducible refine Below.alloc ?_ ?_ _) | (with_reducible refine Below.drew ?_) | (with_reducible refine below_drewN ?_ _) | (with_reducible refine Below.setCell ?_ ?_ _) | exact hBt.size | (have := hBt.size; first | omega | (simp; done) | (simp; omega))))) (K3.out.below (by repeat' (first | (with_reducible exact hBt) | (with_reducible refine Below.alloc ?_ ?_ _) | (with_reducible refine Below.drew ?_) | (with_reducible refine below_drewN ?_ _) | (with_reducible refine Below.setCell ?_ ?_ _) | exact hBt.size | (have := hBt.size; first | omega | (simp; done) | (simp; omega)))))).mono ?_; rintro e w9 ⟨rfl, hb9⟩; replace hBt := bel_step (w := W2) (by repeat' (first | (with_reducible exact hBt) | (with_reducible refine Below.alloc ?_ ?_ _) | (with_reducible refine Below.drew ?_) | (with_reducible refine below_drewN ?_ _) | (with_reducible refine Below.setCell ?_ ?_ _) | exact hBt.size | (have := hBt.size; first | omega | (simp; done) | (simp; omega)))) hb9; have hsz9 := hBt.size)
        | (go_at_call 31; refine (HH1.out _ _ _ hc1 hc2 _ (K1.out.below (by repeat' (first | (with_reducible exact hBt) | (with_reducible refine Below.alloc ?_ ?_ _) | (with_reducible refine Below.drew ?_) | (with_reducible refine below_drewN ?_ _) | (with_reducible refine Below.setCell ?_ ?_ _) | exact hBt.size | (have := hBt.size; first | omega | (simp; done) | (simp; omega))))) (K2.out.below (by repeat' (first | (with_reducible exact hBt) | (with_reducible refine Below.alloc ?_ ?_ _) | (with_reducible refine Below.drew ?_) | (with_reducible refine below_drewN ?_ _) | (with_reducible refine Below.setCell ?_ ?_ _) | exact hBt.size | (have := hBt.size; first | omega | (simp; done) | (simp; omega)))))).mono ?_; rintro e w9 ⟨rfl, hb9⟩; replace hBt := bel_step (w := W2) (by repeat' (first | (with_reducible exact hBt) | (with_reducible refine Below.alloc ?_ ?_ _) | (with_reducible refine Below.drew ?_) | (with_reducible refine below_drewN ?_ _) | (with_reducible refine Below.setCell ?_ ?_ _) | exact hBt.size | (have := hBt.size; first | omega | (simp; done) | (simp; omega)))) hb9; have hsz9 := hBt.size)
        | (go_at_call 21; refine (lives_any _).mono ?_; rintro e w9 ⟨rfl, hb9⟩; replace hBt := bel_step (w := W2) (by repeat' (first | (with_reducible exact hBt) | (with_reducible refine Below.alloc ?_ ?_ _) | (with_reducible refine Below.drew ?_) | (with_reducible refine below_drewN ?_ _) | (with_reducible refine Below.setCell ?_ ?_ _) | exact hBt.size | (have := hBt.size; first | omega | (simp; done) | (simp; omega)))) hb9; have hsz9 := hBt.size))
    all_goals
      go_wp2
      go_ret
      exact ⟨rfl, bel_step (w := w) KB.out hBt⟩
end Go.Proofs.Ytfgfpnflabmaeaa
