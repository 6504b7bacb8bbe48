/- TurnFinds: a part that is laid stands in a matrix that is laid as often as the part does in the matrix: the walk of the law. No condition. -/
import Derived.Test.YtlihkdbbcnmbmaaTurL
import Derived.Test.YtlihkdbbcnmbmaaTurM
import Derived.Test.YtlihkdbbcnmbmaaRecQ
import Derived.Test.YtlihkdbbcnmbmaaRecO
namespace Go.Proofs.Ytlihkdbbcnmbmaa
open Go.RowKit
set_option linter.unusedVariables false

theorem around_nat8 (n : Int) : ∃ k : Nat, k < 8 ∧ Ar.around n 8 = k := by
  obtain ⟨h1, h2⟩ := Ar.around_lt n 8 (by omega)
  exact ⟨(Ar.around n 8).toNat, by omega, by omega⟩
set_option maxRecDepth 100000 in
set_option maxHeartbeats 8000000 in
theorem turnFinds_walk (a0w0 : Int) (a0h1 : Int) (a0 : Option Addr) (len0 cap0 : Nat) (z0 : List Int) (a1w0 : Int) (a1h1 : Int) (a1 : Option Addr) (len1 cap1 : Nat) (z1 : List Int) (a2 : Int) (w : World) (w00 : (Lit.int .i64 a0w0).wf = true) (w01 : (Lit.int .i64 a0h1).wf = true) (w02 : IsRow .u64 w a0 len0 cap0 z0) (w10 : (Lit.int .i64 a1w0).wf = true) (w11 : (Lit.int .i64 a1h1).wf = true) (w12 : IsRow .u64 w a1 len1 cap1 z1) (w2 : (Lit.int .i64 a2).wf = true) :
    Calls Try.prog 11 #[.agg #[.int .i64 a0w0, .int .i64 a0h1, .slice a0 len0 cap0], .agg #[.int .i64 a1w0, .int .i64 a1h1, .slice a1 len1 cap1], .int .i64 a2] w fun e w' => e = .returned (.bool true) ∧ Below w.heap.size w w' := by
  obtain ⟨W, H, n, L, hmk, hn, -, hGood⟩ := good_n 6 a0w0 a0h1 a0 len0 cap0 (z0.take len0) (wfI w00) (wfI w01) (by omega) (by omega) (isrow_len w02).1 w (px_take w02 len0) (row_slk w02)
  obtain ⟨P, Q, m, K, hmk2, hm, -, hGood2⟩ := good_n 2 a1w0 a1h1 a1 len1 cap1 (z1.take len1) (wfI w10) (wfI w11) (by omega) (by omega) (isrow_len w12).1 w (px_take w12 len1) (row_slk w12)
  obtain ⟨g, hg, eg⟩ := around_nat8 a2
  have R1 := Lib.hid (fun W2 => aroundOf a2 8 (wfI w2).1 (wfI w2).2 (by omega) (by omega) W2)
  rw [eg] at R1
  clear eg
  have hn64 : n ≤ 64 := hn ▸ mk_n hmk (by decide)
  have hm64 : m ≤ 64 := hm ▸ mk_n hmk2 (by decide)
  have hA := mk_lay hmk hg
  have hB := mk_lay hmk2 hg
  have L1 := Lib.hid (fun a c h1 h2 W2 h3 => layG hmk (by decide) hg hn a c h1 h2 W2 h3)
  have L2 := Lib.hid (fun a c h1 h2 W2 h3 => layG hmk2 (by decide) hg hm a c h1 h2 W2 h3)
  have hAn := (show (Tu.layL g W H L).length = n by rw [Tu.layL_len]; exact hn)
  have hBn := (show (Tu.layL g P Q K).length = m by rw [Tu.layL_len]; exact hm)
  have hLn := (show L.length = n from hmk.2.2.2.2.trans hn)
  have hKn := (show K.length = m from hmk2.2.2.2.2.trans hm)
  have hcnt : (Rc.findV (Tu.sw g W H : Nat) (Tu.sw g H W : Nat) (Tu.layL g W H L) (Tu.sw g P Q : Nat) (Tu.sw g Q P : Nat) (Tu.layL g P Q K)).length = (Rc.findV W H L P Q K).length := by
    rw [Tu.find_cnt (mk_ok hA (by decide)) hB.2.2.2.2 hB.1 hB.2.2.1, Tu.find_cnt (mk_ok hmk (by decide)) hmk2.2.2.2.2 hmk2.1 hmk2.2.2.1]
    exact Tu.cnt_lay hg hmk2.1 hmk2.2.2.1 hmk.2.2.2.2 hmk2.2.2.2.2
  have F1 := fun (a b : Option Addr) W2 h1 h2 => find_any (Tu.sw g W H : Nat) (Tu.sw g H W : Nat) (Tu.sw g P Q : Nat) (Tu.sw g Q P : Nat) a b n m (Tu.layL g W H L) (Tu.layL g P Q K) (mk_ok hA (by decide)) (mk_ok hB (by decide)) (by omega) (by omega) (by omega) (by omega) W2 h1 h2
  have F2 := fun (a b : Option Addr) (c c2 : Nat) h1 h2 h3 h4 W2 h5 h6 => refFind_any W H P Q a b c c2 L K (mk_ok hmk (by decide)) (mk_ok hmk2 (by decide)) h1 h2 h3 h4 W2 h5 h6
  obtain ⟨N, hN⟩ : ∃ N, (Rc.findV W H L P Q K).length = N := ⟨_, rfl⟩
  rw [hN] at hcnt F2
  rw [hcnt, hAn, hBn] at F1
  rw [hLn, hKn] at F2
  have HF1 := Lib.hid F1
  have HF2 := Lib.hid F2
  obtain ⟨aw, hAW⟩ : ∃ v, Tu.sw g W H = v := ⟨_, rfl⟩
  obtain ⟨ah, hAH⟩ : ∃ v, Tu.sw g H W = v := ⟨_, rfl⟩
  obtain ⟨bw, hBW⟩ : ∃ v, Tu.sw g P Q = v := ⟨_, rfl⟩
  obtain ⟨bh, hBH⟩ : ∃ v, Tu.sw g Q P = v := ⟨_, rfl⟩
  obtain ⟨AL, hAL⟩ : ∃ v, Tu.layL g W H L = v := ⟨_, rfl⟩
  obtain ⟨BL, hBL⟩ : ∃ v, Tu.layL g P Q K = v := ⟨_, rfl⟩
  rw [hAW, hAH, hAL] at L1
  rw [hBW, hBH, hBL] at L2
  rw [hAW, hAH, hAL, hBW, hBH, hBL] at HF1
  rw [hAL] at hAn
  rw [hBL] at hBn
  have HAn := Lib.hid hAn
  have HBn := Lib.hid hBn
  have HLn := Lib.hid hLn
  have HKn := Lib.hid hKn
  have HGD := Lib.hid hGood
  have HGD2 := Lib.hid hGood2
  have B := box2 w (.cells #[.int .i64 a0w0, .int .i64 a0h1, .slice a0 len0 cap0] 25) (.cells #[.int .i64 a1w0, .int .i64 a1h1, .slice a1 len1 cap1] 25)
  have T := Sb.new (w.alloc (.cells #[.int .i64 a0w0, .int .i64 a0h1, .slice a0 len0 cap0] 25)) 25 (.int .i64 a1w0) (.int .i64 a1h1) (.slice a1 len1 cap1)
  simp only [World.size_alloc] at T
  clear F1 F2 hcnt hN hAW hAH hBW hBH hAL hBL hA hB hmk hmk2 hn hm hGood hGood2 w00 w01 w02 w10 w11 w12 w2 hg hAn hBn hLn hKn
  go_enter Try.func11, Try.ntmps11
  go_wp2_with fail
  refine (HGD.out _ B).mono ?_
  rintro e w1 ⟨ga, gc, rfl, oo, hc1, hc2, hb1⟩
  replace B := bel_step B hb1
  replace T := T.later hb1
  clear hb1
  have hb := box1 w1 (.cells #[.int .i64 W, .int .i64 H, .slice ga n gc] 25)
  replace B := bel_step B hb
  replace T := T.later hb
  have FX := Sb.new w1 25 (.int .i64 W) (.int .i64 H) (.slice ga n gc)
  have SX : SlK .u64 (w1.alloc (.cells #[.int .i64 W, .int .i64 H, .slice ga n gc] 25)) ga n L := by have := (oo.later hb).sl; rwa [HLn.out] at this
  obtain ⟨V1, hV1⟩ : ∃ V, w1.alloc (.cells #[.int .i64 W, .int .i64 H, .slice ga n gc] 25) = V := ⟨_, rfl⟩
  have hz1 : w1.heap.size < V1.heap.size := by rw [← hV1]; simp
  rw [hV1] at B T FX SX
  clear oo hb
  obtain ⟨t0, t1, t2⟩ := T.cells
  go_wp2_with fail
  refine (HGD2.out _ B).mono ?_
  rintro e w2 ⟨gb, gd, rfl, oo, hd1, hd2, hb2⟩
  replace B := bel_step B hb2
  replace T := T.later hb2
  replace FX := FX.later hb2
  replace SX := SX.below hb2
  clear hb2 t0 t1 t2
  have hb := box1 w2 (.cells #[.int .i64 P, .int .i64 Q, .slice gb m gd] 25)
  replace B := bel_step B hb
  replace T := T.later hb
  replace FX := FX.later hb
  replace SX := SX.below hb
  have FY := Sb.new w2 25 (.int .i64 P) (.int .i64 Q) (.slice gb m gd)
  have SY : SlK .u64 (w2.alloc (.cells #[.int .i64 P, .int .i64 Q, .slice gb m gd] 25)) gb m K := by have := (oo.later hb).sl; rwa [HKn.out] at this
  obtain ⟨V2, hV2⟩ : ∃ V, w2.alloc (.cells #[.int .i64 P, .int .i64 Q, .slice gb m gd] 25) = V := ⟨_, rfl⟩
  have hz2 : w2.heap.size < V2.heap.size := by rw [← hV2]; simp
  rw [hV2] at B T FX SX FY SY
  clear oo hb
  obtain ⟨x0, x1, x2⟩ := FX.cells
  go_wp2_with (go_at_call 37; refine (R1.out _).mono ?_; rintro e w9 ⟨rfl, rfl⟩)
  refine (of4_any _ _ _ _ _ _).mono ?_
  rintro e w3 ⟨rfl, hb3⟩
  replace B := bel_step B hb3
  replace T := T.later hb3
  replace FX := FX.later hb3
  replace SX := SX.below hb3
  replace FY := FY.later hb3
  replace SY := SY.below hb3
  clear hb3 x0 x1 x2
  go_wp2_with fail
  refine (L1.out ga gc hc1 hc2 _ SX).mono ?_
  rintro e w4 ⟨gA, rfl, oo, hb4⟩
  replace B := bel_step B hb4
  replace T := T.later hb4
  replace FX := FX.later hb4
  replace SX := SX.below hb4
  replace FY := FY.later hb4
  replace SY := SY.below hb4
  clear hb4
  have hb := box1 w4 (.cells #[.int .i64 aw, .int .i64 ah, .slice (some ⟨gA, 0, none⟩) n n] 26)
  replace B := bel_step B hb
  replace T := T.later hb
  replace FX := FX.later hb
  replace SX := SX.below hb
  replace FY := FY.later hb
  replace SY := SY.below hb
  have FA := Sb.new w4 26 (.int .i64 aw) (.int .i64 ah) (.slice (some ⟨gA, 0, none⟩) n n)
  have SA : SlK .u64 (w4.alloc (.cells #[.int .i64 aw, .int .i64 ah, .slice (some ⟨gA, 0, none⟩) n n] 26)) (some ⟨gA, 0, none⟩) n AL := by have := (oo.later hb).sl; rwa [HAn.out] at this
  obtain ⟨V4, hV4⟩ : ∃ V, w4.alloc (.cells #[.int .i64 aw, .int .i64 ah, .slice (some ⟨gA, 0, none⟩) n n] 26) = V := ⟨_, rfl⟩
  have hz4 : w4.heap.size < V4.heap.size := by rw [← hV4]; simp
  rw [hV4] at B T FX SX FY SY FA SA
  clear oo hb
  obtain ⟨y0, y1, y2⟩ := FY.cells
  go_wp2_with fail
  refine (of4_any _ _ _ _ _ _).mono ?_
  rintro e w5 ⟨rfl, hb5⟩
  replace B := bel_step B hb5
  replace T := T.later hb5
  replace FX := FX.later hb5
  replace SX := SX.below hb5
  replace FY := FY.later hb5
  replace SY := SY.below hb5
  replace FA := FA.later hb5
  replace SA := SA.below hb5
  clear hb5 y0 y1 y2
  go_wp2_with fail
  refine (L2.out gb gd hd1 hd2 _ SY).mono ?_
  rintro e w6 ⟨gB, rfl, oo, hb6⟩
  replace B := bel_step B hb6
  replace T := T.later hb6
  replace FX := FX.later hb6
  replace SX := SX.below hb6
  replace FY := FY.later hb6
  replace SY := SY.below hb6
  replace FA := FA.later hb6
  replace SA := SA.below hb6
  clear hb6
  have hb := box1 w6 (.cells #[.int .i64 bw, .int .i64 bh, .slice (some ⟨gB, 0, none⟩) m m] 26)
  replace B := bel_step B hb
  replace T := T.later hb
  replace FX := FX.later hb
  replace SX := SX.below hb
  replace FY := FY.later hb
  replace SY := SY.below hb
  replace FA := FA.later hb
  replace SA := SA.below hb
  have FB := Sb.new w6 26 (.int .i64 bw) (.int .i64 bh) (.slice (some ⟨gB, 0, none⟩) m m)
  have SB : SlK .u64 (w6.alloc (.cells #[.int .i64 bw, .int .i64 bh, .slice (some ⟨gB, 0, none⟩) m m] 26)) (some ⟨gB, 0, none⟩) m BL := by have := (oo.later hb).sl; rwa [HBn.out] at this
  obtain ⟨V6, hV6⟩ : ∃ V, w6.alloc (.cells #[.int .i64 bw, .int .i64 bh, .slice (some ⟨gB, 0, none⟩) m m] 26) = V := ⟨_, rfl⟩
  have hz6 : w6.heap.size < V6.heap.size := by rw [← hV6]; simp
  rw [hV6] at B T FX SX FY SY FA SA FB SB
  clear oo hb
  have hBt := Below.refl V6.heap.size V6
  obtain ⟨x0, x1, x2⟩ := FX.cells
  obtain ⟨y0, y1, y2⟩ := FY.cells
  obtain ⟨a0', a1', a2'⟩ := FA.cells
  obtain ⟨b0', b1', b2'⟩ := FB.cells
  have HB := Lib.hid B
  have HSX := Lib.hid SX
  have HSY := Lib.hid SY
  have HSA := Lib.hid SA
  have HSB := Lib.hid SB
  clear B T FX SX FY SY FA SA FB SB hz1 hz2 hz4 hz6 hV1 hV2 hV4
  go_wp2_with fail
  clear hV6
  go_region_held3 (fun w' => w'.cell? ⟨w4.heap.size, 0, none⟩ = some (.int .i64 aw) ∧ w'.cell? ⟨w4.heap.size, 1, none⟩ = some (.int .i64 ah) ∧ w'.cell? ⟨w4.heap.size, 2, none⟩ = some (.slice (some ⟨gA, 0, none⟩) n n) ∧ w'.cell? ⟨w6.heap.size, 0, none⟩ = some (.int .i64 bw) ∧ w'.cell? ⟨w6.heap.size, 1, none⟩ = some (.int .i64 bh) ∧ w'.cell? ⟨w6.heap.size, 2, none⟩ = some (.slice (some ⟨gB, 0, none⟩) m m) ∧ w'.cell? ⟨w1.heap.size, 0, none⟩ = some (.int .i64 W) ∧ w'.cell? ⟨w1.heap.size, 1, none⟩ = some (.int .i64 H) ∧ w'.cell? ⟨w1.heap.size, 2, none⟩ = some (.slice ga n gc) ∧ w'.cell? ⟨w2.heap.size, 0, none⟩ = some (.int .i64 P) ∧ w'.cell? ⟨w2.heap.size, 1, none⟩ = some (.int .i64 Q) ∧ w'.cell? ⟨w2.heap.size, 2, none⟩ = some (.slice gb m gd))
    (first | exact ⟨a0', a1', a2', b0', b1', b2', x0, x1, x2, y0, y1, y2⟩ | exact ⟨cell_later (by repeat' (first | (with_reducible exact hBt) | (with_reducible refine Below.alloc ?_ ?_ _) | (with_reducible refine Below.drew ?_) | (with_reducible refine below_drewN ?_ _) | (with_reducible refine Below.setCell ?_ ?_ _) | exact hBt.size | (have := hBt.size; first | omega | (simp; done) | (simp; omega)))) a0', cell_later (by repeat' (first | (with_reducible exact hBt) | (with_reducible refine Below.alloc ?_ ?_ _) | (with_reducible refine Below.drew ?_) | (with_reducible refine below_drewN ?_ _) | (with_reducible refine Below.setCell ?_ ?_ _) | exact hBt.size | (have := hBt.size; first | omega | (simp; done) | (simp; omega)))) a1', cell_later (by repeat' (first | (with_reducible exact hBt) | (with_reducible refine Below.alloc ?_ ?_ _) | (with_reducible refine Below.drew ?_) | (with_reducible refine below_drewN ?_ _) | (with_reducible refine Below.setCell ?_ ?_ _) | exact hBt.size | (have := hBt.size; first | omega | (simp; done) | (simp; omega)))) a2', cell_later (by repeat' (first | (with_reducible exact hBt) | (with_reducible refine Below.alloc ?_ ?_ _) | (with_reducible refine Below.drew ?_) | (with_reducible refine below_drewN ?_ _) | (with_reducible refine Below.setCell ?_ ?_ _) | exact hBt.size | (have := hBt.size; first | omega | (simp; done) | (simp; omega)))) b0', cell_later (by repeat' (first | (with_reducible exact hBt) | (with_reducible refine Below.alloc ?_ ?_ _) | (with_reducible refine Below.drew ?_) | (with_reducible refine below_drewN ?_ _) | (with_reducible refine Below.setCell ?_ ?_ _) | exact hBt.size | (have := hBt.size; first | omega | (simp; done) | (simp; omega)))) b1', cell_later (by repeat' (first | (with_reducible exact hBt) | (with_reducible refine Below.alloc ?_ ?_ _) | (with_reducible refine Below.drew ?_) | (with_reducible refine below_drewN ?_ _) | (with_reducible refine Below.setCell ?_ ?_ _) | exact hBt.size | (have := hBt.size; first | omega | (simp; done) | (simp; omega)))) b2', cell_later (by repeat' (first | (with_reducible exact hBt) | (with_reducible refine Below.alloc ?_ ?_ _) | (with_reducible refine Below.drew ?_) | (with_reducible refine below_drewN ?_ _) | (with_reducible refine Below.setCell ?_ ?_ _) | exact hBt.size | (have := hBt.size; first | omega | (simp; done) | (simp; omega)))) x0, cell_later (by repeat' (first | (with_reducible exact hBt) | (with_reducible refine Below.alloc ?_ ?_ _) | (with_reducible refine Below.drew ?_) | (with_reducible refine below_drewN ?_ _) | (with_reducible refine Below.setCell ?_ ?_ _) | exact hBt.size | (have := hBt.size; first | omega | (simp; done) | (simp; omega)))) x1, cell_later (by repeat' (first | (with_reducible exact hBt) | (with_reducible refine Below.alloc ?_ ?_ _) | (with_reducible refine Below.drew ?_) | (with_reducible refine below_drewN ?_ _) | (with_reducible refine Below.setCell ?_ ?_ _) | exact hBt.size | (have := hBt.size; first | omega | (simp; done) | (simp; omega)))) x2, cell_later (by repeat' (first | (with_reducible exact hBt) | (with_reducible refine Below.alloc ?_ ?_ _) | (with_reducible refine Below.drew ?_) | (with_reducible refine below_drewN ?_ _) | (with_reducible refine Below.setCell ?_ ?_ _) | exact hBt.size | (have := hBt.size; first | omega | (simp; done) | (simp; omega)))) y0, cell_later (by repeat' (first | (with_reducible exact hBt) | (with_reducible refine Below.alloc ?_ ?_ _) | (with_reducible refine Below.drew ?_) | (with_reducible refine below_drewN ?_ _) | (with_reducible refine Below.setCell ?_ ?_ _) | exact hBt.size | (have := hBt.size; first | omega | (simp; done) | (simp; omega)))) y1, cell_later (by repeat' (first | (with_reducible exact hBt) | (with_reducible refine Below.alloc ?_ ?_ _) | (with_reducible refine Below.drew ?_) | (with_reducible refine below_drewN ?_ _) | (with_reducible refine Below.setCell ?_ ?_ _) | exact hBt.size | (have := hBt.size; first | omega | (simp; done) | (simp; omega)))) y2⟩)
    (first
      | (go_at_call 56; refine (HF1.out (some ⟨gA, 0, none⟩) (some ⟨gB, 0, none⟩) _ (HSA.out.below ?_) (HSB.out.below ?_)).mono ?_; (exact (by repeat' (first | (with_reducible exact hBt) | (with_reducible refine Below.alloc ?_ ?_ _) | (with_reducible refine Below.drew ?_) | (with_reducible refine below_drewN ?_ _) | (with_reducible refine Below.setCell ?_ ?_ _) | exact hBt.size | (have := hBt.size; first | omega | (simp; done) | (simp; omega))))); (exact (by repeat' (first | (with_reducible exact hBt) | (with_reducible refine Below.alloc ?_ ?_ _) | (with_reducible refine Below.drew ?_) | (with_reducible refine below_drewN ?_ _) | (with_reducible refine Below.setCell ?_ ?_ _) | exact hBt.size | (have := hBt.size; first | omega | (simp; done) | (simp; omega))))); rintro e w9 ⟨v9, rfl, ho, hb9⟩; obtain ⟨ad9, cap9, rfl⟩ := ownsRow_val ho; replace hBt := bel_step (w := V6) (by repeat' (first | (with_reducible exact hBt) | (with_reducible refine Below.alloc ?_ ?_ _) | (with_reducible refine Below.drew ?_) | (with_reducible refine below_drewN ?_ _) | (with_reducible refine Below.setCell ?_ ?_ _) | exact hBt.size | (have := hBt.size; first | omega | (simp; done) | (simp; omega)))) hb9; have hsz9 := hBt.size)
      | (go_at_call 57; refine (HF2.out ga gb gc gd hc1 hc2 hd1 hd2 _ (HSX.out.below ?_) (HSY.out.below ?_)).mono ?_; (exact (by repeat' (first | (with_reducible exact hBt) | (with_reducible refine Below.alloc ?_ ?_ _) | (with_reducible refine Below.drew ?_) | (with_reducible refine below_drewN ?_ _) | (with_reducible refine Below.setCell ?_ ?_ _) | exact hBt.size | (have := hBt.size; first | omega | (simp; done) | (simp; omega))))); (exact (by repeat' (first | (with_reducible exact hBt) | (with_reducible refine Below.alloc ?_ ?_ _) | (with_reducible refine Below.drew ?_) | (with_reducible refine below_drewN ?_ _) | (with_reducible refine Below.setCell ?_ ?_ _) | exact hBt.size | (have := hBt.size; first | omega | (simp; done) | (simp; omega))))); rintro e w9 ⟨v9, rfl, ho, hb9⟩; obtain ⟨ad9, cap9, rfl⟩ := ownsRow_val ho; replace hBt := bel_step (w := V6) (by repeat' (first | (with_reducible exact hBt) | (with_reducible refine Below.alloc ?_ ?_ _) | (with_reducible refine Below.drew ?_) | (with_reducible refine below_drewN ?_ _) | (with_reducible refine Below.setCell ?_ ?_ _) | exact hBt.size | (have := hBt.size; first | omega | (simp; done) | (simp; omega)))) hb9; have hsz9 := hBt.size)
      | (go_at_call 47; refine (lives4_any _).mono ?_; rintro e w9 ⟨rfl, hb9⟩; replace hBt := bel_step (w := V6) (by repeat' (first | (with_reducible exact hBt) | (with_reducible refine Below.alloc ?_ ?_ _) | (with_reducible refine Below.drew ?_) | (with_reducible refine below_drewN ?_ _) | (with_reducible refine Below.setCell ?_ ?_ _) | exact hBt.size | (have := hBt.size; first | omega | (simp; done) | (simp; omega)))) hb9; have hsz9 := hBt.size))
  all_goals
    go_wp2
    go_ret
    exact ⟨rfl, bel_step (w := w) HB.out hBt⟩
end Go.Proofs.Ytlihkdbbcnmbmaa
