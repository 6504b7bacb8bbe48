/- TurnThen: two turns one behind the other are the one that is told; what is laid, and laid back, is as it was: the walk of the law. No condition. -/
import Derived.Test.YtlihkdbbcnmbmaaTurL
import Derived.Test.YtlihkdbbcnmbmaaRecQ
namespace Go.Proofs.Ytlihkdbbcnmbmaa
open Go.RowKit
set_option linter.unusedVariables false

namespace Tu
theorem around_nat (n : Int) : ∃ k : Nat, k < 8 ∧ Ar.around n 8 = k := by
  obtain ⟨h1, h2⟩ := Ar.around_lt n 8 (by omega)
  exact ⟨(Ar.around n 8).toNat, by omega, by omega⟩
theorem then_back {p : Nat} (hp : p < 8) : thenN p (backN p) = 0 := (then_zero hp (backN_lt hp)).2 rfl
theorem same_self (a b : Nat) (L : List Int) : (decide ((a : Int) = a) && (decide ((b : Int) = b) && decide (L = L))) = true := by simp
end Tu
set_option maxRecDepth 100000 in
set_option maxHeartbeats 8000000 in
theorem turnThen_walk (a0w0 : Int) (a0h1 : Int) (a0 : Option Addr) (len0 cap0 : Nat) (z0 : List Int) (a1 : Int) (a2 : Int) (w : World) (w00 : (Lit.int .i64 a0w0).wf = true) (w01 : (Lit.int .i64 a0h1).wf = true) (w02 : IsRow .u64 w a0 len0 cap0 z0) (w1 : (Lit.int .i64 a1).wf = true) (w2 : (Lit.int .i64 a2).wf = true) :
    Calls Try.prog 7 #[.agg #[.int .i64 a0w0, .int .i64 a0h1, .slice a0 len0 cap0], .int .i64 a1, .int .i64 a2] w fun e w' => e = .returned (.bool true) ∧ Below w.heap.size w w' := by
  have hlen : len0 ≤ 9223372036854775807 := (isrow_len w02).1
  obtain ⟨W, H, n, L, hmk, hn, -, hGood⟩ := good_n 6 a0w0 a0h1 a0 len0 cap0 (z0.take len0) (wfI w00) (wfI w01) (by omega) (by omega) hlen w (px_take w02 len0) (row_slk w02)
  obtain ⟨p, hp, ep⟩ := Tu.around_nat a1
  obtain ⟨q, hq, eq⟩ := Tu.around_nat a2
  have R1 := Lib.hid (fun W2 => aroundOf a1 8 (wfI w1).1 (wfI w1).2 (by omega) (by omega) W2)
  have R2 := Lib.hid (fun W2 => aroundOf a2 8 (wfI w2).1 (wfI w2).2 (by omega) (by omega) W2)
  rw [ep] at R1
  rw [eq] at R2
  clear ep eq
  have hn64 : n ≤ 64 := hn ▸ mk_n hmk (by decide)
  have hk := Tu.backN_lt hp
  have htk := Tu.then_back hp
  have ht := Tu.thenN_lt hp hq
  have E1 := Lib.hid (Tu.thenI_nat hp hq)
  have E2 := Lib.hid (Tu.backI_nat hp)
  have hA := mk_lay hmk hp
  have hnA : Tu.sw p W H * Tu.sw p H W = n := by rw [← hA.2.2.2.2, Tu.layL_len]; exact hn
  have L1 := Lib.hid (fun a c h1 h2 W2 h3 => layG hmk (by decide) hp hn a c h1 h2 W2 h3)
  have L2 := Lib.hid (fun a c h1 h2 W2 h3 => layG hA (by decide) hq hnA a c h1 h2 W2 h3)
  have L3 := Lib.hid (fun a c h1 h2 W2 h3 => layG hmk (by decide) ht hn a c h1 h2 W2 h3)
  have L4 := Lib.hid (fun a c h1 h2 W2 h3 => layG hA (by decide) hk hnA a c h1 h2 W2 h3)
  rw [Tu.sw_sw hp hq, Tu.sw_sw hp hq, Tu.lay_lay hp hq] at L2
  rw [Tu.sw_sw hp hk, Tu.sw_sw hp hk, Tu.lay_lay hp hk, htk, Tu.lay0 hmk.2.2.2.2] at L4
  have hAn := Lib.hid (show (Tu.layL p W H L).length = n by rw [Tu.layL_len]; exact hn)
  have hBn := Lib.hid (show (Tu.layL (Tu.thenN p q) W H L).length = n by rw [Tu.layL_len]; exact hn)
  have hLn := Lib.hid (show L.length = n from hmk.2.2.2.2.trans hn)
  obtain ⟨t, hT⟩ : ∃ t, Tu.thenN p q = t := ⟨_, rfl⟩
  obtain ⟨k, hK⟩ : ∃ k, Tu.backN p = k := ⟨_, rfl⟩
  rw [hT] at L2 L3 E1 hBn
  rw [hK] at L4 E2
  obtain ⟨aw, hAW⟩ : ∃ v, Tu.sw p W H = v := ⟨_, rfl⟩
  obtain ⟨ah, hAH⟩ : ∃ v, Tu.sw p H W = v := ⟨_, rfl⟩
  obtain ⟨bw, hBW⟩ : ∃ v, Tu.sw t W H = v := ⟨_, rfl⟩
  obtain ⟨bh, hBH⟩ : ∃ v, Tu.sw t H W = v := ⟨_, rfl⟩
  obtain ⟨AL, hAL⟩ : ∃ v, Tu.layL p W H L = v := ⟨_, rfl⟩
  obtain ⟨BL, hBL⟩ : ∃ v, Tu.layL t W H L = v := ⟨_, rfl⟩
  rw [hAW, hAH, hAL] at L1
  rw [hAW, hAH, hAL, hBW, hBH, hBL] at L2
  rw [hBW, hBH, hBL] at L3
  rw [hAW, hAH, hAL, show Tu.sw 0 W H = W from rfl, show Tu.sw 0 H W = H from rfl] at L4
  rw [hAL] at hAn
  rw [hBL] at hBn
  have HS1 := Lib.hid (fun (a b : Option Addr) (W2 : World) h1 h2 => refSame_any bw bh bw bh a b n n n n BL BL W2 (by omega) h1 h2)
  have HS2 := Lib.hid (fun (a b : Option Addr) (c : Nat) (W2 : World) h1 h2 => refSame_any W H W H a b n n n c L L W2 (by omega) h1 h2)
  rw [Tu.same_self] at HS1 HS2
  have HGD := Lib.hid hGood
  have B := box1 w (.cells #[.int .i64 a0w0, .int .i64 a0h1, .slice a0 len0 cap0] 25)
  clear hT hK hAW hAH hBW hBH hAL hBL hA hnA hmk hn hGood htk ht hk w00 w01 w02 w1 w2 hp hq
  go_enter Try.func7, Try.ntmps7
  go_wp2_with fail
  refine (HGD.out _ B).mono ?_
  rintro e w1 ⟨ga, gc, rfl, ho, hc1, hc2, hb1⟩
  have B1 := bel_step B hb1
  have hb := box1 w1 (.cells #[.int .i64 W, .int .i64 H, .slice ga n gc] 25)
  have B2 := bel_step B1 hb
  have X2 := Sb.new w1 25 (.int .i64 W) (.int .i64 H) (.slice ga n gc)
  have O2 : SlK .u64 (w1.alloc (.cells #[.int .i64 W, .int .i64 H, .slice ga n gc] 25)) ga n L := by have := (ho.later hb).sl; rwa [hLn.out] at this
  obtain ⟨W2, hW2⟩ : ∃ W2, w1.alloc (.cells #[.int .i64 W, .int .i64 H, .slice ga n gc] 25) = W2 := ⟨_, rfl⟩
  have hz2 : w1.heap.size < W2.heap.size := by rw [← hW2]; simp
  rw [hW2] at B2 X2 O2
  have HX2 := Lib.hid X2
  have HO2 := Lib.hid O2
  have HB2 := Lib.hid B2
  obtain ⟨x0, x1, x2⟩ := X2.cells
  have C := Below.refl W2.heap.size W2
  clear ho hb1 B1 hb X2 O2 B2 B
  have X := HX2.out
  have O := HO2.out
  go_wp2_with (first
    | (go_at_call 37; (first | (with_reducible refine (R1.out _).mono ?_) | (with_reducible refine (R2.out _).mono ?_)); rintro e w9 ⟨rfl, rfl⟩))
  refine (of4_any _ _ _ _ _ _).mono ?_
  rintro e w3 ⟨rfl, hb3⟩
  replace C := bel_step C hb3
  replace X := X.later hb3
  replace O := O.below hb3
  clear hb3
  go_wp2_with fail
  refine (L1.out ga gc hc1 hc2 _ O).mono ?_
  rintro e w4 ⟨gA, rfl, oo, hb4⟩
  replace C := bel_step C hb4
  replace X := X.later hb4
  replace O := O.below hb4
  clear hb4 x0 x1 x2
  have hb := box1 w4 (.cells #[.int .i64 aw, .int .i64 ah, .slice (some ⟨gA, 0, none⟩) n n] 26)
  replace C := bel_step C hb
  replace X := X.later hb
  replace O := O.below hb
  have FA := Sb.new w4 26 (.int .i64 aw) (.int .i64 ah) (.slice (some ⟨gA, 0, none⟩) n n)
  have SA : SlK .u64 (w4.alloc (.cells #[.int .i64 aw, .int .i64 ah, .slice (some ⟨gA, 0, none⟩) n n] 26)) (some ⟨gA, 0, none⟩) n AL := by have := (oo.later hb).sl; rwa [hAn.out] at this
  obtain ⟨V4, hV4⟩ : ∃ V, w4.alloc (.cells #[.int .i64 aw, .int .i64 ah, .slice (some ⟨gA, 0, none⟩) n n] 26) = V := ⟨_, rfl⟩
  have hz4 : w4.heap.size < V4.heap.size := by rw [← hV4]; simp
  rw [hV4] at C X O FA SA
  clear oo hb
  obtain ⟨a0', a1', a2'⟩ := FA.cells
  obtain ⟨x0, x1, x2⟩ := X.cells
  go_wp2_with fail
  refine (L2.out (some ⟨gA, 0, none⟩) n (Nat.le_refl _) (by omega) _ SA).mono ?_
  rintro e w5 ⟨gB, rfl, oo, hb5⟩
  replace C := bel_step C hb5
  replace X := X.later hb5
  replace O := O.below hb5
  replace FA := FA.later hb5
  replace SA := SA.below hb5
  clear hb5 x0 x1 x2 a0' a1' a2'
  have hb := box1 w5 (.cells #[.int .i64 bw, .int .i64 bh, .slice (some ⟨gB, 0, none⟩) n n] 26)
  replace C := bel_step C hb
  replace X := X.later hb
  replace O := O.below hb
  replace FA := FA.later hb
  replace SA := SA.below hb
  have FB := Sb.new w5 26 (.int .i64 bw) (.int .i64 bh) (.slice (some ⟨gB, 0, none⟩) n n)
  have SB : SlK .u64 (w5.alloc (.cells #[.int .i64 bw, .int .i64 bh, .slice (some ⟨gB, 0, none⟩) n n] 26)) (some ⟨gB, 0, none⟩) n BL := by have := (oo.later hb).sl; rwa [hBn.out] at this
  obtain ⟨V5, hV5⟩ : ∃ V, w5.alloc (.cells #[.int .i64 bw, .int .i64 bh, .slice (some ⟨gB, 0, none⟩) n n] 26) = V := ⟨_, rfl⟩
  have hz5 : w5.heap.size < V5.heap.size := by rw [← hV5]; simp
  rw [hV5] at C X O FA SA FB SB
  clear oo hb
  obtain ⟨x0, x1, x2⟩ := X.cells
  go_wp2_with fail
  refine (of4_any _ _ _ _ _ _).mono ?_
  rintro e w6 ⟨rfl, hb6⟩
  replace C := bel_step C hb6
  replace X := X.later hb6
  replace O := O.below hb6
  replace FA := FA.later hb6
  replace SA := SA.below hb6
  replace FB := FB.later hb6
  replace SB := SB.below hb6
  clear hb6 x0 x1 x2
  go_wp2_with (go_at_call 48; refine (then_any _ _ _).mono ?_; rw [E1.out]; rintro e w9 ⟨rfl, rfl⟩)
  refine (L3.out ga gc hc1 hc2 _ O).mono ?_
  rintro e w7 ⟨gC, rfl, oo, hb7⟩
  replace C := bel_step C hb7
  replace X := X.later hb7
  replace O := O.below hb7
  replace FA := FA.later hb7
  replace SA := SA.below hb7
  replace FB := FB.later hb7
  replace SB := SB.below hb7
  clear hb7
  have hb := box1 w7 (.cells #[.int .i64 bw, .int .i64 bh, .slice (some ⟨gC, 0, none⟩) n n] 26)
  replace C := bel_step C hb
  replace X := X.later hb
  replace O := O.below hb
  replace FA := FA.later hb
  replace SA := SA.below hb
  replace FB := FB.later hb
  replace SB := SB.below hb
  have FC := Sb.new w7 26 (.int .i64 bw) (.int .i64 bh) (.slice (some ⟨gC, 0, none⟩) n n)
  have SC : SlK .u64 (w7.alloc (.cells #[.int .i64 bw, .int .i64 bh, .slice (some ⟨gC, 0, none⟩) n n] 26)) (some ⟨gC, 0, none⟩) n BL := by have := (oo.later hb).sl; rwa [hBn.out] at this
  obtain ⟨V7, hV7⟩ : ∃ V, w7.alloc (.cells #[.int .i64 bw, .int .i64 bh, .slice (some ⟨gC, 0, none⟩) n n] 26) = V := ⟨_, rfl⟩
  have hz7 : w7.heap.size < V7.heap.size := by rw [← hV7]; simp
  rw [hV7] at C X O FA SA FB SB FC SC
  clear oo hb
  obtain ⟨a0', a1', a2'⟩ := FA.cells
  have hBt := Below.refl V7.heap.size V7
  have HX := Lib.hid X
  have HO := Lib.hid O
  have HC := Lib.hid C
  have HFA := Lib.hid FA
  have HSA := Lib.hid SA
  have HFB := Lib.hid FB
  have HSB := Lib.hid SB
  have HFC := Lib.hid FC
  have HSC := Lib.hid SC
  clear X O C FA SA FB SB FC SC hz2 hz4 hz5 hz7 hW2 hV4 hV5
  go_wp2_with fail
  clear hV7
  go_cut [16, 17] (fun s16 s17 wx => ∃ na gp, s16 = .pointer (some ⟨na, 0, none⟩) ∧ s17 = .int .i64 0 ∧ Sb wx na 26 (.int .i64 W) (.int .i64 H) (.slice (some ⟨gp, 0, none⟩) n n) ∧ OwnG 0 wx gp L ∧ Below V7.heap.size V7 wx)
  case first =>
    go_region_held3 (fun w' => w'.cell? ⟨w4.heap.size, 0, none⟩ = some (.int .i64 aw) ∧ w'.cell? ⟨w4.heap.size, 1, none⟩ = some (.int .i64 ah) ∧ w'.cell? ⟨w4.heap.size, 2, none⟩ = some (.slice (some ⟨gA, 0, none⟩) n n))
      (first | exact ⟨a0', a1', a2'⟩ | exact ⟨cell_later (by repeat' (first | (with_reducible exact hBt) | (with_reducible refine Below.alloc ?_ ?_ _) | (with_reducible refine Below.drew ?_) | (with_reducible refine below_drewN ?_ _) | (with_reducible refine Below.setCell ?_ ?_ _) | exact hBt.size | (have := hBt.size; first | omega | (simp; done) | (simp; omega)))) a0', cell_later (by repeat' (first | (with_reducible exact hBt) | (with_reducible refine Below.alloc ?_ ?_ _) | (with_reducible refine Below.drew ?_) | (with_reducible refine below_drewN ?_ _) | (with_reducible refine Below.setCell ?_ ?_ _) | exact hBt.size | (have := hBt.size; first | omega | (simp; done) | (simp; omega)))) a1', cell_later (by repeat' (first | (with_reducible exact hBt) | (with_reducible refine Below.alloc ?_ ?_ _) | (with_reducible refine Below.drew ?_) | (with_reducible refine below_drewN ?_ _) | (with_reducible refine Below.setCell ?_ ?_ _) | exact hBt.size | (have := hBt.size; first | omega | (simp; done) | (simp; omega)))) a2'⟩)
      (first
        | (go_at_call 49; refine (back_any _ _).mono ?_; rw [E2.out]; rintro e w9 ⟨rfl, rfl⟩)
        | (go_at_call 38; refine (L4.out (some ⟨gA, 0, none⟩) n (Nat.le_refl _) (by omega) _ (HSA.out.below (by repeat' (first | (with_reducible exact hBt) | (with_reducible refine Below.alloc ?_ ?_ _) | (with_reducible refine Below.drew ?_) | (with_reducible refine below_drewN ?_ _) | (with_reducible refine Below.setCell ?_ ?_ _) | exact hBt.size | (have := hBt.size; first | omega | (simp; done) | (simp; omega)))))).mono ?_; rintro e w9 ⟨gg, rfl, hg, hb9⟩; replace hBt := bel_step (w := V7) (by repeat' (first | (with_reducible exact hBt) | (with_reducible refine Below.alloc ?_ ?_ _) | (with_reducible refine Below.drew ?_) | (with_reducible refine below_drewN ?_ _) | (with_reducible refine Below.setCell ?_ ?_ _) | exact hBt.size | (have := hBt.size; first | omega | (simp; done) | (simp; omega)))) hb9; have hsz9 := hBt.size; (try (have hnl9 := hNB.lt)); (try replace hNB := hNB.later hb9); (try ((first | have hNB := Sb.later (Sb.new _ _ _ _ _) hb9 | have hNB := Sb.later (Sb.drew (Sb.new _ _ _ _ _)) hb9); (try simp only [World.size_drew, size_drewN'] at hNB))); (try (obtain ⟨z0, z1, z2⟩ := hNB.cells)); (try (obtain ⟨y0, y1, y2⟩ := hNB.fr))))
    all_goals
      go_wp2_with fail
      go_meet
      case rel =>
        first
          | exact ⟨_, _, rfl, rfl, Sb.new _ _ _ _ _, (hg.mono (Nat.zero_le _)).alloc _, (by repeat' (first | (with_reducible exact hBt) | (with_reducible refine Below.alloc ?_ ?_ _) | (with_reducible refine Below.drew ?_) | (with_reducible refine below_drewN ?_ _) | (with_reducible refine Below.setCell ?_ ?_ _) | exact hBt.size | (have := hBt.size; first | omega | (simp; done) | (simp; omega))))⟩
          | exact ⟨_, _, rfl, rfl, hNB.put _ _ _, (((hg.mono (Nat.zero_le _)).set _ _ (by have := hg.1; simp at this ⊢; omega)).set _ _ (by have := hg.1; simp at this ⊢; omega)).set _ _ (by have := hg.1; simp at this ⊢; omega), (by repeat' (first | (with_reducible exact hBt) | (with_reducible refine Below.alloc ?_ ?_ _) | (with_reducible refine Below.drew ?_) | (with_reducible refine below_drewN ?_ _) | (with_reducible refine Below.setCell ?_ ?_ _) | exact hBt.size | (have := hBt.size; first | omega | (simp; done) | (simp; omega))))⟩
  case rest =>
    obtain ⟨na, gp, rfl, rfl, hND, hGP, hBx⟩ := hcut
    have SD := Lib.hid (show SlK .u64 wc (some ⟨gp, 0, none⟩) n L by have := hGP.sl; rwa [hLn.out] at this)
    obtain ⟨x0, x1, x2⟩ := (HX.out.later hBx).cells
    obtain ⟨b0', b1', b2'⟩ := (HFB.out.later hBx).cells
    obtain ⟨c0', c1', c2'⟩ := (HFC.out.later hBx).cells
    obtain ⟨d0', d1', d2'⟩ := hND.cells
    have OX := Lib.hid (HO.out.below hBx)
    have SBX := Lib.hid (HSB.out.below hBx)
    have SCX := Lib.hid (HSC.out.below hBx)
    have KB := Lib.hid (bel_step (bel_step HB2.out HC.out) hBx)
    obtain ⟨r1, hr1⟩ : ∃ r, Tu.thenI a1 a2 = r := ⟨_, rfl⟩
    obtain ⟨r2, hr2⟩ : ∃ r, Tu.backI a1 = r := ⟨_, rfl⟩
    have E3 := Lib.hid hr1
    have E4 := Lib.hid hr2
    clear hr1 hr2 hBt hND hGP hBx a0' a1' a2'
    have hBt := Below.refl wc.heap.size wc
    go_wp2_with fail
    go_region_held3 (fun w' => w'.cell? ⟨w5.heap.size, 0, none⟩ = some (.int .i64 bw) ∧ w'.cell? ⟨w5.heap.size, 1, none⟩ = some (.int .i64 bh) ∧ w'.cell? ⟨w5.heap.size, 2, none⟩ = some (.slice (some ⟨gB, 0, none⟩) n n) ∧ w'.cell? ⟨w7.heap.size, 0, none⟩ = some (.int .i64 bw) ∧ w'.cell? ⟨w7.heap.size, 1, none⟩ = some (.int .i64 bh) ∧ w'.cell? ⟨w7.heap.size, 2, none⟩ = some (.slice (some ⟨gC, 0, none⟩) n n) ∧ w'.cell? ⟨na, 0, none⟩ = some (.int .i64 W) ∧ w'.cell? ⟨na, 1, none⟩ = some (.int .i64 H) ∧ w'.cell? ⟨na, 2, none⟩ = some (.slice (some ⟨gp, 0, none⟩) n n) ∧ w'.cell? ⟨w1.heap.size, 0, none⟩ = some (.int .i64 W) ∧ w'.cell? ⟨w1.heap.size, 1, none⟩ = some (.int .i64 H) ∧ w'.cell? ⟨w1.heap.size, 2, none⟩ = some (.slice ga n gc))
      (first | exact ⟨b0', b1', b2', c0', c1', c2', d0', d1', d2', x0, x1, x2⟩ | exact ⟨cell_later (by repeat' (first | (with_reducible exact hBt) | (with_reducible refine Below.alloc ?_ ?_ _) | (with_reducible refine Below.drew ?_) | (with_reducible refine below_drewN ?_ _) | (with_reducible refine Below.setCell ?_ ?_ _) | exact hBt.size | (have := hBt.size; first | omega | (simp; done) | (simp; omega)))) b0', cell_later (by repeat' (first | (with_reducible exact hBt) | (with_reducible refine Below.alloc ?_ ?_ _) | (with_reducible refine Below.drew ?_) | (with_reducible refine below_drewN ?_ _) | (with_reducible refine Below.setCell ?_ ?_ _) | exact hBt.size | (have := hBt.size; first | omega | (simp; done) | (simp; omega)))) b1', cell_later (by repeat' (first | (with_reducible exact hBt) | (with_reducible refine Below.alloc ?_ ?_ _) | (with_reducible refine Below.drew ?_) | (with_reducible refine below_drewN ?_ _) | (with_reducible refine Below.setCell ?_ ?_ _) | exact hBt.size | (have := hBt.size; first | omega | (simp; done) | (simp; omega)))) b2', cell_later (by repeat' (first | (with_reducible exact hBt) | (with_reducible refine Below.alloc ?_ ?_ _) | (with_reducible refine Below.drew ?_) | (with_reducible refine below_drewN ?_ _) | (with_reducible refine Below.setCell ?_ ?_ _) | exact hBt.size | (have := hBt.size; first | omega | (simp; done) | (simp; omega)))) c0', cell_later (by repeat' (first | (with_reducible exact hBt) | (with_reducible refine Below.alloc ?_ ?_ _) | (with_reducible refine Below.drew ?_) | (with_reducible refine below_drewN ?_ _) | (with_reducible refine Below.setCell ?_ ?_ _) | exact hBt.size | (have := hBt.size; first | omega | (simp; done) | (simp; omega)))) c1', cell_later (by repeat' (first | (with_reducible exact hBt) | (with_reducible refine Below.alloc ?_ ?_ _) | (with_reducible refine Below.drew ?_) | (with_reducible refine below_drewN ?_ _) | (with_reducible refine Below.setCell ?_ ?_ _) | exact hBt.size | (have := hBt.size; first | omega | (simp; done) | (simp; omega)))) c2', cell_later (by repeat' (first | (with_reducible exact hBt) | (with_reducible refine Below.alloc ?_ ?_ _) | (with_reducible refine Below.drew ?_) | (with_reducible refine below_drewN ?_ _) | (with_reducible refine Below.setCell ?_ ?_ _) | exact hBt.size | (have := hBt.size; first | omega | (simp; done) | (simp; omega)))) d0', cell_later (by repeat' (first | (with_reducible exact hBt) | (with_reducible refine Below.alloc ?_ ?_ _) | (with_reducible refine Below.drew ?_) | (with_reducible refine below_drewN ?_ _) | (with_reducible refine Below.setCell ?_ ?_ _) | exact hBt.size | (have := hBt.size; first | omega | (simp; done) | (simp; omega)))) d1', cell_later (by repeat' (first | (with_reducible exact hBt) | (with_reducible refine Below.alloc ?_ ?_ _) | (with_reducible refine Below.drew ?_) | (with_reducible refine below_drewN ?_ _) | (with_reducible refine Below.setCell ?_ ?_ _) | exact hBt.size | (have := hBt.size; first | omega | (simp; done) | (simp; omega)))) d2', cell_later (by repeat' (first | (with_reducible exact hBt) | (with_reducible refine Below.alloc ?_ ?_ _) | (with_reducible refine Below.drew ?_) | (with_reducible refine below_drewN ?_ _) | (with_reducible refine Below.setCell ?_ ?_ _) | exact hBt.size | (have := hBt.size; first | omega | (simp; done) | (simp; omega)))) x0, cell_later (by repeat' (first | (with_reducible exact hBt) | (with_reducible refine Below.alloc ?_ ?_ _) | (with_reducible refine Below.drew ?_) | (with_reducible refine below_drewN ?_ _) | (with_reducible refine Below.setCell ?_ ?_ _) | exact hBt.size | (have := hBt.size; first | omega | (simp; done) | (simp; omega)))) x1, cell_later (by repeat' (first | (with_reducible exact hBt) | (with_reducible refine Below.alloc ?_ ?_ _) | (with_reducible refine Below.drew ?_) | (with_reducible refine below_drewN ?_ _) | (with_reducible refine Below.setCell ?_ ?_ _) | exact hBt.size | (have := hBt.size; first | omega | (simp; done) | (simp; omega)))) x2⟩)
      (first
        | (go_at_call 48; refine (then_any _ _ _).mono ?_; (first | rw [E1.out] | rw [E3.out]); rintro e w9 ⟨rfl, rfl⟩)
        | (go_at_call 49; refine (back_any _ _).mono ?_; (first | rw [E2.out] | rw [E4.out]); rintro e w9 ⟨rfl, rfl⟩)
        | (go_at_call 50; refine (refThen_any _ _ _).mono ?_; (first | rw [E1.out] | rw [E3.out]); rintro e w9 ⟨rfl, hb9⟩; replace hBt := bel_step (w := wc) (by repeat' (first | (with_reducible exact hBt) | (with_reducible refine Below.alloc ?_ ?_ _) | (with_reducible refine Below.drew ?_) | (with_reducible refine below_drewN ?_ _) | (with_reducible refine Below.setCell ?_ ?_ _) | exact hBt.size | (have := hBt.size; first | omega | (simp; done) | (simp; omega)))) hb9; have hsz9 := hBt.size)
        | (go_at_call 51; refine (refBack_any _ _).mono ?_; (first | rw [E2.out] | rw [E4.out]); rintro e w9 ⟨rfl, hb9⟩; replace hBt := bel_step (w := wc) (by repeat' (first | (with_reducible exact hBt) | (with_reducible refine Below.alloc ?_ ?_ _) | (with_reducible refine Below.drew ?_) | (with_reducible refine below_drewN ?_ _) | (with_reducible refine Below.setCell ?_ ?_ _) | exact hBt.size | (have := hBt.size; first | omega | (simp; done) | (simp; omega)))) hb9; have hsz9 := hBt.size)
        | (go_at_call 42; refine (as4_any _ _ _ _ _ _).mono ?_; rintro e w9 ⟨rfl, hb9⟩; replace hBt := bel_step (w := wc) (by repeat' (first | (with_reducible exact hBt) | (with_reducible refine Below.alloc ?_ ?_ _) | (with_reducible refine Below.drew ?_) | (with_reducible refine below_drewN ?_ _) | (with_reducible refine Below.setCell ?_ ?_ _) | exact hBt.size | (have := hBt.size; first | omega | (simp; done) | (simp; omega)))) hb9; have hsz9 := hBt.size)
        | (go_at_call 18; (first | (with_reducible refine (HS1.out _ _ _ (SBX.out.below ?_) (SCX.out.below ?_)).mono ?_) | (with_reducible refine (HS2.out _ _ _ _ (SD.out.below ?_) (OX.out.below ?_)).mono ?_)); (exact (by repeat' (first | (with_reducible exact hBt) | (with_reducible refine Below.alloc ?_ ?_ _) | (with_reducible refine Below.drew ?_) | (with_reducible refine below_drewN ?_ _) | (with_reducible refine Below.setCell ?_ ?_ _) | exact hBt.size | (have := hBt.size; first | omega | (simp; done) | (simp; omega))))); (exact (by repeat' (first | (with_reducible exact hBt) | (with_reducible refine Below.alloc ?_ ?_ _) | (with_reducible refine Below.drew ?_) | (with_reducible refine below_drewN ?_ _) | (with_reducible refine Below.setCell ?_ ?_ _) | exact hBt.size | (have := hBt.size; first | omega | (simp; done) | (simp; omega))))); rintro e w9 ⟨rfl, hb9⟩; replace hBt := bel_step (w := wc) (by repeat' (first | (with_reducible exact hBt) | (with_reducible refine Below.alloc ?_ ?_ _) | (with_reducible refine Below.drew ?_) | (with_reducible refine below_drewN ?_ _) | (with_reducible refine Below.setCell ?_ ?_ _) | exact hBt.size | (have := hBt.size; first | omega | (simp; done) | (simp; omega)))) hb9; have hsz9 := hBt.size)
        | (go_at_call 47; refine (lives4_any _).mono ?_; rintro e w9 ⟨rfl, hb9⟩; replace hBt := bel_step (w := wc) (by repeat' (first | (with_reducible exact hBt) | (with_reducible refine Below.alloc ?_ ?_ _) | (with_reducible refine Below.drew ?_) | (with_reducible refine below_drewN ?_ _) | (with_reducible refine Below.setCell ?_ ?_ _) | exact hBt.size | (have := hBt.size; first | omega | (simp; done) | (simp; omega)))) hb9; have hsz9 := hBt.size))
    all_goals
      go_wp2
      go_ret
      exact ⟨rfl, bel_step (w := w) KB.out hBt⟩
end Go.Proofs.Ytlihkdbbcnmbmaa
