/- PlainCuts: a raster that is cut off ahead of its last number is too short; its whole rows were told: the walk of the law. No condition. -/
import Derived.Test.YtldhhhmihfcalaaZgAH
import Derived.Deep.DeepCutAuto
namespace Go.Proofs.Ytldhhhmihfcalaa
open Go.RowKit
set_option linter.unusedVariables false
structure CuQ (wz : World) (kb b : Nat) (sv rv : Value) (st : Pl.S) (W : Int) (w : World) : Prop where
  c : w.cell? ⟨kb, 1, none⟩ = some (.int .i64 W)
  x : PlX w b sv rv st
  bel : Below wz.heap.size wz w
section
variable {wz : World} {kb b : Nat} {sv rv : Value} {st : Pl.S} {W : Int} {w w' : World}
theorem CuQ.later (Q : CuQ wz kb b sv rv st W w) (hb : Below w.heap.size w w') : CuQ wz kb b sv rv st W w' := ⟨cell_later hb Q.c, Q.x.later hb, bel_step Q.bel hb⟩
theorem CuQ.drew (Q : CuQ wz kb b sv rv st W w) : CuQ wz kb b sv rv st W w.drew := Q.later ⟨rfl, rfl, rfl, Nat.le_refl _, fun _ _ => rfl⟩
theorem CuQ.all (Q : CuQ wz kb b sv rv st W w) : w.cell? ⟨kb, 1, none⟩ = some (.int .i64 W) ∧ CuQ wz kb b sv rv st W w := ⟨Q.c, Q⟩
theorem CuQ.rows (Q : CuQ wz kb b sv rv st W w) {R : Int} (hr : st.rows = R) : Calls Try.prog 46 #[.pointer (some ⟨b, 0, none⟩)] w fun e w' => e = .returned (.int .i64 R) ∧ w = w' := by
  have h := plRows_x Q.x; rw [hr] at h; exact h
theorem CuQ.lives (Q : CuQ wz kb b sv rv st W w) : Calls Try.prog 41 #[] w fun e w' => e = .returned (.bool true) ∧ CuQ wz kb b sv rv st W w' :=
  (lives8_any w).mono fun e w' h => ⟨h.1, Q.later h.2⟩
end

set_option maxRecDepth 100000 in
set_option maxHeartbeats 8000000 in
theorem plainCuts_walk (a0k0 a0w1 a0h2 a0m3 : Int) (a1 : Option Addr) (len1 cap1 : Nat) (z1 : List Int) (a2 : Int) (w : World) (w00 : (Lit.int .i64 a0k0).wf = true) (w01 : (Lit.int .i64 a0w1).wf = true) (w02 : (Lit.int .i64 a0h2).wf = true) (w03 : (Lit.int .i64 a0m3).wf = true) (w1 : IsRow .i64 w a1 len1 cap1 z1) (w2 : (Lit.int .i64 a2).wf = true) :
    Calls Try.prog 12 #[.agg #[.int .i64 a0k0, .int .i64 a0w1, .int .i64 a0h2, .int .i64 a0m3], .slice a1 len1 cap1, .int .i64 a2] w fun e w' => e = .returned (.bool true) ∧ Below w.heap.size w w' := by
  have HF : Hj.Fit ⟨a0k0, a0w1, a0h2, a0m3⟩ := ⟨wfI w00, wfI w01, wfI w02, wfI w03⟩
  have hG := refHead_any 4 (by decide) (by decide) _ HF
  have hM := Pl.headV_in 4 (by decide) (by decide) ⟨a0k0, a0w1, a0h2, a0m3⟩
  generalize Pl.headV 4 ⟨a0k0, a0w1, a0h2, a0m3⟩ = G at hG hM
  obtain ⟨hM, hw9, hh9⟩ := hM
  have hmm := hM.m
  obtain ⟨gw, hgw⟩ : ∃ gw : Nat, G.w = (gw : Int) := ⟨G.w.toNat, by omega⟩
  obtain ⟨gh, hgh⟩ : ∃ gh : Nat, G.h = (gh : Int) := ⟨G.h.toNat, by omega⟩
  obtain ⟨N, hN⟩ : ∃ N, gw * gh = N := ⟨_, rfl⟩
  have hN16 : N ≤ 16 := by rw [← hN]; exact Nat.mul_le_mul (show gw ≤ 4 by omega) (show gh ≤ 4 by omega)
  have hN1 : 0 < N := by rw [← hN]; exact Nat.mul_pos (by omega) (by omega)
  have HNG : Hid (G.w * G.h = (N : Int)) := Lib.hid (by rw [hgw, hgh, ← hN]; simp)
  have gN : wrap64 (G.w * G.h) = (N : Int) := by rw [HNG.out, IntWalk.wrap64_in] <;> omega
  have HNN := Lib.hid hN
  have HGW := Lib.hid hgw; have HGH := Lib.hid hgh
  have HM := Lib.hid hM
  have hPX := fun W (hb : Below w.heap.size w W) => refPixels_any w1 G hM N HNG.out (by omega) W hb
  have hRD := fun (s : ByteArray) (h : s.size ≤ 100000) W => plRead_any s h G (may_fit hM) W
  have hnw := plNew_yes G (may_fit hM) hM
  have i2 := wfI w2
  have hj0 := Ar.around_lt a2 (N : Int) (by omega)
  obtain ⟨k, hke⟩ : ∃ k : Nat, Ar.around a2 (N : Int) = (k : Int) := ⟨(Ar.around a2 (N : Int)).toNat, by omega⟩
  have hkN : k < N := by omega
  have HJ : Hid (∀ W, Calls Try.prog 28 #[.int .i64 a2, .int .i64 (N : Int)] W fun e w' => e = .returned (.int .i64 (k : Int)) ∧ W = w') := fun W => by have := aroundOf a2 (N : Int) i2.1 i2.2 (by omega) (by omega) W; rw [hke] at this; exact this
  have v1 : ¬ (gw : Int) = 0 := by omega
  have v2 : ((gw : Int) == 0) = false := by simp; omega
  have v3 : ¬ gw = 0 := by omega
  have v4 : (gw == 0) = false := by simp; omega
  have hgw4 : gw ≤ 4 := by omega
  unfold agH at hRD hnw
  have HRD := Lib.hid hRD
  have HNW := Lib.hid hnw
  clear hN hgw hgh hM hmm hw9 hh9 hj0 hke i2 hRD w2 hnw
  unfold agH at hG hPX
  have HG := Lib.hid hG
  have HPX := Lib.hid hPX
  clear hG hPX HF w00 w01 w02 w03
  go_enter Try.func12, Try.ntmps12
  go_upto_region 1 with fail
  have h1 := box1' w (.cells #[.int .i64 a0k0, .int .i64 a0w1, .int .i64 a0h2, .int .i64 a0m3] 42)
  have HB1 := Lib.hid h1
  clear h1
  go_wp2_with fail
  refine (HG.out _).mono ?_
  rintro e w2 ⟨rfl, hb⟩
  have HB2 := Lib.hid (HB1.out.trans (hb.mono HB1.out.size))
  clear hb HG HB1
  go_upto_region 2 with fail
  generalize hW : w2.alloc (.cells #[.int .i64 G.kd, .int .i64 G.w, .int .i64 G.h, .int .i64 G.m] 42) = w3
  have HK3 : Hid (Hb w3 w2.heap.size 42 G) := by show Hb _ _ _ _; rw [← hW]; exact Hb.new w2 42 G
  have HB3 : Hid (Below w.heap.size w w3) := by show Below _ _ _; rw [← hW]; exact HB2.out.alloc HB2.out.size _
  clear hW
  obtain ⟨kb, hkb⟩ : ∃ k, w2.heap.size = k := ⟨_, rfl⟩
  rw [hkb] at HK3 ⊢
  clear hkb HB2
  obtain ⟨k0, k1, k2, k3⟩ := HK3.out.cells
  go_wp2_with fail
  refine (HPX.out _ HB3.out).mono ?_
  rintro e w4 ⟨pa, pc, l, rfl, hln, hfit, hs, hb⟩
  have HK4 := Lib.hid (HK3.out.later hb)
  have HB4 := Lib.hid (HB3.out.trans (hb.mono HB3.out.size))
  have HP4 := Lib.hid hs
  have HLN := Lib.hid hln
  have HFT := Lib.hid hfit
  clear k0 k1 k2 k3 hs hb hln hfit HPX HK3 HB3
  obtain ⟨k0, k1, k2, k3⟩ := HK4.out.cells
  have HWA := Lib.hid (Pl.wAll_bytes HFT.out l.length (Nat.le_refl _))
  have HXL := Pl.wAll_len (G := G) (l := l) (Pl.goodU HFT.out) l.length (Nat.le_refl _)
  have hRW := fun W (h : SlK .u64 W pa N l) => refWriteP_any pa N pc l G (may_fit HM.out) HM.out (by omega) HNG.out (Pl.goodU HFT.out) W h
  have hwv : Pl.wV G l = .tuple #[.string (strOfNums (Pl.wAll G l l.length)), .int .i64 0] := if_pos (Pl.fits_all HM.out HFT.out)
  have HSQ := Lib.hid (Pl.sq_all HM.out HFT.out l.length (Nat.le_refl _))
  rw [List.take_length] at HSQ
  rw [HLN.out] at HXL hwv HSQ HWA
  rw [hwv] at hRW
  obtain ⟨xs, hxs⟩ : ∃ xs, Pl.wAll G l N = xs := ⟨_, rfl⟩
  rw [hxs] at HXL hRW HSQ HWA
  obtain ⟨n, hn⟩ : ∃ n, xs.length = n := ⟨_, rfl⟩
  rw [hn] at HXL
  have HXN := Lib.hid hn
  obtain ⟨S, hS⟩ : ∃ S, strOfNums xs = S := ⟨_, rfl⟩
  rw [hS] at hRW
  have hSn : S.size = n := by rw [← hS, strOfNums_size, hn]
  have HSE := Lib.hid hS
  have HSN := Lib.hid hSn
  unfold agH at hRW
  have HRW := Lib.hid hRW
  have HXS := Lib.hid hxs
  clear hwv hxs hn hS hSn hRW
  go_wp2_with fail
  refine (HRW.out _ HP4.out).mono ?_
  rintro e w5 ⟨rfl, hb⟩
  have HK5 := Lib.hid (HK4.out.later hb)
  have HB5 := Lib.hid (HB4.out.trans (hb.mono HB4.out.size))
  have HP5 := Lib.hid (HP4.out.below hb)
  clear k0 k1 k2 k3 hb HK4 HB4 HP4 HRW
  obtain ⟨k0, k1, k2, k3⟩ := HK5.out.cells
  have HCN := Lib.hid (Pl.cnt_all HM.out HFT.out l.length (Nat.le_refl _))
  go_wp2_with (go_at_call 28; refine (HJ.out _).mono ?_; rintro e w9 ⟨rfl, rfl⟩)
  have HXS2 : Hid (Pl.wAll G l l.length = xs) := Lib.hid (by rw [HLN.out]; exact HXS.out)
  rw [HXS2.out, HLN.out] at HCN
  go_loopw [13, 14, 15] (fun u13 u14 u15 wr => ∃ i c : Nat, i ≤ n ∧ c ≤ k ∧ u15 = .int .i64 i ∧ u14 = .int .i64 c ∧ u13 = .string (strOfNums (xs.take i)) ∧ (xs.take i).countP (Pl.ends G.kd) = c ∧ (∀ j, j < i → (xs.take j).countP (Pl.ends G.kd) < k) ∧ Below w5.heap.size w5 wr) (fun _ _ u15 _ => n - (intOf u15).toNat)
  case atStart => exact ⟨0, 0, Nat.zero_le _, Nat.zero_le _, rfl, rfl, rfl, rfl, (fun j hj => absurd hj (Nat.not_lt_zero _)), .refl _ _⟩
  case round =>
    obtain ⟨i, c, hi, hck, rfl, rfl, rfl, hcc, hlt, hB⟩ := hrel
    have HB := Lib.hid hB
    have HCC := Lib.hid hcc
    have HLT := Lib.hid hlt
    replace k0 := cell_later hB k0; replace k1 := cell_later hB k1; replace k2 := cell_later hB k2; replace k3 := cell_later hB k3
    have hin : i < n := by
      by_cases h : i < n
      · exact h
      · exfalso
        have e : xs.take i = xs := List.take_of_length_le (by rw [HXN.out]; omega)
        rw [e, HCN.out] at hcc
        omega
    have hix : i < xs.length := by rw [HXN.out]; exact hin
    obtain ⟨T, hT⟩ : ∃ T, strOfNums (xs.take i) = T := ⟨_, rfl⟩
    have hTs : T.size = i := by rw [← hT, strOfNums_size, List.length_take]; omega
    have HTE := Lib.hid hT
    rw [hT]
    have hiS : i < S.size := by rw [HSN.out]; exact hin
    clear hB hT hlt hcc
    have iI : (0 : Int) ≤ (i : Int) := by omega
    have cI : (0 : Int) ≤ (c : Int) := by omega
    have iJ : (i : Int) < (S.size : Int) := by omega
    have iK : (i : Int) + 1 ≤ (S.size : Int) := by omega
    by_cases hc : c < k
    · obtain ⟨x, hx⟩ : ∃ x, xs.getD i 0 = x := ⟨_, rfl⟩
      have hXE : S.extract i (i + 1) = strOfNums [x] := by have := Pl.bytes_part HWA.out hix; rw [HSE.out, hx] at this; exact this
      have hGX : (S[i].toNat : Int) = x := by have := Pl.byte_get HWA.out (i := i) (by rw [HSE.out]; exact hiS) hix; rw [hx] at this; rw [← this]; congr 2; simp only [HSE.out]
      obtain ⟨X, hX⟩ : ∃ X, S.extract i (i + 1) = X := ⟨_, rfl⟩
      have hX1 : X.size = 1 := by rw [← hX, hXE, strOfNums_size]; rfl
      rw [hX] at hXE
      have L0 : T.size + X.size ≤ 9223372036854775807 := by omega
      have L1 : ¬ 9223372036854775807 < T.size + X.size := by omega
      have HTX : Hid (T ++ X = strOfNums (xs.take (i + 1))) := Lib.hid (by rw [Pl.take_getD xs i hix, hx, strOfNums_append, HTE.out, hXE])
      have HCS := Lib.hid (Pl.cnt_succ (p := Pl.ends G.kd) hix)
      rw [hx, HCC.out] at HCS
      have HLT2 : Hid (∀ j, j < i + 1 → (xs.take j).countP (Pl.ends G.kd) < k) := Lib.hid fun j hj => by
        by_cases h : j = i
        · rw [h, HCC.out]; exact hc
        · exact HLT.out j (by omega)
      have cJ : (c : Int) < (k : Int) := by omega
      clear hx hXE hX1 hix
      by_cases hk : G.kd = 1
      · have hk1 : (G.kd == 1) = true := by simp [hk]
        have HKK := Lib.hid hk
        by_cases h10 : x = 10
        · have x1 : ((S[i].toNat : Int) != 10) = false := by rw [hGX, h10]; rfl
          have hk2 : (G.kd != 1) = false := by simp [hk]
          have HEN : Hid (Pl.ends G.kd x = false) := Lib.hid (by rw [hk, h10]; rfl)
          clear hk h10 hGX
          go_wp2_with fail
          go_roundw
          case rel => exact ⟨i + 1, c, by omega, by omega, by go_num, rfl, by rw [← HTX.out], by rw [HCS.out, HEN.out]; simp, HLT2.out, HB.out⟩
          case measure => simp [intOf]; omega
        · have x1 : ((S[i].toNat : Int) != 10) = true := by rw [hGX]; simpa using h10
          have HEN : Hid (Pl.ends G.kd x = true) := Lib.hid (by rw [hk]; exact Pl.ends_one h10)
          clear hk h10 hGX
          go_wp2_with fail
          go_roundw
          case rel => exact ⟨i + 1, c + 1, by omega, by omega, by go_num, by go_num, by rw [← HTX.out], by rw [HCS.out, HEN.out]; simp, HLT2.out, HB.out⟩
          case measure => simp [intOf]; omega
      · have hk1 : (G.kd == 1) = false := by simpa using hk
        have hk2 : (G.kd != 1) = true := by simpa using hk
        by_cases h10 : x = 10
        · have x1 : ((S[i].toNat : Int) == 10) = true := by rw [hGX, h10]; rfl
          have HEN : Hid (Pl.ends G.kd x = true) := Lib.hid (by rw [h10]; exact Pl.ends_ten hk)
          clear hk h10 hGX
          go_wp2_with fail
          go_roundw
          case rel => exact ⟨i + 1, c + 1, by omega, by omega, by go_num, by go_num, by rw [← HTX.out], by rw [HCS.out, HEN.out]; simp, HLT2.out, HB.out⟩
          case measure => simp [intOf]; omega
        · have x1 : ((S[i].toNat : Int) == 10) = false := by rw [hGX]; simpa using h10
          have HEN : Hid (Pl.ends G.kd x = false) := Lib.hid (Pl.ends_no hk h10)
          clear hk h10 hGX
          go_wp2_with fail
          go_roundw
          case rel => exact ⟨i + 1, c, by omega, by omega, by go_num, rfl, by rw [← HTX.out], by rw [HCS.out, HEN.out]; simp, HLT2.out, HB.out⟩
          case measure => simp [intOf]; omega
    · have hce : c = k := by omega
      subst hce
      have cJ : ¬ (c : Int) < (c : Int) := by omega
      have hsq := Pl.cut_sq HM.out HFT.out (i := i) (k := c) (by rw [HLN.out]; exact hkN) (by rw [HXS2.out]; exact HCC.out) (by rw [HXS2.out]; exact HLT.out)
      rw [HXS2.out] at hsq
      obtain ⟨hr, hp⟩ := Pl.read_cut HM.out HFT.out HGW.out HGH.out (by rw [HLN.out, HNN.out]) (k := c) (by rw [HLN.out]; exact hkN) hsq
      have hya : ∀ y ∈ xs.take i, 0 ≤ y ∧ y ≤ 255 := fun y hy => HWA.out y (List.mem_of_mem_take hy)
      obtain ⟨ys, hys⟩ : ∃ ys, xs.take i = ys := ⟨_, rfl⟩
      rw [hys] at hr hp hya HTE
      have hyl : ys.length = i := by rw [← hys, List.length_take]; omega
      have hR : ∀ W, Calls Try.prog 38 #[.string T, .agg #[.int .i64 G.kd, .int .i64 G.w, .int .i64 G.h, .int .i64 G.m]] W fun e w' => ∃ a c, e = .returned (.tuple #[.slice a 0 c, .int .i64 0, .int .i64 6]) ∧ Below W.heap.size W w' := fun W => by
        refine (HRD.out T (by omega) W).mono ?_
        rw [← HTE.out, bytesOf_strOfNums hya, hr]
        rintro e w' ⟨a, c, h1, h2, h3⟩
        exact ⟨a, c, h1, h3⟩
      have HR := Lib.hid hR
      have HP := Lib.hid hp
      have HYA := Lib.hid hya
      have HYL := Lib.hid hyl
      clear hsq hr hp hya hys hyl hR hix hiS
      go_wp2_with fail
      refine (HR.out _).mono ?_
      rintro e w6 ⟨ra, rc, rfl, hb⟩
      have HB6 := Lib.hid (HB.out.trans (hb.mono HB.out.size))
      replace k0 := cell_later hb k0; replace k1 := cell_later hb k1; replace k2 := cell_later hb k2; replace k3 := cell_later hb k3
      clear hb
      go_wp2_with fail
      refine (HNW.out _).mono ?_
      rintro e w7 ⟨b, rfl, hwb, hX, hb⟩
      have K1 := Lib.hid (cell_later hb k1)
      have HB7 := Lib.hid hb
      have HX7 := Lib.hid hX
      have HWB := Lib.hid hwb
      have HB67 := Lib.hid (HB6.out.trans (hb.mono HB6.out.size))
      clear hb hX hwb k0 k1 k2 k3
      have hkb7 : kb < w7.heap.size := by have := HK5.out.lt; have := HB67.out.size; omega
      have hkb6 : kb < b := by have := HK5.out.lt; have := HB6.out.size; have := HWB.out; omega
      go_wp2_with fail
      go_loopw [21] (fun u21 wr => ∃ (j : Nat) (sv rv : Value), j ≤ i ∧ u21 = .int .i64 j ∧ PlX wr b sv rv (Pl.putS (Pl.new G) (ys.take j)) ∧ Below w6.heap.size w6 wr ∧ wr.cell? ⟨kb, 1, none⟩ = some (.int .i64 G.w)) (fun u21 _ => i - (intOf u21).toNat)
      case atStart => exact ⟨0, _, _, Nat.zero_le _, rfl, HX7.out, HB7.out, K1.out⟩
      case round =>
        obtain ⟨j, sv, rv, hj, rfl, hX, hB8, hc8⟩ := hrel
        have HX := Lib.hid hX
        have HB8 := Lib.hid hB8
        have HC8 := Lib.hid hc8
        clear hX hB8 hc8
        have jI : (0 : Int) ≤ (j : Int) := by omega
        by_cases hji : j < i
        · have hjy : j < ys.length := by rw [HYL.out]; exact hji
          have hjT : j < T.size := by omega
          have jJ : (j : Int) < (T.size : Int) := by omega
          obtain ⟨x, hx⟩ : ∃ x, ys.getD j 0 = x := ⟨_, rfl⟩
          have hx255 := HYA.out _ (getD_mem hjy)
          have hGX : (T[j].toNat : Int) = x := by have := Pl.byte_get HYA.out (i := j) (by rw [HTE.out]; exact hjT) hjy; rw [hx] at this; rw [← this]; congr 2; simp only [HTE.out]
          rw [hx] at hx255
          have HPS := Lib.hid (Pl.putS_succ (Pl.new G) hjy)
          rw [hx] at HPS
          have HPP : Hid (Calls Try.prog 45 #[.pointer (some ⟨b, 0, none⟩), .int .u8 (T[j].toNat : Int)] wr (PlPutR wr b sv rv (Pl.put (Pl.putS (Pl.new G) (ys.take j)) x))) := Lib.hid (by rw [hGX]; exact plPut_any x hx255.1 hx255.2 wr b sv rv HX.out)
          clear hx hx255 hGX hjy
          go_wp2_with fail
          refine HPP.out.mono ?_
          rintro e w9 ⟨a9, c9, sv', rv', rfl, hX9, hS9, hA9, hF9, hN9, hM9⟩
          have HX9 := Lib.hid hX9
          have HB9 : Hid (Below w6.heap.size w6 w9) := Lib.hid (HB8.out.trans (hF9.below HB8.out.size (fun y hy hz => by have := (HX.out.z y hz).1; have := HWB.out; omega)))
          have hk9 : w9.cell? ⟨kb, 1, none⟩ = some (.int .i64 G.w) := by
            have hnz : ¬ PlZ b sv rv kb := fun hz => by have := (HX.out.z kb hz).1; omega
            have := hF9.block kb (by have := HB8.out.size; have := HB6.out.size; have := HK5.out.lt; omega) hnz
            rw [World.cell?, this]; exact HC8.out
          have HC9 := Lib.hid hk9
          clear hX9 hS9 hA9 hF9 hN9 hM9 hk9
          go_wp2_with fail
          go_roundw
          case rel => exact ⟨j + 1, sv', rv', by omega, by go_num, by rw [HPS.out]; exact HX9.out, HB9.out, HC9.out⟩
          case measure => simp [intOf]; omega
        · have hje : j = i := by omega
          subst hje
          have jJ : ¬ (j : Int) < (T.size : Int) := by omega
          have hst : Pl.putS (Pl.new G) (ys.take j) = Pl.pst G l gw c := by rw [List.take_of_length_le (by rw [HYL.out]; exact Nat.le_refl _)]; exact HP.out
          have hpe := plEnd_any wr b sv rv HX.out
          rw [hst, Pl.fin_pst] at hpe
          have HPE := Lib.hid hpe
          rw [hst] at HX
          have HXS2 := HX
          clear hst hpe
          go_wp2_with fail
          refine HPE.out.mono ?_
          rintro e w9 ⟨a9, c9, sv', rv', rfl, hX9, hS9, hA9, hF9, hN9, hM9⟩
          have HB9 : Hid (Below w6.heap.size w6 w9) := Lib.hid (HB8.out.trans (hF9.below HB8.out.size (fun y hy hz => by have := (HX.out.z y hz).1; have := HWB.out; omega)))
          have hk9 : w9.cell? ⟨kb, 1, none⟩ = some (.int .i64 G.w) := by
            have hnz : ¬ PlZ b sv rv kb := fun hz => by have := (HX.out.z kb hz).1; omega
            have := hF9.block kb (by have := HB8.out.size; have := HB6.out.size; have := HK5.out.lt; omega) hnz
            rw [World.cell?, this]; exact HC8.out
          rw [HGW.out] at hk9
          obtain ⟨r, hr⟩ : ∃ r : Nat, c / gw = r := ⟨_, rfl⟩
          have hrw : (Pl.wrong (Pl.pst G l gw c) 6).rows = (r : Int) := by rw [← hr]; rfl
          have hrc : r ≤ c := by rw [← hr]; exact Nat.div_le_self _ _
          have hri : (c : Int) / (gw : Int) = (r : Int) := by rw [← hr]; simp
          have e1 : IntKind.i64.wrap ((c : Int) / (gw : Int)) = (r : Int) := by rw [hri, IntWalk.i64_in] <;> omega
          have e3 : IntKind.i64.wrap (Int.tdiv (c : Int) (gw : Int)) = (r : Int) := by rw [Int.tdiv_eq_ediv_of_nonneg (by omega)]; exact e1
          have hq : CuQ w9 kb b sv' rv' (Pl.wrong (Pl.pst G l gw c) 6) gw w9 := ⟨hk9, hX9, .refl _ _⟩
          have HRW := Lib.hid hrw
          clear hrw hX9 hk9 hS9 hA9 hF9 hN9 hM9 hji jJ hri hr
          go_wp2_with fail
          go_region_held3 (fun w' => w'.cell? ⟨kb, 1, none⟩ = some (.int .i64 gw) ∧ CuQ w9 kb b sv' rv' (Pl.wrong (Pl.pst G l gw c) 6) gw w')
            (first | (with_reducible exact CuQ.all hq) | (with_reducible exact CuQ.all hq.drew) | (go_split_ands; with_reducible exact CuQ.all (‹CuQ w9 kb b sv' rv' (Pl.wrong (Pl.pst G l gw c) 6) gw _›)) | (go_split_ands; with_reducible exact CuQ.all (CuQ.drew (‹CuQ w9 kb b sv' rv' (Pl.wrong (Pl.pst G l gw c) 6) gw _›))))
            (first
              | (go_at_call 46; go_split_ands; refine (CuQ.rows (by assumption) HRW.out).mono ?_; rintro e wa ⟨rfl, rfl⟩)
              | (go_at_call 41; go_split_ands; refine (CuQ.lives (by assumption)).mono ?_; rintro e wa ⟨rfl, hqa⟩))
          all_goals
            go_wp2_with fail
            go_ret
            go_split_ands
            refine ⟨rfl, ?_⟩
            have hz := (‹CuQ w9 kb b sv' rv' (Pl.wrong (Pl.pst G l gw c) 6) gw _›).bel
            exact HB5.out.trans ((HB6.out.trans ((HB9.out.trans (hz.mono HB9.out.size)).mono HB6.out.size)).mono HB5.out.size)
end Go.Proofs.Ytldhhhmihfcalaa
