/- RawPlain: pixels told as bytes, and as digits, are the same: the walk of the law. No condition. -/
import Derived.Test.YtflpocnbmpdhiaaZRwM
import Derived.Test.YtflpocnbmpdhiaaZRwWs
import Derived.Test.YtflpocnbmpdhiaaZgAH
import Derived.Test.YtflpocnbmpdhiaaZPlWx
import Derived.Test.YtflpocnbmpdhiaaZgAF
import Derived.Deep.DeepCutAuto
namespace Go.Proofs.Ytflpocnbmpdhiaa
open Go.RowKit
set_option linter.unusedVariables false
set_option maxRecDepth 100000 in
set_option maxHeartbeats 8000000 in
theorem rawPlain_walk (a0k0 a0w1 a0h2 a0m3 : Int) (a1 : Option Addr) (len1 cap1 : Nat) (z1 : List Int) (w : World) (w00 : (Lit.int .i64 a0k0).wf = true) (w01 : (Lit.int .i64 a0w1).wf = true) (w02 : (Lit.int .i64 a0h2).wf = true) (w03 : (Lit.int .i64 a0m3).wf = true) (w1 : IsRow .i64 w a1 len1 cap1 z1) :
    Calls Try.prog 9 #[.agg #[.int .i64 a0k0, .int .i64 a0w1, .int .i64 a0h2, .int .i64 a0m3], .slice a1 len1 cap1] w fun e w' => e = .returned (.bool true) ∧ Below w.heap.size w w' := by
  have HF : Hj.Fit ⟨a0k0, a0w1, a0h2, a0m3⟩ := ⟨wfI w00, wfI w01, wfI w02, wfI w03⟩
  have hG := refRwHead_any 5 (by decide) (by decide) _ HF
  have hM := Rw.headV_in 5 (by decide) (by decide) ⟨a0k0, a0w1, a0h2, a0m3⟩
  generalize Rw.headV 5 ⟨a0k0, a0w1, a0h2, a0m3⟩ = G0 at hG hM
  obtain ⟨hM, hw9, hh9⟩ := hM
  have hmm := hM.m
  obtain ⟨gw, hgw⟩ : ∃ gw : Nat, G0.w = (gw : Int) := ⟨G0.w.toNat, by omega⟩
  obtain ⟨gh, hgh⟩ : ∃ gh : Nat, G0.h = (gh : Int) := ⟨G0.h.toNat, by omega⟩
  obtain ⟨kd, ww, hhh, mx⟩ := G0
  simp only at hgw hgh hmm hw9 hh9
  subst hgw hgh
  obtain ⟨N, hN⟩ : ∃ N, gw * gh = N := ⟨_, rfl⟩
  have hh5 : gh ≤ 5 := by omega
  have hg1 : 1 ≤ gh := by omega
  have hw5 : gw ≤ 5 := by omega
  have hw1 : 1 ≤ gw := by omega
  have hN25 : N ≤ 25 := by rw [← hN]; exact Nat.mul_le_mul hw5 hh5
  have hN1 : 1 ≤ N := by rw [← hN]; exact Nat.mul_pos hw1 hg1
  have hk4 : 4 ≤ kd := by omega
  have hk6 : kd ≤ 6 := by omega
  have hP := rp_may hM
  have hC := rp_chan hM
  have hPX := fun W (hb : Below w.heap.size w W) => rwPixels_own w1 ⟨kd, (gw : Int), (gh : Int), mx⟩ hM N (by simp only; rw [← hN]; simp) (by omega) hN1 W hb
  have hRD := fun (s : ByteArray) (h : s.size ≤ 100000) W => plRead_any s h ⟨kd - 3, (gw : Int), (gh : Int), mx⟩ (may_fit hP) W
  have hPW := fun pb cap l (hU : ∀ p ∈ l, Pq.Px.U p) (h1 : N ≤ cap) (h2 : cap ≤ 9223372036854775807) W hs => plWrite_any pb 0 N cap l ⟨kd - 3, (gw : Int), (gh : Int), mx⟩ hP hU gw gh rfl rfl hN (by omega) hh5 (by omega) h1 h2 W hs
  have hBW := fun pb cap l (hL : l.length = gw * gh) (hfit : Pl.Fits ⟨kd, (gw : Int), (gh : Int), mx⟩ l) (h1 : N ≤ cap) (h2 : cap ≤ 9223372036854775807) W hs => rwWrite_good pb 0 N cap l ⟨kd, (gw : Int), (gh : Int), mx⟩ (Rw.may_fit hM) hM gw gh rfl rfl (by omega) (by omega) hL hN.symm h1 h2 hfit W hs
  have hBR := fun a nb cb bs (hnb : nb ≤ 100000) W hs => rwRead_any a nb cb bs hnb ⟨kd, (gw : Int), (gh : Int), mx⟩ (Rw.may_fit hM) W hs
  unfold agH at hG hPX hRD hPW hBW hBR
  simp only at hG hPX hRD hPW hBW hBR
  have HG := Lib.hid hG; have HPX := Lib.hid hPX; have HRD := Lib.hid hRD; have HPW := Lib.hid hPW; have HBW := Lib.hid hBW; have HBR := Lib.hid hBR
  have HM := Lib.hid hM; have HN := Lib.hid hN; have HP := Lib.hid hP; have HC := Lib.hid hC
  clear hG hPX hRD hPW hBW hBR hM hN hP hC hmm hw9 hh9 HF w00 w01 w02 w03 w1
  go_enter Try.func9, Try.ntmps9
  go_upto_region 1 with fail
  have h1 := box1' w (.cells #[.int .i64 a0k0, .int .i64 a0w1, .int .i64 a0h2, .int .i64 a0m3] 25)
  have HB1 := Lib.hid h1
  clear h1
  go_wp2_with fail
  refine (HG.out _).mono ?_
  rintro e w2 ⟨rfl, hb⟩
  have HB2 := Lib.hid (HB1.out.trans (hb.mono HB1.out.size))
  clear hb HG HB1
  go_upto_region 2 with fail
  generalize hW : w2.alloc (.cells #[.int .i64 kd, .int .i64 (gw : Int), .int .i64 (gh : Int), .int .i64 mx] 25) = w3
  have HK3 : Hid (Hb w3 w2.heap.size 25 ⟨kd, (gw : Int), (gh : Int), mx⟩) := by show Hb _ _ _ _; rw [← hW]; exact Hb.new w2 25 ⟨kd, (gw : Int), (gh : Int), mx⟩
  have HB3 : Hid (Below w.heap.size w w3) := by show Below _ _ _; rw [← hW]; exact HB2.out.alloc HB2.out.size _
  have HS3 : Hid (w2.heap.size < w3.heap.size) := Lib.hid (by rw [← hW]; simp)
  clear hW
  obtain ⟨kb, hkb⟩ : ∃ k, w2.heap.size = k := ⟨_, rfl⟩
  have hkw : w.heap.size ≤ kb := by rw [← hkb]; exact HB2.out.size
  rw [hkb] at HK3 HS3 ⊢
  clear hkb HB2
  obtain ⟨k0, k1, k2, k3⟩ := HK3.out.cells
  go_upto_region 3 with fail
  have hkn := Hb.new w3 25 ⟨kd, (gw : Int), (gh : Int), mx⟩
  generalize hW : w3.alloc (.cells #[.int .i64 kd, .int .i64 (gw : Int), .int .i64 (gh : Int), .int .i64 mx] 25) = w4 at hkn ⊢
  have HK4 : Hid (Hb w4 kb 25 ⟨kd, (gw : Int), (gh : Int), mx⟩) := by show Hb _ _ _ _; rw [← hW]; exact HK3.out.later (box1' _ _)
  have HB4 : Hid (Below w.heap.size w w4) := by show Below _ _ _; rw [← hW]; exact HB3.out.alloc HB3.out.size _
  obtain ⟨kp, hkp⟩ : ∃ k, w3.heap.size = k := ⟨_, rfl⟩
  have hkk : kb < kp := by rw [← hkp]; exact HS3.out
  rw [hkp] at hkn ⊢
  have HQ4 := Lib.hid hkn
  obtain ⟨f0, f1, f2, f3⟩ := hkn.fr
  obtain ⟨q0, q1, q2, q3⟩ := hkn.cells
  clear hW hkp hkn HK3 HB3 HS3 k0 k1 k2 k3
  obtain ⟨k0, k1, k2, k3⟩ := HK4.out.cells
  go_upto_region 4 with fail
  generalize hW : w4.setCell ⟨kp, 0, none⟩ (.int .i64 (kd - 3)) = w5
  have HQ5 : Hid (Hb w5 kp 25 ⟨kd - 3, (gw : Int), (gh : Int), mx⟩) := by
    have h' : w4.heap[kp]? = _ := HQ4.out
    have := Go.heap_setCell_same w4 kp 0 _ _ (.int .i64 (kd - 3)) h'
    rw [hW] at this
    exact Lib.hid (by simpa [Hb] using this)
  have HK5 : Hid (Hb w5 kb 25 ⟨kd, (gw : Int), (gh : Int), mx⟩) := by show Hb _ _ _ _; rw [← hW]; exact Hj.set_far HK4.out (by omega)
  have HB5 : Hid (Below w.heap.size w w5) := by show Below _ _ _; rw [← hW]; exact HB4.out.setCell (p := ⟨kp, 0, none⟩) (by show _ ≤ kp; omega) _
  clear hW k0 k1 k2 k3 f0 f1 f2 f3 q0 q1 q2 q3 HK4 HB4 HQ4
  obtain ⟨k0, k1, k2, k3⟩ := HK5.out.cells
  go_wp2_with fail
  refine (HPX.out _ HB5.out).mono ?_
  rintro e w6 ⟨pb, cp, l, rfl, hln, hfit, hs, hpb, hp6, hfz, hc1, hc2, hb⟩
  have HK6 := Lib.hid (HK5.out.later hb); have HQ6 := Lib.hid (HQ5.out.later hb)
  have HB6 := Lib.hid (HB5.out.trans (hb.mono HB5.out.size))
  have HP6 := Lib.hid hs
  have hfitP : Pl.Fits ⟨kd - 3, (gw : Int), (gh : Int), mx⟩ l := fun p hp => by rw [HC.out]; exact hfit p hp
  have hL : l.length = gw * gh := by rw [hln, HN.out]
  have HLN := Lib.hid hln
  obtain ⟨bs, hbs⟩ : ∃ bs, Rw.wRows ⟨kd, (gw : Int), (gh : Int), mx⟩ l gw gh = bs := ⟨_, rfl⟩
  have hbl := Rw.wRows_len HM.out hfit rfl hL gh (Nat.le_refl _)
  have hst := (Rw.stride_at HM.out).2.1
  have hbi : ∀ z ∈ bs, 0 ≤ z ∧ z ≤ 255 := by rw [← hbs]; exact Rw.wRows_in HM.out hfit gh
  have hrd := Rw.read_good HM.out hfit rfl rfl hL []
  rw [List.append_nil, hbs] at hrd
  rw [hbs] at hbl
  obtain ⟨sz, hsz⟩ : ∃ sz, bs.length = sz := ⟨_, rfl⟩
  have hsz9 : sz ≤ 122880 := by rw [← hsz, hbl]; exact Nat.mul_le_mul hh5 hst
  have hsz8 : sz ≤ 100000 := by rw [← hsz, hbl]; exact Nat.le_trans (Nat.mul_le_mul hh5 (rp_small HM.out hw5)) (by decide)
  have hBW1 := HBW.out pb cp l hL hfit hc1 hc2 w6 hs
  rw [hbs] at hBW1
  unfold RwwR at hBW1
  simp only [hsz] at hBW1
  have HBW1 := Lib.hid hBW1
  have HBR1 : Hid (∀ a cb W, Bt.Bs W a sz cb bs → Calls Try.prog 25 #[.slice a sz cb, .agg #[.int .i64 kd, .int .i64 (gw : Int), .int .i64 (gh : Int), .int .i64 mx]] W fun e w' => ∃ a c, e = .returned (.tuple #[.slice a N c, .int .i64 0]) ∧ SlK .u64 w' a N l ∧ Below W.heap.size W w') := Lib.hid fun a cb W h => by
    refine (HBR.out a sz cb bs hsz8 W h).mono ?_
    rw [hrd]
    rintro e w' ⟨a, c, h1, h2, h3⟩
    simp only [HLN.out] at h1 h2
    exact ⟨a, c, h1, h2, h3⟩
  have HBI := Lib.hid hbi
  have hPW1 := fun W h => HPW.out pb cp l (Pl.goodU hfit) hc1 hc2 W h
  have hwv : Pl.wV ⟨kd - 3, (gw : Int), (gh : Int), mx⟩ l = .tuple #[.string (strOfNums (Pl.wAll ⟨kd - 3, (gw : Int), (gh : Int), mx⟩ l l.length)), .int .i64 0] := if_pos (Pl.fits_all HP.out hfitP)
  rw [hwv, hln] at hPW1
  have hwa := Pl.wAll_bytes hfitP l.length (Nat.le_refl _)
  have hxl := Pl.wAll_len (G := ⟨kd - 3, (gw : Int), (gh : Int), mx⟩) (l := l) (Pl.goodU hfitP) l.length (Nat.le_refl _)
  have hsq := Pl.sq_all HP.out hfitP l.length (Nat.le_refl _)
  rw [List.take_length] at hsq
  obtain ⟨m, hm1, hm2, hm3⟩ := Pl.read_all (W := gw) (H := gh) HP.out hfitP rfl rfl hL (es := []) (by intro e he; cases he) hsq
  rw [hln] at hwa hxl hm1 hm2 hm3
  rw [List.nil_append] at hm1
  rw [List.length_nil, Nat.zero_add] at hm2 hm3
  obtain ⟨xs, hxs⟩ : ∃ xs, Pl.wAll ⟨kd - 3, (gw : Int), (gh : Int), mx⟩ l N = xs := ⟨_, rfl⟩
  rw [hxs] at hPW1 hwa hxl hm1 hm2 hm3
  obtain ⟨S, hS⟩ : ∃ S, strOfNums xs = S := ⟨_, rfl⟩
  rw [hS] at hPW1
  have HPW1 := Lib.hid hPW1
  have hSs : S.size = xs.length := by rw [← hS, strOfNums_size]
  have HR : Hid (∀ W, Calls Try.prog 44 #[.string S, .agg #[.int .i64 (kd - 3), .int .i64 (gw : Int), .int .i64 (gh : Int), .int .i64 mx]] W fun e w' => ∃ a c, e = .returned (.tuple #[.slice a N c, .int .i64 m, .int .i64 0]) ∧ SlK .u64 w' a N l ∧ Below W.heap.size W w') := Lib.hid fun W => by
    refine (HRD.out S (by omega) W).mono ?_
    rw [← hS, bytesOf_strOfNums hwa, hm1]
    rintro e w' ⟨a, c, h1, h2, h3⟩
    simp only [HLN.out] at h1 h2
    exact ⟨a, c, h1, h2, h3⟩
  clear hwv hsq hwa hxl hm1 hm2 hm3 hxs hS hSs hs hb hln hfit hfitP hfz HPX HRD HPW HBW HBR hPW1 hBW1 hbs hbl hst hbi hrd hsz hsz9 hsz8 hL k0 k1 k2 k3 HK5 HB5 HQ5
  obtain ⟨k0, k1, k2, k3⟩ := HK6.out.cells
  go_wp2_with fail
  refine HBW1.out.mono ?_
  rintro e w7 ⟨ba, bc, rfl, hsl, hcp, hb⟩
  have HK7 := Lib.hid (HK6.out.later hb); have HQ7 := Lib.hid (HQ6.out.later hb); have HB7 := Lib.hid (HB6.out.trans (hb.mono HB6.out.size)); have HP7 := Lib.hid (HP6.out.below hb)
  have HA7 : Hid (Bt.Bs w7 ba sz bc bs) := Lib.hid ⟨hsl, hcp.1, hcp.2, HBI.out⟩
  clear hb hsl hcp HK6 HQ6 HB6 HP6 k0 k1 k2 k3 HBW1 HBI
  obtain ⟨k0, k1, k2, k3⟩ := HQ7.out.cells
  simp only at k0 k1 k2 k3
  go_wp2_with fail
  refine (HPW1.out _ HP7.out).mono ?_
  rintro e w8 ⟨rfl, hb⟩
  have HK8 := Lib.hid (HK7.out.later hb); have HQ8 := Lib.hid (HQ7.out.later hb); have HB8 := Lib.hid (HB7.out.trans (hb.mono HB7.out.size)); have HP8 := Lib.hid (HP7.out.below hb); have HA8 := Lib.hid (HA7.out.below hb)
  clear hb HK7 HQ7 HB7 HP7 HA7 k0 k1 k2 k3 HPW1
  obtain ⟨k0, k1, k2, k3⟩ := HK8.out.cells
  simp only at k0 k1 k2 k3
  go_wp2_with fail
  refine (HBR1.out _ _ _ HA8.out).mono ?_
  rintro e w9 ⟨xa, xc, rfl, hx, hb⟩
  have HQ9 := Lib.hid (HQ8.out.later hb); have HB9 := Lib.hid (HB8.out.trans (hb.mono HB8.out.size)); have HP9 := Lib.hid (HP8.out.below hb)
  have HX9 := Lib.hid hx
  clear hb hx HK8 HQ8 HB8 HP8 HA8 k0 k1 k2 k3 HBR1
  obtain ⟨k0, k1, k2, k3⟩ := HQ9.out.cells
  simp only at k0 k1 k2 k3
  go_wp2_with fail
  refine (HR.out _).mono ?_
  rintro e w10 ⟨ya, yc, rfl, hy, hb⟩
  have HB10 := Lib.hid (HB9.out.trans (hb.mono HB9.out.size)); have HP10 := Lib.hid (HP9.out.below hb); have HX10 := Lib.hid (HX9.out.below hb)
  have HY10 := Lib.hid hy
  clear hb hy HQ9 HB9 HP9 HX9 k0 k1 k2 k3 HR
  go_wp2_with fail
  refine (same_yes xa ya N xc yc l _ (by omega) HX10.out HY10.out).mono ?_
  rintro e w11 ⟨rfl, hb⟩
  have HB11 := Lib.hid (HB10.out.trans (hb.mono HB10.out.size)); have HP11 := Lib.hid (HP10.out.below hb); have HX11 := Lib.hid (HX10.out.below hb)
  clear hb
  go_wp2_with fail
  refine (same_yes xa (some ⟨pb, 0, none⟩) N xc cp l _ (by omega) HX11.out HP11.out).mono ?_
  rintro e w12 ⟨rfl, hb⟩
  have HB12 := Lib.hid (HB11.out.trans (hb.mono HB11.out.size))
  clear hb
  go_wp2_with fail
  refine (lives9_any _).mono ?_
  rintro e w13 ⟨rfl, hb⟩
  have HB13 := Lib.hid (HB12.out.trans (hb.mono HB12.out.size))
  clear hb
  go_wp2
  go_ret
  exact ⟨rfl, HB13.out⟩
end Go.Proofs.Ytflpocnbmpdhiaa
