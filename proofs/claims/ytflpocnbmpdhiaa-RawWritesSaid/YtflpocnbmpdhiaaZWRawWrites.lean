/- RawWrites: a raster of pixels is the document's, or refused; it is read as it was: the walk of the law. No condition. -/
import Derived.Test.YtflpocnbmpdhiaaZgAI
import Derived.Test.YtflpocnbmpdhiaaZRwM
import Derived.Test.YtflpocnbmpdhiaaZRwJ
import Derived.Test.YtflpocnbmpdhiaaZgAA
import Derived.Deep.DeepCutAuto
import Derived.Deep.RegionHeld3
namespace Go.Proofs.Ytflpocnbmpdhiaa
open Go.RowKit
set_option linter.unusedVariables false
set_option maxRecDepth 100000 in
set_option maxHeartbeats 8000000 in
theorem rawWrites_walk (a0k0 a0w1 a0h2 a0m3 : Int) (a1 : Option Addr) (len1 cap1 : Nat) (z1 : List Int) (a2 : Int) (a3 : Int) (a4 : Option Addr) (len4 cap4 : Nat) (z4 : List Int) (w : World) (w00 : (Lit.int .i64 a0k0).wf = true) (w01 : (Lit.int .i64 a0w1).wf = true) (w02 : (Lit.int .i64 a0h2).wf = true) (w03 : (Lit.int .i64 a0m3).wf = true) (w1 : IsRow .i64 w a1 len1 cap1 z1) (w2 : (Lit.int .i64 a2).wf = true) (w3 : (Lit.int .u64 a3).wf = true) (w4 : IsRow .u8 w a4 len4 cap4 z4) :
    Calls Try.prog 7 #[.agg #[.int .i64 a0k0, .int .i64 a0w1, .int .i64 a0h2, .int .i64 a0m3], .slice a1 len1 cap1, .int .i64 a2, .int .u64 a3, .slice a4 len4 cap4] w fun e w' => e = .returned (.bool true) ∧ Below w.heap.size w w' := by
  obtain ⟨i0, hi, hz0, hz1, hz2⟩ : ∃ i, Try.prog.info? 5 = some i ∧ i.zero = some (.int .u8 0) ∧ i.size = 1 ∧ i.bytes = 1 := (by have h := Bt.Try.info_byt; cases hh : Try.prog.info? 5 with | none => rw [hh] at h; cases h | some i => rw [hh] at h; simp at h; exact ⟨i, rfl, h.1, h.2.1, h.2.2⟩)
  have HF : Hj.Fit ⟨a0k0, a0w1, a0h2, a0m3⟩ := ⟨wfI w00, wfI w01, wfI w02, wfI w03⟩
  have hG := refRwHead_any 30 (by decide) (by decide) _ HF
  have hM := Rw.headV_in 30 (by decide) (by decide) ⟨a0k0, a0w1, a0h2, a0m3⟩
  generalize Rw.headV 30 ⟨a0k0, a0w1, a0h2, a0m3⟩ = G0 at hG hM
  obtain ⟨hM0, hw9, hh9⟩ := hM
  have hmm0 := hM0.m
  obtain ⟨gw, hgw⟩ : ∃ gw : Nat, G0.w = (gw : Int) := ⟨G0.w.toNat, by omega⟩
  obtain ⟨h0, hh0⟩ : ∃ h0 : Nat, G0.h = (h0 : Int) := ⟨G0.h.toNat, by omega⟩
  obtain ⟨gh, hgh⟩ : ∃ gh : Nat, 1 + h0 % 4 = gh := ⟨_, rfl⟩
  obtain ⟨kd, ww, hhh, mx⟩ := G0
  simp only at hgw hh0 hmm0 hw9 hh9
  subst hgw hh0
  have hM : Rw.May ⟨kd, (gw : Int), (gh : Int), mx⟩ := by
    obtain ⟨h1, h2⟩ := hM0
    obtain ⟨c1, c2, c3, c4, c5⟩ := h1
    exact ⟨⟨c1, c2, ⟨by simp only; omega, by simp only; omega⟩, c4, c5⟩, h2⟩
  obtain ⟨N, hN⟩ : ∃ N, gw * gh = N := ⟨_, rfl⟩
  have hg4 : gh ≤ 4 := by omega
  have hg1 : 1 ≤ gh := by omega
  have hw30 : gw ≤ 30 := by omega
  have hw1 : 1 ≤ gw := by omega
  have hN120 : N ≤ 120 := by rw [← hN]; exact Nat.mul_le_mul hw30 hg4
  have hN1 : 1 ≤ N := by rw [← hN]; exact Nat.mul_pos hw1 hg1
  have HGI := Lib.hid (show (1 : Int) + (h0 : Int) % 4 = (gh : Int) by omega)
  have hPX := fun W (hb : Below w.heap.size w W) => rwPixels_own w1 ⟨kd, (gw : Int), (gh : Int), mx⟩ hM N (by simp only; rw [← hN]; simp) (by omega) hN1 W hb
  have hBW := fun pb cap l (hL : l.length = gw * gh) (hU : ∀ p ∈ l, Pq.Px.U p) (h1 : N ≤ cap) (h2 : cap ≤ 9223372036854775807) W hs => rwWrite_any pb 0 N cap l ⟨kd, (gw : Int), (gh : Int), mx⟩ (Rw.may_fit hM) hM gw gh rfl rfl (by omega) (by omega) hL hN.symm h1 h2 hU W hs
  have hRW := fun pb cap l (hU : ∀ p ∈ l, Pq.Px.U p) W hs => refRawWrite_any (some ⟨pb, 0, none⟩) N cap l ⟨kd, (gw : Int), (gh : Int), mx⟩ (Rw.may_fit hM) hM (by omega) (by simp only; rw [← hN]; simp) hU W hs
  have hBN := fun pb n cap (hn : n < N) W => rwWrite_len (some ⟨pb, 0, none⟩) n cap ⟨kd, (gw : Int), (gh : Int), mx⟩ (Rw.may_fit hM) hM (by simp only; rw [← Int.natCast_mul, hN]; omega) (by simp only; rw [← Int.natCast_mul, hN]; omega) W
  have hBR := fun a nb cb bs (hnb : nb ≤ 100000) W hs => rwRead_any a nb cb bs hnb ⟨kd, (gw : Int), (gh : Int), mx⟩ (Rw.may_fit hM) W hs
  have hSZ := refSize_any ⟨kd, (gw : Int), (gh : Int), mx⟩ hM.1
  obtain ⟨sz, hsz⟩ : ∃ sz, gh * Rw.stride ⟨kd, (gw : Int), (gh : Int), mx⟩ = sz := ⟨_, rfl⟩
  have hst := Rw.stride_at hM
  have hsz9 : sz ≤ 98304 := by rw [← hsz]; exact Nat.mul_le_mul hg4 hst.2.1
  have hsz1 : 1 ≤ sz := by rw [← hsz]; exact Nat.mul_pos hg1 hst.1
  rw [show Hj.size ⟨kd, (gw : Int), (gh : Int), mx⟩ = (sz : Int) by rw [Rw.size_eq hM, ← hsz, Int.natCast_mul]] at hSZ
  have i2 := wfI w2
  have hj0 := Ar.around_lt a2 (N : Int) (by omega)
  obtain ⟨k, hke⟩ : ∃ k : Nat, Ar.around a2 (N : Int) = (k : Int) := ⟨(Ar.around a2 (N : Int)).toNat, by omega⟩
  have hkN : k < N := by omega
  have HJ : Hid (∀ W, Calls Try.prog 15 #[.int .i64 a2, .int .i64 (N : Int)] W fun e w' => e = .returned (.int .i64 (k : Int)) ∧ W = w') := fun W => by have := aroundOf a2 (N : Int) i2.1 i2.2 (by omega) (by omega) W; rw [hke] at this; exact this
  have HU3 : Hid (Pq.Px.U a3) := Lib.hid (rws_wfP w3)
  obtain ⟨l1, l2, l3, l4⟩ := isrow_len w4
  obtain ⟨m, hmc⟩ : ∃ m, ((len4 ≤ 5 ∧ m = len4) ∨ (5 < len4 ∧ m = 5)) := ⟨min len4 5, by omega⟩
  have hm4 : m ≤ len4 := by omega
  have hm5 : m ≤ 5 := by omega
  have HMO := Lib.hid (Rw.bs_in w4 m hm4)
  obtain ⟨mr, hmr⟩ : ∃ mr, z4.take m = mr := ⟨_, rfl⟩
  rw [hmr] at HMO
  unfold agH at hG hPX hBW hRW hBN hBR hSZ
  simp only at hG hPX hBW hRW hBN hBR hSZ
  have HG := Lib.hid hG; have HPX := Lib.hid hPX; have HBW := Lib.hid hBW; have HRW := Lib.hid hRW; have HBN := Lib.hid hBN; have HBR := Lib.hid hBR; have HSZ := Lib.hid hSZ
  have HM := Lib.hid hM; have HN := Lib.hid hN; have HSS := Lib.hid hsz; have HMC := Lib.hid hmc
  clear hG hPX hBW hRW hBN hBR hSZ hM hN hsz hst hM0 hmm0 hw9 hh9 i2 hj0 hke HF w00 w01 w02 w03 w1 w2 w3 w4 hgh hmc hmr
  go_enter Try.func7, Try.ntmps7
  go_upto_region 1 with fail
  have h1 := box1' w (.cells #[.int .i64 a0k0, .int .i64 a0w1, .int .i64 a0h2, .int .i64 a0m3] 25)
  have HB1 := Lib.hid h1
  clear h1
  go_wp2_with fail
  refine (HG.out _).mono ?_
  rintro e w2 ⟨rfl, hb⟩
  have HB2 := Lib.hid (HB1.out.trans (hb.mono HB1.out.size))
  clear hb HG HB1
  go_upto_region 2 with fail
  have hkn := Hb.new w2 25 ⟨kd, (gw : Int), (h0 : Int), mx⟩
  generalize hW : w2.alloc (.cells #[.int .i64 kd, .int .i64 (gw : Int), .int .i64 (h0 : Int), .int .i64 mx] 25) = w3 at hkn ⊢
  have HB3 : Hid (Below w.heap.size w w3) := by show Below _ _ _; rw [← hW]; exact HB2.out.alloc HB2.out.size _
  obtain ⟨kb, hkb⟩ : ∃ k, w2.heap.size = k := ⟨_, rfl⟩
  have hkw : w.heap.size ≤ kb := by rw [← hkb]; exact HB2.out.size
  rw [hkb] at hkn ⊢
  have HK3 := Lib.hid hkn
  obtain ⟨k0, k1, k2, k3⟩ := hkn.cells
  obtain ⟨f0, f1, f2, f3⟩ := hkn.fr
  have hgi := HGI.out
  clear hW hkb HB2 hkn
  go_upto_region 3 with fail
  generalize hW : w3.setCell ⟨kb, 2, none⟩ (.int .i64 (gh : Int)) = w4
  have HK4 : Hid (Hb w4 kb 25 ⟨kd, (gw : Int), (gh : Int), mx⟩) := by
    have h' : w3.heap[kb]? = _ := HK3.out
    have := Go.heap_setCell_same w3 kb 2 _ _ (.int .i64 (gh : Int)) h'
    rw [hW] at this
    exact Lib.hid (by simpa [Hb] using this)
  have HB4 : Hid (Below w.heap.size w w4) := by show Below _ _ _; rw [← hW]; exact HB3.out.setCell (p := ⟨kb, 2, none⟩) hkw _
  clear hW k0 k1 k2 k3 f0 f1 f2 f3 HK3 HB3 hgi
  obtain ⟨k0, k1, k2, k3⟩ := HK4.out.cells
  go_wp2_with fail
  refine (HPX.out _ HB4.out).mono ?_
  rintro e w5 ⟨pb, cp, l, rfl, hln, hfit, hs, hpb, hp5, hfz, hc1, hc2, hb⟩
  have HK5 := Lib.hid (HK4.out.later hb)
  have HB5 := Lib.hid (HB4.out.trans (hb.mono HB4.out.size))
  have HP5 := Lib.hid hs
  have HZ5 := Lib.hid hfz
  have HL5 := Lib.hid hp5
  have hpw : w.heap.size ≤ pb := Nat.le_trans HB4.out.size hpb
  have hkp : kb < pb := Nat.lt_of_lt_of_le HK4.out.lt hpb
  have hL : l.length = gw * gh := by rw [hln, HN.out]
  have hUl := Pl.goodU hfit
  have hwt := Rw.writeT_good HM.out hfit rfl rfl hL
  have hbl : (Rw.wRows ⟨kd, (gw : Int), (gh : Int), mx⟩ l gw gh).length = sz := by rw [Rw.wRows_len HM.out hfit rfl hL gh (Nat.le_refl _), HSS.out]
  have hrd := fun more => Rw.read_good HM.out hfit rfl rfl hL more
  have hrc := Rw.read_cut HM.out hfit rfl rfl hL (k := sz - 1) (by rw [hbl]; omega)
  have hbi : ∀ z ∈ Rw.wRows ⟨kd, (gw : Int), (gh : Int), mx⟩ l gw gh, 0 ≤ z ∧ z ≤ 255 := Rw.wRows_in HM.out hfit gh
  have hBW1 := fun W h => HBW.out pb cp l hL hUl hc1 hc2 W h
  have hRW1 := fun W h => HRW.out pb cp l hUl W h
  rw [hwt] at hBW1 hRW1
  obtain ⟨bs, hbs⟩ : ∃ bs, Rw.wRows ⟨kd, (gw : Int), (gh : Int), mx⟩ l gw gh = bs := ⟨_, rfl⟩
  rw [hbs] at hBW1 hRW1 hbl hrd hrc hbi
  unfold RwwR at hBW1 hRW1
  simp only [hbl] at hBW1 hRW1
  have HBW1 := Lib.hid hBW1; have HRW1 := Lib.hid hRW1; have HRD := Lib.hid hrd; have HRC := Lib.hid hrc; have HBI := Lib.hid hbi; have HBL := Lib.hid hbl; have HLN := Lib.hid hln; have HUL := Lib.hid hUl; have HLL := Lib.hid hL
  clear hs hb hln hfit hfz hp5 hL hUl hwt hbl hrd hrc hbi hBW1 hRW1 hbs HPX k0 k1 k2 k3 HK4 HB4
  obtain ⟨k0, k1, k2, k3⟩ := HK5.out.cells
  go_wp2_with fail
  refine (HBW1.out _ HP5.out).mono ?_
  rintro e w6 ⟨ba, bc, rfl, hsl, hcp, hb⟩
  have hbc1 := hcp.1
  have hbc2 := hcp.2
  have HK6 := Lib.hid (HK5.out.later hb); have HB6 := Lib.hid (HB5.out.trans (hb.mono HB5.out.size)); have HP6 := Lib.hid (HP5.out.below hb)
  have HA6 : Hid (Bt.Bs w6 ba sz bc bs) := Lib.hid ⟨hsl, hbc1, hbc2, HBI.out⟩
  have HD6 := Lib.hid hb
  clear hb hsl hcp HK5 HP5 k0 k1 k2 k3
  obtain ⟨k0, k1, k2, k3⟩ := HK6.out.cells
  go_wp2_with fail
  refine (HRW1.out _ HP6.out).mono ?_
  rintro e w7 ⟨ca, cc, rfl, hsl, hcp, hb⟩
  have HK7 := Lib.hid (HK6.out.later hb); have HB7 := Lib.hid (HB6.out.trans (hb.mono HB6.out.size)); have HP7 := Lib.hid (HP6.out.below hb); have HA7 := Lib.hid (HA6.out.below hb)
  have HD7 := Lib.hid (HD6.out.trans (hb.mono HD6.out.size))
  have C1 := Cv.conv_slk (cap := bc) HA7.out.1
  have C2 := Cv.conv_slk (cap := cc) hsl
  obtain ⟨S, hS⟩ : ∃ S, strOfNums bs = S := ⟨_, rfl⟩
  rw [hS] at C1 C2
  clear hS hb hsl hcp HK6 HB6 HP6 HA6 HD6 HBW1 HRW1 k0 k1 k2 k3
  obtain ⟨k0, k1, k2, k3⟩ := HK7.out.cells
  go_upto_region 9 with (go_at_call 41; refine (HSZ.out _).mono ?_; rintro e w8 ⟨rfl, hb8⟩; have HK8 := Lib.hid (HK7.out.later hb8); have HB8 := Lib.hid (HB7.out.trans (hb8.mono HB7.out.size)); have HP8 := Lib.hid (HP7.out.below hb8); have HA8 := Lib.hid (HA7.out.below hb8); have HD8 := Lib.hid (HD7.out.trans (hb8.mono HD7.out.size)); clear hb8)
  clear C1 C2 HK7 HB7 HP7 HA7 HD7 HSZ k0 k1 k2 k3
  go_upto_region 10 with (at_builtin; refine wpList_app rfl _ _ 33 rfl w.heap.size 5 i0 .u8 1 Try.underlying33 hi hz0 hz1 hz2 (.slice none 0 0) 0 [] rfl (World.ownsRow_nil _ _ _ _) ba sz bc bs rfl HA8.out.1 (by unfold maxLen; omega) (by omega) HB8.out.size ?_; intro v9 w9 ho9 hg9 hv9)
  have HO9 := Lib.hid ho9; have HG9 := Lib.hid hg9; have HV9 := Lib.hid hv9
  clear ho9 hg9 hv9
  go_cut [17] from 75 to 81 (fun s17 wx => ∃ g ac, s17 = .slice (some ⟨g, 0, none⟩) (sz + m) ac ∧ Bt.Bs wx (some ⟨g, 0, none⟩) (sz + m) ac (bs ++ mr) ∧ Below w8.heap.size w8 wx)
  case first =>
    have hb89 : Below w8.heap.size w8 w9 := (Below.refl w8.heap.size w8).grown HG9.out (Nat.le_refl _) (by intro j e; cases e)
    have hm9 := (HMO.out.below HB8.out).below hb89
    have hws9 := Nat.le_trans HB8.out.size hb89.size
    have hmc := HMC.out
    rcases hmc with ⟨hmc1, hmc2⟩ | ⟨hmc1, hmc2⟩
    all_goals
      have hmn : min (len4 : Int) 5 = (m : Int) := by omega
      go_wp2_with (at_builtin; refine wpList_app rfl _ _ 33 rfl w.heap.size 5 i0 .u8 1 Try.underlying33 hi hz0 hz1 hz2 v9 (0 + sz) _ rfl HO9.out a4 m cap4 mr (by first | rfl | (show Value.slice _ _ _ = Value.slice _ _ _; congr 1; omega)) hm9.1 (by unfold maxLen; omega) (by omega) hws9 ?_; intro v10 w10 ho10 hg10 hv10)
      all_goals
        go_meet
        case rel =>
          rw [List.nil_append, ← List.map_append, Nat.zero_add] at ho10
          obtain ⟨g, c, e, h1, h2, h3⟩ := rws_app ho10 (by rw [List.length_append, HBL.out, hm9.1.1]) (by omega)
          refine ⟨g, c, e, ⟨h1, h2, h3, fun z hz => ?_⟩, hb89.grown hg10 hb89.size (fun j ej => ?_)⟩
          · rcases List.mem_append.1 hz with hz | hz
            · exact HBI.out z hz
            · exact hm9.2.2.2 z hz
          · rcases HV9.out with h | h
            · rw [h] at ej; cases ej
            · rw [h] at ej; cases ej; exact Nat.le_refl _
  case rest =>
    obtain ⟨ag, ac, rfl, hall, hb⟩ := hcut
    have HT9 := Lib.hid hall
    have HK9 := Lib.hid (HK8.out.later hb); have HB9 := Lib.hid (HB8.out.trans (hb.mono HB8.out.size)); have HP9 := Lib.hid (HP8.out.below hb); have HA9 := Lib.hid (HA8.out.below hb); have HD9 := Lib.hid (HD8.out.trans (hb.mono HD8.out.size))
    clear hb hall HK8 HB8 HP8 HA8 HD8 HO9 HG9 HV9
    have hBR1 := fun W h => HBR.out (some ⟨ag, 0, none⟩) (sz + m) ac (bs ++ mr) (by omega) W h
    rw [HRD.out mr] at hBR1
    unfold RwdR at hBR1
    simp only [HLN.out] at hBR1
    have HBR1 := Lib.hid hBR1
    have hBR2 := fun W (h : Bt.Bs W ba sz bc bs) => HBR.out ba (sz - 1) bc (bs.take (sz - 1)) (by omega) W (rws_cut h (by omega))
    rw [HRC.out] at hBR2
    unfold RwdR at hBR2
    obtain ⟨s1, hs1⟩ : ∃ s1, sz - 1 = s1 := ⟨_, rfl⟩
    rw [hs1] at hBR2
    simp only [List.length_nil] at hBR2
    have HBR2 := Lib.hid hBR2
    clear hBR1 hBR2 HBR
    obtain ⟨k0, k1, k2, k3⟩ := HK9.out.cells
    go_wp2_with fail
    refine (HBR1.out _ HT9.out).mono ?_
    rintro e wr ⟨xa, xc, rfl, hx, hb⟩
    have HX1 := Lib.hid hx
    have HK1 := Lib.hid (HK9.out.later hb); have HB1 := Lib.hid (HB9.out.trans (hb.mono HB9.out.size)); have HP1 := Lib.hid (HP9.out.below hb); have HA1 := Lib.hid (HA9.out.below hb); have HD1 := Lib.hid (HD9.out.trans (hb.mono HD9.out.size))
    clear hb hx HK9 HB9 HP9 HA9 HD9 HT9 HBR1 k0 k1 k2 k3
    obtain ⟨k0, k1, k2, k3⟩ := HK1.out.cells
    have hs1w : IntKind.i64.wrap ((sz : Int) - 1) = (s1 : Int) := by rw [IntWalk.i64_in] <;> omega
    have hs1a : (0 : Int) ≤ (s1 : Int) := by omega
    have hs1b : (s1 : Int) ≤ (bc : Int) := by omega
    have hs1z : ¬ bc = 0 := by omega
    have hBt := Below.refl wr.heap.size wr
    go_wp2_with fail
    go_cut [20, 21] (fun s20 s21 wx => (∃ a c, s20 = .slice a 0 c) ∧ s21 = .int .i64 6 ∧ Below wr.heap.size wr wx)
    case first =>
      go_region_held3 (fun w' => w'.cell? ⟨kb, 0, none⟩ = some (.int .i64 kd) ∧ w'.cell? ⟨kb, 1, none⟩ = some (.int .i64 (gw : Int)) ∧ w'.cell? ⟨kb, 2, none⟩ = some (.int .i64 (gh : Int)) ∧ w'.cell? ⟨kb, 3, none⟩ = some (.int .i64 mx))
        (first | exact ⟨k0, k1, k2, k3⟩ | exact ⟨cell_later (by repeat' (first | (with_reducible exact hBt) | (with_reducible refine Below.alloc ?_ ?_ _) | (with_reducible refine Below.drew ?_) | (with_reducible refine below_drewN ?_ _) | (with_reducible refine Below.setCell ?_ ?_ _) | exact hBt.size | (have := hBt.size; first | omega | (simp; done) | (simp; omega)))) k0, cell_later (by repeat' (first | (with_reducible exact hBt) | (with_reducible refine Below.alloc ?_ ?_ _) | (with_reducible refine Below.drew ?_) | (with_reducible refine below_drewN ?_ _) | (with_reducible refine Below.setCell ?_ ?_ _) | exact hBt.size | (have := hBt.size; first | omega | (simp; done) | (simp; omega)))) k1, cell_later (by repeat' (first | (with_reducible exact hBt) | (with_reducible refine Below.alloc ?_ ?_ _) | (with_reducible refine Below.drew ?_) | (with_reducible refine below_drewN ?_ _) | (with_reducible refine Below.setCell ?_ ?_ _) | exact hBt.size | (have := hBt.size; first | omega | (simp; done) | (simp; omega)))) k2, cell_later (by repeat' (first | (with_reducible exact hBt) | (with_reducible refine Below.alloc ?_ ?_ _) | (with_reducible refine Below.drew ?_) | (with_reducible refine below_drewN ?_ _) | (with_reducible refine Below.setCell ?_ ?_ _) | exact hBt.size | (have := hBt.size; first | omega | (simp; done) | (simp; omega)))) k3⟩)
        (first
          | (go_at_call 25; refine (HBR2.out _ (HA1.out.below (by repeat' (first | (with_reducible exact hBt) | (with_reducible refine Below.alloc ?_ ?_ _) | (with_reducible refine Below.drew ?_) | (with_reducible refine below_drewN ?_ _) | (with_reducible refine Below.setCell ?_ ?_ _) | exact hBt.size | (have := hBt.size; first | omega | (simp; done) | (simp; omega)))))).mono ?_; rintro e w9 ⟨ra, rc, rfl, _, hb9⟩; replace hBt := bel_step (w := wr) (by repeat' (first | (with_reducible exact hBt) | (with_reducible refine Below.alloc ?_ ?_ _) | (with_reducible refine Below.drew ?_) | (with_reducible refine below_drewN ?_ _) | (with_reducible refine Below.setCell ?_ ?_ _) | exact hBt.size | (have := hBt.size; first | omega | (simp; done) | (simp; omega)))) hb9; have hsz9 := hBt.size))
      all_goals
        go_wp2_with fail
        go_meet
        case rel => exact ⟨⟨_, _, rfl⟩, rfl, hBt⟩
    case rest =>
      obtain ⟨⟨ra, rc, rfl⟩, rfl, hb⟩ := hcut
      have HK2 := Lib.hid (HK1.out.later hb); have HB2 := Lib.hid (HB1.out.trans (hb.mono HB1.out.size)); have HP2 := Lib.hid (HP1.out.below hb); have HX2 := Lib.hid (HX1.out.below hb); have HD2 := Lib.hid (HD1.out.trans (hb.mono HD1.out.size))
      clear hb hBt HK1 HB1 HP1 HX1 HA1 HD1 k0 k1 k2 k3 HBR2 hs1w hs1a hs1b hs1z hs1
      go_wp2_with fail
      refine (same_yes xa (some ⟨pb, 0, none⟩) N xc cp l _ (by omega) HX2.out HP2.out).mono ?_
      rintro e w11 ⟨rfl, hb⟩
      have HK3 := Lib.hid (HK2.out.later hb); have HB3 := Lib.hid (HB2.out.trans (hb.mono HB2.out.size)); have HP3 := Lib.hid (HP2.out.below hb); have HD3 := Lib.hid (HD2.out.trans (hb.mono HD2.out.size))
      clear hb HK2 HB2 HP2 HX2 HD2
      have hz3 : ∀ i, w11.frozen? ⟨pb, i, none⟩ = false := fun i => by rw [HD3.out.frozen (p := ⟨pb, i, none⟩) HL5.out]; exact HZ5.out i
      have hp3 : pb < w11.heap.size := Nat.lt_of_lt_of_le HL5.out HD3.out.size
      obtain ⟨u, hu⟩ : ∃ u, w11.cell? ⟨pb, k, none⟩ = some u := by
        rcases HP3.out.2 with h | ⟨b, o, e, hc⟩
        · omega
        · cases e; have := hc k hkN; rw [Nat.zero_add] at this; exact ⟨_, this⟩
      have HSS3 := Lib.hid (rws_set (p := a3) HP3.out hkN)
      have hfk := hz3 k
      have hkI : (0 : Int) ≤ (k : Int) := by omega
      have hkJ : (k : Int) < (N : Int) := by omega
      clear hz3 HZ5 HL5 HD3
      have hl2 : ∀ q ∈ l.set k a3, Pq.Px.U q := fun q hq => by
        rcases List.mem_or_eq_of_mem_set hq with h | h
        · exact HUL.out q h
        · rw [h]; exact HU3.out
      have hBW2 := fun W h => HBW.out pb cp (l.set k a3) (by rw [List.length_set]; exact HLL.out) hl2 hc1 hc2 W h
      have hRW2 := fun W h => HRW.out pb cp (l.set k a3) hl2 W h
      obtain ⟨⟨t1, t2⟩, hT⟩ : ∃ T, Rw.writeT ⟨kd, (gw : Int), (gh : Int), mx⟩ (l.set k a3) = T := ⟨_, rfl⟩
      rw [hT] at hBW2 hRW2
      unfold RwwR at hBW2 hRW2
      obtain ⟨tn, htn⟩ : ∃ n, t1.length = n := ⟨_, rfl⟩
      simp only [htn] at hBW2 hRW2
      have HBW2 := Lib.hid hBW2; have HRW2 := Lib.hid hRW2
      clear hBW2 hRW2 hT htn hl2 HBW HRW
      go_upto_region 16 with (go_at_call 15; refine (HJ.out _).mono ?_; rintro e wj ⟨rfl, rfl⟩)
      go_upto_region 17 with fail
      generalize hW : w11.setCell ⟨pb, k, none⟩ (.int .u64 a3) = wa
      have HPA : Hid (SlK .u64 wa (some ⟨pb, 0, none⟩) N (l.set k a3)) := by show SlK _ _ _ _ _; rw [← hW]; exact HSS3.out
      have HKA : Hid (Hb wa kb 25 ⟨kd, (gw : Int), (gh : Int), mx⟩) := by
        show wa.heap[kb]? = _
        rw [← hW, Go.heap_setCell_other _ _ _ _ (show kb ≠ pb by omega)]
        exact HK3.out
      have HBA : Hid (Below w.heap.size w wa) := by show Below _ _ _; rw [← hW]; exact HB3.out.setCell (p := ⟨pb, k, none⟩) hpw _
      clear hW HSS3 HK3 HB3 HP3 hu hfk hp3
      obtain ⟨k0, k1, k2, k3⟩ := HKA.out.cells
      go_wp2_with fail
      refine (HBW2.out _ HPA.out).mono ?_
      rintro e wb ⟨da, dc, rfl, hsl, hcp, hb⟩
      have HE1 := Lib.hid hsl
      have HKB := Lib.hid (HKA.out.later hb); have HBB := Lib.hid (HBA.out.trans (hb.mono HBA.out.size)); have HPB := Lib.hid (HPA.out.below hb)
      clear k0 k1 k2 k3 hb hsl hcp HKA HBA HPA HBW2
      obtain ⟨k0, k1, k2, k3⟩ := HKB.out.cells
      go_wp2_with fail
      refine (HRW2.out _ HPB.out).mono ?_
      rintro e w10 ⟨ea, ec, rfl, hsl, hcp, hb⟩
      have HE2 := Lib.hid (HE1.out.below hb); have HE3 := Lib.hid hsl
      have HKD := Lib.hid (HKB.out.later hb); have HBD := Lib.hid (HBB.out.trans (hb.mono HBB.out.size))
      clear k0 k1 k2 k3 hb hsl hcp HKB HBB HPB HRW2 HE1
      obtain ⟨k0, k1, k2, k3⟩ := HKD.out.cells
      have hkc : (k : Int) ≤ (cp : Int) := by omega
      have hBt := Below.refl w10.heap.size w10
      have HBN2 := Lib.hid (fun W => HBN.out pb k cp hkN W)
      unfold RwwR at HBN2
      simp only [List.length_nil] at HBN2
      go_wp2_with fail
      go_cut [27, 28] (fun s27 s28 wx => (∃ a c, s27 = .slice a 0 c) ∧ s28 = .int .i64 1 ∧ Below w10.heap.size w10 wx)
      case first =>
        go_region_held3 (fun w' => w'.cell? ⟨kb, 0, none⟩ = some (.int .i64 kd) ∧ w'.cell? ⟨kb, 1, none⟩ = some (.int .i64 (gw : Int)) ∧ w'.cell? ⟨kb, 2, none⟩ = some (.int .i64 (gh : Int)) ∧ w'.cell? ⟨kb, 3, none⟩ = some (.int .i64 mx))
          (first | exact ⟨k0, k1, k2, k3⟩ | exact ⟨cell_later (by repeat' (first | (with_reducible exact hBt) | (with_reducible refine Below.alloc ?_ ?_ _) | (with_reducible refine Below.drew ?_) | (with_reducible refine below_drewN ?_ _) | (with_reducible refine Below.setCell ?_ ?_ _) | exact hBt.size | (have := hBt.size; first | omega | (simp; done) | (simp; omega)))) k0, cell_later (by repeat' (first | (with_reducible exact hBt) | (with_reducible refine Below.alloc ?_ ?_ _) | (with_reducible refine Below.drew ?_) | (with_reducible refine below_drewN ?_ _) | (with_reducible refine Below.setCell ?_ ?_ _) | exact hBt.size | (have := hBt.size; first | omega | (simp; done) | (simp; omega)))) k1, cell_later (by repeat' (first | (with_reducible exact hBt) | (with_reducible refine Below.alloc ?_ ?_ _) | (with_reducible refine Below.drew ?_) | (with_reducible refine below_drewN ?_ _) | (with_reducible refine Below.setCell ?_ ?_ _) | exact hBt.size | (have := hBt.size; first | omega | (simp; done) | (simp; omega)))) k2, cell_later (by repeat' (first | (with_reducible exact hBt) | (with_reducible refine Below.alloc ?_ ?_ _) | (with_reducible refine Below.drew ?_) | (with_reducible refine below_drewN ?_ _) | (with_reducible refine Below.setCell ?_ ?_ _) | exact hBt.size | (have := hBt.size; first | omega | (simp; done) | (simp; omega)))) k3⟩)
          (first
            | (go_at_call 39; refine (HBN2.out _).mono ?_; rintro e w9 ⟨ra9, rc9, rfl, _, _, hb9⟩; replace hBt := bel_step (w := w10) (by repeat' (first | (with_reducible exact hBt) | (with_reducible refine Below.alloc ?_ ?_ _) | (with_reducible refine Below.drew ?_) | (with_reducible refine below_drewN ?_ _) | (with_reducible refine Below.setCell ?_ ?_ _) | exact hBt.size | (have := hBt.size; first | omega | (simp; done) | (simp; omega)))) hb9; have hsz9 := hBt.size))
        all_goals
          go_wp2_with fail
          go_meet
          case rel => exact ⟨⟨_, _, rfl⟩, rfl, hBt⟩
      case rest =>
        obtain ⟨⟨ra9, rc9, rfl⟩, rfl, hbx⟩ := hcut
        have HBX := Lib.hid (HBD.out.trans (hbx.mono HBD.out.size))
        have C1 := Cv.conv_slk (cap := dc) (HE2.out.below hbx)
        have C2 := Cv.conv_slk (cap := ec) (HE3.out.below hbx)
        obtain ⟨S2, hS⟩ : ∃ S, strOfNums t1 = S := ⟨_, rfl⟩
        rw [hS] at C1 C2
        clear hS hbx hBt k0 k1 k2 k3
        go_wp2_with fail
        refine (lives9_any _).mono ?_
        rintro e wz ⟨rfl, hb⟩
        have HBZ := Lib.hid (HBX.out.trans (hb.mono HBX.out.size))
        clear hb
        go_wp2
        go_ret
        exact ⟨rfl, HBZ.out⟩
end Go.Proofs.Ytflpocnbmpdhiaa
