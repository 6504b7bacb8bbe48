/- All pixels of a raster of bytes, by the document, over any memory. Condition: not too many bytes, the head's numbers fit. -/
import Derived.Test.YtflpocnbmpdhiaaZgAE
import Derived.Deep.RegionLaw
import Derived.Deep.AppendLies
namespace Go.Proofs.Ytflpocnbmpdhiaa
open Go.RowKit
set_option linter.unusedVariables false
def Rw.refReadV (h : Hd.H) (bs : List Int) : List Int × Int := if Rw.May h then Rw.refV h bs else ([], 1)
theorem Rw.readV_same (h : Hd.H) (bs : List Int) : Rw.readV h bs = Rw.refReadV h bs := by
  unfold Rw.refReadV
  by_cases hm : Rw.May h
  · rw [if_pos hm, Rw.readV_ref hm]
  · rw [if_neg hm]; exact if_neg hm
theorem Rw.rows_len {h : Hd.H} (hm : Rw.May h) (bs : List Int) : ∀ y, (Rw.rowsV h bs y).length ≤ 4096 * y
  | 0 => by simp [Rw.rowsV]
  | y + 1 => by
    have hmm := hm.m
    have ih := Rw.rows_len hm bs y
    have h1 := (Rw.row_len hm ((bs.drop (y * Rw.stride h)).take (Rw.stride h))).2.2 (List.length_take_le _ _)
    show (Rw.rowsV h bs y ++ _).length ≤ _
    rw [List.length_append]; omega
theorem rwz_bs {w : World} {g o nb cb : Nat} {bs : List Int} (h : Bt.Bs w (some ⟨g, o, none⟩) nb cb bs) {p n : Nat} (hp : p + n ≤ nb) : Bt.Bs w (some ⟨g, o + p, none⟩) n (cb - p) ((bs.drop p).take n) := by
  obtain ⟨⟨hl, hs⟩, hc, hm, hby⟩ := h
  refine ⟨⟨by rw [List.length_take, List.length_drop, hl]; omega, ?_⟩, by omega, by omega, fun z hz => hby z (List.mem_of_mem_drop (List.mem_of_mem_take hz))⟩
  rcases hs with h0 | ⟨g', o', e, hcell⟩
  · exact .inl (by omega)
  · cases e
    refine .inr ⟨g, o + p, rfl, fun i hi => ?_⟩
    rw [Nat.add_assoc, hcell (p + i) (by omega), List.getD_eq_getElem?_getD, List.getD_eq_getElem?_getD, List.getElem?_take_of_lt hi, List.getElem?_drop]
set_option maxRecDepth 100000 in
set_option maxHeartbeats 8000000 in
theorem refRead_any (ab : Option Addr) (nb cb : Nat) (bs : List Int) (hnb : nb ≤ 100000) (G : Hd.H) (hf : Hj.Fit G) (w : World) (hs : Bt.Bs w ab nb cb bs) :
    Calls Try.prog 26 #[.slice ab nb cb, agH G] w (RwdR (Rw.refReadV G bs) w) := by
  unfold Rw.refReadV
  have hM := refRwMay_any G hf
  by_cases hm : Rw.May G
  · rw [if_pos hm]
    simp only [decide_eq_true hm] at hM
    obtain ⟨H, sz, hH, hsz, hszm, H1⟩ := Rw.size_nat hm
    have hst := Rw.stride_at hm
    have hmm := hm.m
    have hBD := fun W hb => refBad_any ab nb cb bs hnb hs.2.1 G hm W (hs.below hb)
    have hSZ := fun W => refSize_any G hm.1 W
    have hSD := fun W => refStride_any G hm.1 W
    have hsv : Rw.strideV G = (Rw.stride G : Int) := if_pos hm.2
    have hbv := Rw.badN_nonneg G bs (Hj.size G).toNat
    rw [← Rw.badV_eq] at hbv
    have hval : Rw.refV G bs = if 0 < Rw.badV G bs then ([], 5) else if (bs.length : Int) < Hj.size G then ([], 6) else (Rw.rowsV G bs G.h.toNat, 0) := rfl
    have hRW := fun W hb (p : Nat) (hp : p + Rw.stride G ≤ nb) g o (e : ab = some ⟨g, o, none⟩) => refRow_any g (o + p) (Rw.stride G) (cb - p) ((bs.drop p).take (Rw.stride G)) G hm rfl W (rwz_bs (by rw [e] at hs; exact hs.below hb) hp)
    rw [hsv] at hSD
    rw [hsz] at hSZ hval
    rw [hs.1.1] at hval
    rw [hval]
    obtain ⟨bad, hbd⟩ : ∃ bad, Rw.badV G bs = bad := ⟨_, rfl⟩
    rw [hbd] at hBD hbv ⊢
    obtain ⟨n, hn⟩ : ∃ n, Rw.stride G = n := ⟨_, rfl⟩
    have HRL := Lib.hid (Rw.rows_len hm bs)
    have HRS : Hid (∀ y, Rw.rowsV G bs (y + 1) = Rw.rowsV G bs y ++ Rw.rowV G ((bs.drop (y * n)).take n)) := Lib.hid fun y => by rw [← hn]; rfl
    have HR0 : Hid (Rw.rowsV G bs 0 = []) := Lib.hid rfl
    have HRN : Hid (∀ p, (Rw.rowV G ((bs.drop p).take n)).length ≤ 4096) := Lib.hid fun p => by
      have := (Rw.row_len hm ((bs.drop p).take n)).2.2 (by rw [hn]; exact List.length_take_le _ _)
      omega
    have HRN1 : Hid (∀ p, p + n ≤ nb → 1 ≤ (Rw.rowV G ((bs.drop p).take n)).length) := Lib.hid fun p hp => by
      have := (Rw.row_len hm ((bs.drop p).take n)).2.1 (by rw [hn, List.length_take, List.length_drop, hs.1.1]; omega)
      omega
    rw [hn] at hSD hRW hszm hst
    have hst1 := hst.1
    obtain ⟨p0, pi, pz0, pz1, pz2⟩ : ∃ i, Try.prog.info? 71 = some i ∧ i.zero = some (.int .u64 0) ∧ i.size = 1 ∧ i.bytes = 8 := (by have G := Try.info_px8; cases hh : Try.prog.info? 71 with | none => rw [hh] at G; cases G | some i => rw [hh] at G; simp at G; exact ⟨i, rfl, G.1, G.2.1, G.2.2⟩)
    have HAB : Hid (sz ≤ nb → ∃ g o, ab = some ⟨g, o, none⟩) := Lib.hid fun hle => by
      have h1 : 1 * 1 ≤ H * n := Nat.mul_le_mul H1 hst.1
      obtain ⟨g, o, e, _⟩ := Rw.slk_pos hs.1 (by omega)
      exact ⟨g, o, e⟩
    have h9 : (sz : Int) ≤ 1610612736 := by
      have := Rw.left_le (Rw.good_new hm)
      have e : (Rw.new G).left = Hj.size G := rfl
      rw [e, hsz] at this; exact this
    have H65 : H ≤ 65536 := by omega
    have hHN : G.h.toNat = H := by omega
    have n24 : n ≤ 24576 := hst.2.1
    have hcbb := hs.2.1
    unfold agH at hM hBD hSZ hSD hRW ⊢
    have HM := Lib.hid hM
    have HBD := Lib.hid hBD
    have HSZ := Lib.hid hSZ
    have HSD := Lib.hid hSD
    have HRW := Lib.hid hRW
    have HSM := Lib.hid hszm
    have HCB := Lib.hid hcbb
    have HHH := Lib.hid hH
    rw [hHN]
    clear hM hBD hSZ hSD hRW hszm hcbb hst hmm hs hf hm hsz hval hsv hbd hn hHN hH
    go_enter Try.func26, Try.ntmps26
    go_upto_region 1 with fail
    generalize hW : w.alloc (.cells #[.int .i64 G.kd, .int .i64 G.w, .int .i64 G.h, .int .i64 G.m] 25) = w1
    have HN : Hid (Hb w1 w.heap.size 25 G) := by show Hb _ _ _ _; rw [← hW]; exact Hb.new w 25 G
    have HB1 : Hid (Below w.heap.size w w1) := by show Below _ _ _; rw [← hW]; exact box1' _ _
    clear hW
    obtain ⟨n0, n1, n2, n3⟩ := HN.out.cells
    go_upto_region 4 with (go_at_call 42; refine (HM.out _).mono ?_; rintro e w2 ⟨rfl, hb2⟩; have HB2 := Lib.hid (HB1.out.trans (hb2.mono HB1.out.size)); have HN2 := Lib.hid (HN.out.later hb2); clear hb2)
    clear n0 n1 n2 n3 HB1 HN
    obtain ⟨n0, n1, n2, n3⟩ := HN2.out.cells
    by_cases hb : 0 < bad
    · rw [if_pos hb]
      have hbt : decide (0 < bad) = true := decide_eq_true hb
      clear hbv
      go_wp2_with (go_at_call 31; refine (HBD.out _ HB2.out).mono ?_; rintro e w3 ⟨rfl, hb3⟩; have HB3 := Lib.hid (HB2.out.trans (hb3.mono HB2.out.size)); clear hb3)
      go_returns
      exact rwd_nil rfl HB3.out
    rw [if_neg hb]
    obtain rfl : bad = 0 := by omega
    clear hb hbv
    go_upto_region 6 with (go_at_call 31; refine (HBD.out _ HB2.out).mono ?_; rintro e w3 ⟨rfl, hb3⟩; have HB3 := Lib.hid (HB2.out.trans (hb3.mono HB2.out.size)); have HN3 := Lib.hid (HN2.out.later hb3); clear hb3)
    clear n0 n1 n2 n3 HB2 HN2
    obtain ⟨n0, n1, n2, n3⟩ := HN3.out.cells
    by_cases hlt : (nb : Int) < (sz : Int)
    · rw [if_pos hlt]
      have hltn : nb < sz := by omega
      go_wp2_with (go_at_call 41; refine (HSZ.out _).mono ?_; rintro e w4 ⟨rfl, hb4⟩; have HB4 := Lib.hid (HB3.out.trans (hb4.mono HB3.out.size)); clear hb4)
      go_returns
      exact rwd_nil rfl HB4.out
    rw [if_neg hlt]
    have hltn : ¬ nb < sz := by omega
    go_upto_region 9 with (go_at_call 41; refine (HSZ.out _).mono ?_; rintro e w4 ⟨rfl, hb4⟩; have HB4 := Lib.hid (HB3.out.trans (hb4.mono HB3.out.size)); have HN4 := Lib.hid (HN3.out.later hb4); clear hb4)
    clear n0 n1 n2 n3 HB3 HN3
    obtain ⟨n0, n1, n2, n3⟩ := HN4.out.cells
    obtain ⟨g, o, hgo⟩ := HAB.out (by omega)
    subst hgo
    go_upto_region 10 with (go_at_call 30; refine (HSD.out _).mono ?_; rintro e w5 ⟨rfl, hb5⟩; have HB5 := Lib.hid (HB4.out.trans (hb5.mono HB4.out.size)); have HN5 := Lib.hid (HN4.out.later hb5); clear hb5)
    clear n0 n1 n2 n3 HB4 HN4 HAB HBD HSZ HSD HM
    go_wp2_with fail
    go_loopw [7, 9] (fun u7 u9 wr => ∃ (y : Nat) (v : Value), y ≤ H ∧ u9 = .int .i64 y ∧ v = u7 ∧ wr.ownsRow w5.heap.size 71 1 v (Rw.rowsV G bs y).length (pixs (Rw.rowsV G bs y)) ∧ Below w5.heap.size w5 wr) (fun _ u9 _ => H - (intOf u9).toNat)
    case atStart => exact ⟨0, _, Nat.zero_le _, rfl, rfl, World.ownsRow_nil _ _ _ _, .refl _ _⟩
    case round =>
      obtain ⟨y, v, hy1, rfl, rfl, hrow, hB⟩ := hrel
      have HBY := Lib.hid hB
      have HRWY := Lib.hid hrow
      have HNY := Lib.hid (HN5.out.later hB)
      obtain ⟨n0, n1, n2, n3⟩ := HNY.out.cells
      have hrl := HRL.out y
      obtain ⟨m, hm⟩ : ∃ m, (Rw.rowsV G bs y).length = m := ⟨_, rfl⟩
      rw [hm] at hrow hrl
      have HROW := Lib.hid hrow
      have HML := Lib.hid hm
      have q3 := hB.size
      clear hrow hm hB
      by_cases hyH : y < H
      · have hlt2 : (y : Int) < G.h := by rw [HHH.out]; omega
        obtain ⟨p, hp⟩ : ∃ p, y * n = p := ⟨_, rfl⟩
        have hpn : p + n ≤ nb := by
          have h1 : (y + 1) * n ≤ H * n := Nat.mul_le_mul_right n hyH
          rw [Nat.add_mul, Nat.one_mul, hp] at h1
          have := HSM.out; omega
        have HPN := Lib.hid hpn
        have hRR := fun W hb => HRW.out W hb p hpn g o rfl
        have hst := HRS.out y
        rw [hp] at hst
        have HST := Lib.hid hst
        have hr4 := HRN.out p
        have hr1 := HRN1.out p hpn
        obtain ⟨R, hR⟩ : ∃ R, Rw.rowV G ((bs.drop p).take n) = R := ⟨_, rfl⟩
        rw [hR] at hRR hst hr4 hr1 HST
        obtain ⟨r, hr⟩ : ∃ r, R.length = r := ⟨_, rfl⟩
        rw [hr] at hRR hr4 hr1
        have HRL2 := Lib.hid hr
        have HRR := Lib.hid hRR
        obtain ⟨q, hq⟩ : ∃ q, p + n = q := ⟨_, rfl⟩
        have hqc : (q : Int) ≤ (cb : Int) := by have := HCB.out; omega
        have hp0 : (0 : Int) ≤ (p : Int) := by omega
        have hpq : (p : Int) ≤ (q : Int) := by omega
        have hqn : q - p = n := by omega
        have hcp : ¬ cb = p := by have := HCB.out; omega
        have w1' : IntKind.i64.wrap ((y : Int) * (n : Int)) = (p : Int) := by rw [← Int.natCast_mul, hp, IntWalk.i64_in _ (by omega)]
        have w2' : IntKind.i64.wrap ((p : Int) + (n : Int)) = (q : Int) := by rw [← Int.natCast_add, hq, IntWalk.i64_in _ (by omega)]
        have m1 : m + r ≤ maxLen := by unfold maxLen; omega
        have m2 : (m + r) * 8 ≤ 140737488355328 := by omega
        clear hst hRR hR hr hq hp hpn hrl hr4
        go_upto_region 13 with fail
        go_region_law (first
          | (refine step_append_lies _ rfl _ _ 52 rfl w5.heap.size 71 p0 (.int .u64 0) 1 8 Try.underlying52 pi pz0 pz1 pz2 rfl (by decide) v m _ rfl HO9.out ad9 r c9 (R.map (Value.int .u64)) rfl (by rw [List.length_map, HRL2.out, Nat.mul_one]) hsr9 (Rw.one_px _) hr1 m1 m2 hz9 _ rfl ?_; intro gg cc w6 hown' hgrow' _ _)
          | (go_simp; go_at_call 33; refine (HRR.out _ (HB5.out.trans (Below.mono (by first | exact HBY.out | exact HBY.out.drew) HB5.out.size))).mono ?_; rintro e w9 ⟨a9, c9, rfl, hs9, hb9⟩; have hB9 : Below wr.heap.size wr w9 := (by first | exact hb9 | exact Below.trans (b := wr.drew) ⟨rfl, rfl, rfl, Nat.le_refl _, fun _ _ => rfl⟩ hb9); have HO9 := Lib.hid (below_row HROW.out hB9); have hz9 : w5.heap.size ≤ w9.heap.size := Nat.le_trans q3 hB9.size; obtain ⟨ad9, had9, hsr9⟩ := Rw.slk_src hs9 hr1; subst had9; clear hs9 hb9))
        all_goals
          have HO6 := Lib.hid hown'
          have HB6 := Lib.hid ((HBY.out.trans (hB9.mono q3)).grown hgrow' hz9 (fun j ej => (HO9.out.lt j ej).1))
          clear hown' hgrow'
          clear w1' w2'
          go_wp2_with fail
          go_roundw
          case rel => exact ⟨y + 1, _, by omega, by go_num, rfl, by rw [HST.out, List.length_append, HML.out, HRL2.out]; have h9 := HO6.out; unfold pixs at h9 ⊢; rw [List.map_append]; exact h9, HB6.out⟩
          case measure => simp [intOf]; omega
      · have hlt2 : ¬ (y : Int) < G.h := by rw [HHH.out]; omega
        obtain rfl : y = H := by omega
        go_wp2
        go_returns
        exact rwd_row rfl HRWY.out rfl (HB5.out.trans (Below.mono HBY.out HB5.out.size))
  · rw [if_neg hm]
    simp only [decide_eq_false hm] at hM
    unfold agH at hM ⊢
    have HM := Lib.hid hM
    clear hM hm hf hs
    go_enter Try.func26, Try.ntmps26
    go_wp2_with (go_at_call 42; refine (HM.out _).mono ?_; rintro e w2 ⟨rfl, hb2⟩; have HB2 := Lib.hid (((Below.refl _ w).alloc (Nat.le_refl _) _).trans (hb2.mono (by simp))))
    go_returns
    exact rwd_nil rfl HB2.out
end Go.Proofs.Ytflpocnbmpdhiaa
