/- RawCuts: a raster that is cut off: so many bytes leave as many as it has less; whole rows were told: the walk of the law. No condition. -/
import Derived.Test.YtflpocnbmpdhiaaZRwM
import Derived.Test.YtflpocnbmpdhiaaZRwJ
import Derived.Test.YtflpocnbmpdhiaaZRwPy
import Derived.Test.YtflpocnbmpdhiaaZgAF
import Derived.Deep.DeepCutAuto
namespace Go.Proofs.Ytflpocnbmpdhiaa
open Go.RowKit
set_option linter.unusedVariables false
theorem rwPixels_any {w0 : World} {a : Option Addr} {ln cap : Nat} {z : List Int} (hr : IsRow .i64 w0 a ln cap z) (G : Hd.H) (hm : Rw.May G) (N : Nat) (hN : G.w * G.h = (N : Int)) (hN1 : N ≤ 100000) (w : World) (hb : Below w0.heap.size w0 w) :
    Calls Try.prog 38 #[.slice a ln cap, agH G] w (PxT N G w) := by
  have hs := (isrow_takeK hr ln (Nat.le_refl _)).below hb
  have hI : ∀ x ∈ z.take ln, Nu.I x := fun x hx => wfI (isrow_wfK hr x (List.mem_of_mem_take hx))
  obtain ⟨l1, l2, l3, l4⟩ := isrow_len hr
  have hout : ∀ e w', PxR N G w e w' → PxT N G w e w' := by
    rintro e w' ⟨ad, cp, l, h1, h2, h3, h4, h5⟩
    exact ⟨ad, cp, l, h1, h2, h3, slk_of_row h4 h2, h5⟩
  by_cases hz : ln = 0
  · exact (rwPixels_zero a ln cap (z.take ln) G hm N hN hN1 w hz hs hI).mono hout
  · rcases hs.2 with h | ⟨blk, off, rfl, hc⟩
    · have := hs.1; rw [h] at this; simp at this; omega
    · exact (rwPixels_pos blk off ln cap (z.take ln) G hm N hN hN1 w l1 hz hs.1 hc hI).mono hout
theorem rcu_lt {w : World} {g o : Nat} {v : Value} (h : w.cell? ⟨g, o, none⟩ = some v) : g < w.heap.size := by
  rcases Nat.lt_or_ge g w.heap.size with h1 | h1
  · exact h1
  · have h2 : w.heap[g]? = none := Array.getElem?_eq_none h1
    simp [World.cell?, h2] at h
theorem Rw.cut_short {G : Hd.H} (hm : Rw.May G) {bs : List Int} {sz k : Nat} (hsz : Hj.size G = (sz : Int)) (hk : k < sz) (hl : bs.length = sz) (hb : Rw.badN G bs k = 0) : Rw.readV G (bs.take k) = ([], 6) := by
  rw [Rw.readV_ref hm]
  have e : Rw.badV G (bs.take k) = 0 := by
    rw [Rw.badV_eq, hsz]
    show Rw.badN G (bs.take k) sz = 0
    rw [← hb]
    unfold Rw.badN
    rw [List.take_of_length_le (show (bs.take k).length ≤ sz by rw [List.length_take]; omega)]
  unfold Rw.refV
  rw [e, if_neg (by omega), if_pos (by rw [hsz, List.length_take, hl]; omega)]
theorem rcu_div (k n : Nat) : Int.tdiv (k : Int) (n : Int) = ((k / n : Nat) : Int) := rfl
theorem rcu_put {s s' : Rw.S} {out : List Int} {N : Nat} {c : Int} (c0 : 0 ≤ c) (c1 : c ≤ 255) {w : World} {b : Nat} {sv rv : Value} (X : RwX w b sv rv s) (hq : Rw.put s c = (s', out)) (he : s'.e = 0) (hl : s'.left ≠ 0) (hn : out.length = N) :
    Calls Try.prog 32 #[.pointer (some ⟨b, 0, none⟩), .int .u8 c] w fun e w' => ∃ a c' sv' rv', e = .returned (.tuple #[.slice a N c', .int .i64 0]) ∧ RwX w' b sv' rv' s' ∧ Sep (PlZ b sv rv) w w' := by
  have hL : Rw.last s' = 0 := by unfold Rw.last; rw [he, if_neg (by omega), if_neg hl]
  have h := rwPut_any c c0 c1 w b sv rv X
  rw [hq] at h
  unfold RwPutR at h
  simp only [hL, hn] at h
  refine h.mono ?_
  rintro e w' ⟨a, c', sv', rv', he, hX, hS, hF, _, _⟩
  exact ⟨a, c', sv', rv', he, hX, hF⟩
/-- a reader beside a head -/
structure RcQ (wz : World) (kb b : Nat) (G : Hd.H) (sv rv : Value) (s : Rw.S) (w : World) : Prop where
  x : RwX w b sv rv s
  k : Hb w kb 25 G
  bel : Below wz.heap.size wz w
section
variable {wz : World} {kb b : Nat} {G : Hd.H} {sv rv : Value} {s : Rw.S} {w w' : World}
theorem RcQ.later (Q : RcQ wz kb b G sv rv s w) (hb : Below w.heap.size w w') : RcQ wz kb b G sv rv s w' := ⟨Q.x.later hb, Q.k.later hb, bel_step Q.bel hb⟩
theorem RcQ.drew (Q : RcQ wz kb b G sv rv s w) : RcQ wz kb b G sv rv s w.drew := Q.later ⟨rfl, rfl, rfl, Nat.le_refl _, fun _ _ => rfl⟩
theorem RcQ.all (Q : RcQ wz kb b G sv rv s w) : w.cell? ⟨kb, 0, none⟩ = some (.int .i64 G.kd) ∧ w.cell? ⟨kb, 1, none⟩ = some (.int .i64 G.w) ∧ w.cell? ⟨kb, 2, none⟩ = some (.int .i64 G.h) ∧ w.cell? ⟨kb, 3, none⟩ = some (.int .i64 G.m) ∧ RcQ wz kb b G sv rv s w := by
  obtain ⟨a0, a1, a2, a3⟩ := Q.k.cells
  exact ⟨a0, a1, a2, a3, Q⟩
theorem RcQ.left (Q : RcQ wz kb b G sv rv s w) {n : Int} (hn : s.left = n) : Calls Try.prog 35 #[.pointer (some ⟨b, 0, none⟩)] w fun e w' => e = .returned (.int .i64 n) ∧ w = w' := by
  have h := rwLeft_x Q.x; rw [hn] at h; exact h
theorem RcQ.rows (Q : RcQ wz kb b G sv rv s w) {n : Int} (hn : s.rows = n) : Calls Try.prog 34 #[.pointer (some ⟨b, 0, none⟩)] w fun e w' => e = .returned (.int .i64 n) ∧ w = w' := by
  have h := rwRows_x Q.x; rw [hn] at h; exact h
end
theorem rcu_small {G : Hd.H} (hm : Rw.May G) (hw : G.w ≤ 4) : Rw.stride G ≤ 24 := by
  have hs := Rw.stride_at hm
  have hmm := hm.m
  by_cases h4 : G.kd = 4
  · have := hs.2.2.1 h4; omega
  · have h5 := hs.2.2.2 h4
    rcases Rw.chan_at G with ⟨_, hc⟩ | ⟨_, hc⟩ <;> rcases Rw.wide_at G with ⟨_, hw⟩ | ⟨_, hw⟩ <;> simp only [hc, hw] at h5 <;> omega
set_option maxRecDepth 100000 in
set_option maxHeartbeats 16000000 in
theorem rawCuts_walk (a0k0 a0w1 a0h2 a0m3 : Int) (a1 : Option Addr) (len1 cap1 : Nat) (z1 : List Int) (a2 : Int) (w : World) (w00 : (Lit.int .i64 a0k0).wf = true) (w01 : (Lit.int .i64 a0w1).wf = true) (w02 : (Lit.int .i64 a0h2).wf = true) (w03 : (Lit.int .i64 a0m3).wf = true) (w1 : IsRow .i64 w a1 len1 cap1 z1) (w2 : (Lit.int .i64 a2).wf = true) :
    Calls Try.prog 10 #[.agg #[.int .i64 a0k0, .int .i64 a0w1, .int .i64 a0h2, .int .i64 a0m3], .slice a1 len1 cap1, .int .i64 a2] w fun e w' => e = .returned (.bool true) ∧ Below w.heap.size w w' := by
  have HF : Hj.Fit ⟨a0k0, a0w1, a0h2, a0m3⟩ := ⟨wfI w00, wfI w01, wfI w02, wfI w03⟩
  have hG := refRwHead_any 4 (by decide) (by decide) _ HF
  have hM := Rw.headV_in 4 (by decide) (by decide) ⟨a0k0, a0w1, a0h2, a0m3⟩
  generalize Rw.headV 4 ⟨a0k0, a0w1, a0h2, a0m3⟩ = G at hG hM
  obtain ⟨hM, hw9, hh9⟩ := hM
  have hmm := hM.m
  have HFG := Rw.may_fit hM
  have hn24 := rcu_small hM hw9
  obtain ⟨H, sz, hH, hsz, hszm, H1⟩ := Rw.size_nat hM
  have hs1 := (Rw.stride_at hM).1
  obtain ⟨gw, hgw⟩ : ∃ gw : Nat, G.w = (gw : Int) := ⟨G.w.toNat, by omega⟩
  obtain ⟨N, hN⟩ : ∃ N, gw * H = N := ⟨_, rfl⟩
  have hN16 : N ≤ 16 := by rw [← hN]; exact Nat.mul_le_mul (show gw ≤ 4 by omega) (show H ≤ 4 by omega)
  have HNG : Hid (G.w * G.h = (N : Int)) := Lib.hid (by rw [hgw, hH, ← hN]; simp)
  have hPX := fun W (hb : Below w.heap.size w W) => rwPixels_any w1 G hM N HNG.out (by omega) W hb
  have hnw := rwNew_yes G HFG hM
  have hsd := refStride_any G hM.1
  have hsv : Rw.strideV G = (Rw.stride G : Int) := if_pos hM.2
  rw [hsv] at hsd
  have i2 := wfI w2
  have hsz96 : sz ≤ 96 := by rw [hszm]; exact Nat.mul_le_mul (show H ≤ 4 by omega) hn24
  have hsz1 : 0 < sz := by rw [hszm]; exact Nat.mul_pos (by omega) (by omega)
  have hj0 := Ar.around_lt a2 (sz : Int) (by omega)
  obtain ⟨k, hke⟩ : ∃ k : Nat, Ar.around a2 (sz : Int) = (k : Int) := ⟨(Ar.around a2 (sz : Int)).toNat, by omega⟩
  have hkN : k < sz := by omega
  have HJ : Hid (∀ W, Calls Try.prog 15 #[.int .i64 a2, .int .i64 (sz : Int)] W fun e w' => e = .returned (.int .i64 (k : Int)) ∧ W = w') := fun W => by have := aroundOf a2 (sz : Int) i2.1 i2.2 (by omega) (by omega) W; rw [hke] at this; exact this
  have HSTR := Lib.hid hszm
  have HH := Lib.hid hH
  have HGW := Lib.hid hgw
  have HNN := Lib.hid hN
  have HM := Lib.hid hM
  have HSZ := Lib.hid hsz
  have HFGh := Lib.hid HFG
  have HW4 : Hid (gw ≤ 4) := Lib.hid (by omega)
  unfold agH at hG hPX hnw hsd
  have HG := Lib.hid hG
  have HPX := Lib.hid hPX
  have HNW := Lib.hid hnw
  have HSD := Lib.hid hsd
  clear hG hPX hnw hsd HF w00 w01 w02 w03 w1 w2 i2 hj0 hke hmm hw9 hh9 hsv HFG hN hgw hH hszm hsz hM
  go_enter Try.func10, Try.ntmps10
  go_upto_region 1 with fail
  have h1 := box1' w (.cells #[.int .i64 a0k0, .int .i64 a0w1, .int .i64 a0h2, .int .i64 a0m3] 25)
  have HB1 := Lib.hid h1
  clear h1
  go_wp2_with fail
  refine (HG.out _).mono ?_
  rintro e w2 ⟨rfl, hb⟩
  have HB2 := Lib.hid (HB1.out.trans (hb.mono HB1.out.size))
  clear hb HG HB1
  go_upto_region 2 with fail
  generalize hW : w2.alloc (.cells #[.int .i64 G.kd, .int .i64 G.w, .int .i64 G.h, .int .i64 G.m] 25) = w3
  have HK3 : Hid (Hb w3 w2.heap.size 25 G) := by show Hb _ _ _ _; rw [← hW]; exact Hb.new w2 25 G
  have HB3 : Hid (Below w.heap.size w w3) := by show Below _ _ _; rw [← hW]; exact HB2.out.alloc HB2.out.size _
  clear hW
  obtain ⟨kb, hkb⟩ : ∃ k, w2.heap.size = k := ⟨_, rfl⟩
  rw [hkb] at HK3 ⊢
  have HKS : Hid (w.heap.size ≤ kb) := Lib.hid (by rw [← hkb]; exact HB2.out.size)
  clear hkb HB2
  obtain ⟨k0, k1, k2, k3⟩ := HK3.out.cells
  go_wp2_with fail
  refine (HPX.out _ HB3.out).mono ?_
  rintro e w4 ⟨pa, pc, l, rfl, hln, hfit, hs, hb⟩
  have HK4 := Lib.hid (HK3.out.later hb)
  have HB4 := Lib.hid (HB3.out.trans (hb.mono HB3.out.size))
  have HL : Hid (l.length = gw * H) := Lib.hid (by rw [hln, HNN.out])
  have HFT := Lib.hid hfit
  have hRW := refRawWrite_any pa N pc l G HFGh.out HM.out (by omega) HNG.out (Pl.goodU hfit) w4 hs
  rw [Rw.writeT_good HM.out hfit HGW.out HH.out HL.out] at hRW
  obtain ⟨bs, hbs⟩ : ∃ bs, Rw.wRows G l gw H = bs := ⟨_, rfl⟩
  have hbl : bs.length = sz := by rw [← hbs, Rw.wRows_len HM.out hfit HGW.out HL.out H (Nat.le_refl _), HSTR.out]
  have HNB : Hid (∀ i, i ≤ bs.length → Rw.badN G bs i = 0) := Lib.hid fun i hi => by rw [← hbs] at hi ⊢; exact Rw.bad_none HM.out hfit HL.out i hi
  have HBI : Hid (∀ z ∈ bs, 0 ≤ z ∧ z ≤ 255) := Lib.hid (by rw [← hbs]; exact Rw.wRows_in HM.out hfit H)
  rw [hbs] at hRW
  unfold RwwR agH at hRW
  simp only [hbl] at hRW
  have HRW := Lib.hid hRW
  have HBL := Lib.hid hbl
  clear k0 k1 k2 k3 hs hb hln hfit HPX HK3 HB3 hRW hbs hbl
  obtain ⟨k0, k1, k2, k3⟩ := HK4.out.cells
  go_wp2_with fail
  refine HRW.out.mono ?_
  rintro e w5 ⟨ba, bc, rfl, hsl, hcp, hb⟩
  have HK5 := Lib.hid (HK4.out.later hb)
  have HB5 := Lib.hid (HB4.out.trans (hb.mono HB4.out.size))
  have HS5 := Lib.hid hsl
  have HCP := Lib.hid hcp
  clear k0 k1 k2 k3 hb hsl hcp HK4 HB4 HRW
  obtain ⟨k0, k1, k2, k3⟩ := HK5.out.cells
  go_upto_region 5 with (go_at_call 15; refine (HJ.out _).mono ?_; rintro e w9 ⟨rfl, rfl⟩)
  go_wp2_with fail
  refine (HNW.out _).mono ?_
  rintro e w6 ⟨b, rfl, hwb, hX, hb⟩
  have HK6 := Lib.hid (HK5.out.later hb)
  have HB6 := Lib.hid (HB5.out.trans (hb.mono HB5.out.size))
  have HS6 := Lib.hid (HS5.out.below hb)
  have HX6 := Lib.hid hX
  have HKB : Hid (kb < b) := Lib.hid (Nat.lt_of_lt_of_le HK5.out.lt hwb)
  have HBA : Hid (∀ g o, ba = some ⟨g, o, none⟩ → g < b) := Lib.hid (fun g o e => by
    rcases HS5.out.2 with h9 | ⟨g', o', e', hc⟩
    · omega
    · rw [e] at e'; cases e'
      have h8 := hc 0 hsz1
      have h7 : g < w5.heap.size := rcu_lt h8
      omega)
  clear k0 k1 k2 k3 hb hX HK5 HB5 HS5 hwb
  obtain ⟨bg, bo, hba, _⟩ := Rw.slk_pos HS6.out hsz1
  subst hba
  have HGB := Lib.hid (HBA.out bg bo rfl)
  have HBV0 : Hid (Rw.badV G bs = 0) := Lib.hid (by rw [Rw.badV_eq, HSZ.out]; exact HNB.out sz (by rw [HBL.out]; exact Nat.le_refl _))
  have HSC := Lib.hid (fun i => Rw.step_c HM.out bs HSZ.out (i := i))
  have HSDd := Lib.hid (fun i => Rw.step_d HM.out bs HSZ.out (i := i))
  have HZ0 := Lib.hid (Rw.stt_zero HM.out bs sz)
  have HRL : Hid (∀ p, p + Rw.stride G ≤ sz → (Rw.rowV G ((bs.drop p).take (Rw.stride G))).length = gw) := Lib.hid fun p hp => by
    have := (Rw.row_len HM.out ((bs.drop p).take (Rw.stride G))).2.1 (by rw [List.length_take, List.length_drop, HBL.out]; omega)
    rw [HGW.out] at this; omega
  go_wp2_with fail
  go_loopw [14, 15] (fun u14 u15 wr => ∃ (i : Nat) (sv rv : Value), i ≤ k ∧ u15 = .int .i64 i ∧ u14 = .int .i64 (((i / Rw.stride G * gw : Nat)) : Int) ∧ (Rw.stt G bs sz i).rows = ((i / Rw.stride G : Nat) : Int) ∧ RwX wr b sv rv (Rw.stt G bs sz i) ∧ Hb wr kb 25 G ∧ SlK .u8 wr (some ⟨bg, bo, none⟩) sz bs ∧ Below w.heap.size w wr) (fun _ u15 _ => k - (intOf u15).toNat)
  case atStart => exact ⟨0, _, _, Nat.zero_le _, rfl, by rw [Nat.zero_div, Nat.zero_mul]; rfl, by rw [HZ0.out, Nat.zero_div]; rfl, by rw [HZ0.out]; exact HX6.out, HK6.out, HS6.out, HB6.out⟩
  case round =>
    obtain ⟨i, sv, rv, hi1, rfl, rfl, hro, hX, hK, hS, hB⟩ := hrel
    have HX := Lib.hid hX
    have HK := Lib.hid hK
    have HB := Lib.hid hB
    have HS := Lib.hid hS
    have HRO := Lib.hid hro
    have hdl := Nat.div_le_self i (Rw.stride G)
    have hql : i / Rw.stride G * gw ≤ 400 := by
      have : i / Rw.stride G * gw ≤ 96 * 4 := Nat.mul_le_mul (by omega) HW4.out
      omega
    clear hX hK hB hS hro
    by_cases hlt : i < k
    · obtain ⟨g', o', hge, hbc⟩ := Rw.slk_pos HS.out hsz1
      cases hge
      have hcell := hbc i (by omega)
      obtain ⟨c, hc⟩ : ∃ c, bs.getD i 0 = c := ⟨_, rfl⟩
      obtain ⟨c0, c1⟩ := HBI.out c (by rw [← hc]; exact getD_mem (by rw [HBL.out]; omega))
      rw [hc] at hcell
      have HPZ : Hid (∀ (w2 : World), Sep (PlZ b sv rv) wr w2 → Hb w2 kb 25 G ∧ SlK .u8 w2 (some ⟨bg, bo, none⟩) sz bs ∧ Below w.heap.size w w2) := Lib.hid fun w2 hF =>
        ⟨(hF.block kb HK.out.lt (fun hz => by have := (HX.out.z kb hz).1; have := HKB.out; omega)).trans HK.out, ⟨HS.out.1, .inr ⟨bg, bo, rfl, fun j hj => hF.cell (fun hz => by have := (HX.out.z bg hz).1; have := HGB.out; omega) (hbc j hj)⟩⟩, HB.out.trans (hF.below HB.out.size (fun k hk hz => by have := (HX.out.z k hz).1; have := HKB.out; have := HKS.out; omega))⟩
      have hnb : ¬ (0 < Rw.badV G bs ∧ Rw.badV G bs ≤ ((i + 1 : Nat) : Int)) := fun hh => by have := HBV0.out; omega
      have hil : i < bs.length := by rw [HBL.out]; omega
      have his : i < sz := by omega
      by_cases hmod : (i + 1) % Rw.stride G = 0
      · obtain ⟨p, pp, p1, p2, p3, p4, p5⟩ := HSC.out i hil hnb his hmod
        rw [hc] at p1
        have hP := rcu_put c0 c1 HX.out p1 p3 (by rw [p2]; omega) (HRL.out p (by omega))
        have HP := Lib.hid hP
        have hq : (i + 1) / Rw.stride G = i / Rw.stride G + 1 := by
          have h9 := HRO.out
          rw [h9] at p4
          rw [p4] at p5
          omega
        have HQ : Hid ((i + 1) / Rw.stride G * gw = i / Rw.stride G * gw + gw) := Lib.hid (by rw [hq, Nat.add_mul, Nat.one_mul])
        have HP5 := Lib.hid p5
        clear hP hbc hc c0 c1 p1 p2 p3 p4 p5 pp hnb hil his hmod hq hdl
        have hg4 := HW4.out
        obtain ⟨nq, hnq⟩ : ∃ nq, i / Rw.stride G * gw = nq := ⟨_, rfl⟩
        rw [hnq] at HQ hql ⊢
        clear hnq
        go_wp2_with (go_at_call 32; refine HP.out.mono ?_; rintro e w7 ⟨a7, c7, sv', rv', rfl, hX7, hF7⟩; obtain ⟨z1, z2, z3⟩ := HPZ.out w7 hF7; have HX7 := Lib.hid hX7; have HK7 := Lib.hid z1; have HS7 := Lib.hid z2; have HB7 := Lib.hid z3; clear hX7 hF7 z1 z2 z3)
        go_roundw
        case rel => exact ⟨i + 1, sv', rv', hlt, by go_num, by rw [HQ.out, Int.natCast_add], HP5.out, HX7.out, HK7.out, HS7.out, HB7.out⟩
        case measure => simp [intOf]; omega
      · obtain ⟨p1, p2, p3, p4⟩ := HSDd.out i hil hnb his hmod
        rw [hc] at p1
        have hP := rcu_put c0 c1 HX.out p1 p3 (by rw [p2]; omega) (show ([] : List Int).length = 0 from rfl)
        have HP := Lib.hid hP
        have hml := Nat.mod_lt i hs1
        have hq : (i + 1) / Rw.stride G = i / Rw.stride G := by
          by_cases he : i % Rw.stride G + 1 = Rw.stride G
          · exact absurd (Rw.dm_eq he).2 hmod
          · exact (Rw.dm_lt (by omega)).1
        have HQ := Lib.hid hq
        have HP5 : Hid ((Rw.stt G bs sz (i + 1)).rows = ((i / Rw.stride G : Nat) : Int)) := Lib.hid (by rw [p4, HRO.out])
        clear hP hbc hc c0 c1 p1 p2 p3 p4 hnb hil his hmod hq hdl hml
        obtain ⟨nq, hnq⟩ : ∃ nq, i / Rw.stride G * gw = nq := ⟨_, rfl⟩
        rw [hnq] at hql ⊢
        have HNQ := Lib.hid hnq
        clear hnq
        go_wp2_with (go_at_call 32; refine HP.out.mono ?_; rintro e w7 ⟨a7, c7, sv', rv', rfl, hX7, hF7⟩; obtain ⟨z1, z2, z3⟩ := HPZ.out w7 hF7; have HX7 := Lib.hid hX7; have HK7 := Lib.hid z1; have HS7 := Lib.hid z2; have HB7 := Lib.hid z3; clear hX7 hF7 z1 z2 z3)
        go_roundw
        case rel => exact ⟨i + 1, sv', rv', hlt, by go_num, by rw [HQ.out, HNQ.out], by rw [HQ.out]; exact HP5.out, HX7.out, HK7.out, HS7.out, HB7.out⟩
        case measure => simp [intOf]; omega
    · obtain rfl : i = k := by omega
      have hRD := rwRead_any (some ⟨bg, bo, none⟩) i bc (bs.take i) (by omega) G HFGh.out
      have HBS : Hid (∀ W, Below wr.heap.size wr W → Bt.Bs W (some ⟨bg, bo, none⟩) i bc (bs.take i)) := Lib.hid fun W hW => by
        refine ⟨⟨by rw [List.length_take, HBL.out]; omega, .inr ⟨bg, bo, rfl, fun j hj => ?_⟩⟩, by have := HCP.out.1; omega, HCP.out.2, fun z hz => HBI.out z (List.mem_of_mem_take hz)⟩
        have h9 := HS.out.below hW
        rcases h9.2 with h8 | ⟨g', o', e', hc⟩
        · omega
        · cases e'
          rw [hc j (by omega), List.getD_eq_getElem?_getD, List.getD_eq_getElem?_getD, List.getElem?_take_of_lt hj]
      rw [Rw.cut_short HM.out HSZ.out hkN HBL.out (HNB.out i (by rw [HBL.out]; omega))] at hRD
      unfold RwdR agH at hRD
      have HRD := Lib.hid hRD
      have hst : Rw.stt G bs sz i = Rw.st G bs i := by rw [Rw.stt_ok (fun hh => by have := HBV0.out; omega), Nat.min_eq_left (by omega)]
      rw [hst] at HX HRO
      have HLE : Hid ((Rw.st G bs i).left = (sz : Int) - (i : Int)) := Lib.hid (by show Hj.size G - (i : Int) = _; rw [HSZ.out])
      obtain ⟨S, hS⟩ : ∃ S, Rw.st G bs i = S := ⟨_, rfl⟩
      rw [hS] at HX HRO HLE
      obtain ⟨q, hq⟩ : ∃ q, i / Rw.stride G = q := ⟨_, rfl⟩
      obtain ⟨n, hn⟩ : ∃ n, Rw.stride G = n := ⟨_, rfl⟩
      rw [hq] at HRO hql ⊢
      rw [hn] at hq hs1
      rw [hn] at HSD
      have hq96 : q ≤ 96 := by rw [← hq]; exact Nat.le_trans (Nat.div_le_self _ _) (by omega)
      have e1 : IntKind.i64.wrap ((sz : Int) - (i : Int)) = (sz : Int) - (i : Int) := IntWalk.i64_in _ (by omega)
      have e2 : IntKind.i64.wrap ((q : Int) * G.w) = ((q * gw : Nat) : Int) := by rw [HGW.out, ← Int.natCast_mul, IntWalk.i64_in _ (by omega)]
      have e3 : IntKind.i64.wrap ((i : Int).tdiv (n : Int)) = (q : Int) := by rw [rcu_div, hq, IntWalk.i64_in _ (by omega)]
      have e4 : ¬ (n : Int) = 0 := by omega
      have hic : (i : Int) ≤ (bc : Int) := by have := HCP.out.1; omega
      have hi0 : (0 : Int) ≤ (i : Int) := by omega
      have HE1 := Lib.hid e1
      have HE2 := Lib.hid e2
      have HE3 := Lib.hid e3
      have hq0 : RcQ wr kb b G sv rv S wr := ⟨HX.out, HK.out, .refl _ _⟩
      clear hRD hst hS hq hn hql hdl hq96 e1 e2 e3 HSC HSDd HRL HNB
      go_upto_region 16 with fail
      go_cut [18, 19] from 67 to 73 (fun s18 s19 wx => ∃ a c, s18 = .slice a 0 c ∧ s19 = .int .i64 6 ∧ RcQ wr kb b G sv rv S wx)
      case first =>
        go_region_held3 (fun w' => w'.cell? ⟨kb, 0, none⟩ = some (.int .i64 G.kd) ∧ w'.cell? ⟨kb, 1, none⟩ = some (.int .i64 G.w) ∧ w'.cell? ⟨kb, 2, none⟩ = some (.int .i64 G.h) ∧ w'.cell? ⟨kb, 3, none⟩ = some (.int .i64 G.m) ∧ RcQ wr kb b G sv rv S w')
          (first | (with_reducible exact RcQ.all hq0) | (with_reducible exact RcQ.all hq0.drew) | (go_split_ands; with_reducible exact RcQ.all (‹RcQ wr kb b G sv rv S _›)) | (go_split_ands; with_reducible exact RcQ.all (RcQ.drew (‹RcQ wr kb b G sv rv S _›))))
          (first
            | (go_at_call 25; go_split_ands; refine (HRD.out _ (HBS.out _ (RcQ.bel (‹RcQ wr kb b G sv rv S _›)))).mono ?_; rintro e wa ⟨a9, c9, rfl, _, hba⟩; have hqa := RcQ.later (‹RcQ wr kb b G sv rv S _›) hba))
        all_goals
          go_wp2_with fail
          go_meet
          case rel => exact ⟨a9, c9, by rfl, by rfl, hqa⟩
      case rest =>
        obtain ⟨a9, c9, rfl, rfl, hq1⟩ := hcut
        have HQB := Lib.hid (HB.out.trans (hq1.bel.mono HB.out.size))
        have HQ1 := Lib.hid hq1
        clear hq0 hq1
        have hq0 : RcQ wc kb b G sv rv S wc := ⟨HQ1.out.x, HQ1.out.k, .refl _ _⟩
        have e1 := HE1.out
        have e2 := HE2.out
        have e3 := HE3.out
        have v2 : ((n : Int) == 0) = false := by simp; omega
        have v3 : ¬ n = 0 := by omega
        have v4 : (n == 0) = false := by simp; omega
        have e3b : IntKind.i64.wrap ((i : Int) / (n : Int)) = (q : Int) := e3
        go_upto_region 17 with fail
        go_cut [6] from 74 to 105 (fun s6 wx => s6 = .bool true ∧ RcQ wc kb b G sv rv S wx)
        case first =>
          go_region_held3 (fun w' => w'.cell? ⟨kb, 0, none⟩ = some (.int .i64 G.kd) ∧ w'.cell? ⟨kb, 1, none⟩ = some (.int .i64 G.w) ∧ w'.cell? ⟨kb, 2, none⟩ = some (.int .i64 G.h) ∧ w'.cell? ⟨kb, 3, none⟩ = some (.int .i64 G.m) ∧ RcQ wc kb b G sv rv S w')
            (first | (with_reducible exact RcQ.all hq0) | (with_reducible exact RcQ.all hq0.drew) | (go_split_ands; with_reducible exact RcQ.all (‹RcQ wc kb b G sv rv S _›)) | (go_split_ands; with_reducible exact RcQ.all (RcQ.drew (‹RcQ wc kb b G sv rv S _›))))
            (first
              | (go_at_call 35; go_split_ands; refine (RcQ.left (by assumption) HLE.out).mono ?_; rintro e wa ⟨rfl, rfl⟩)
              | (go_at_call 34; go_split_ands; refine (RcQ.rows (by assumption) HRO.out).mono ?_; rintro e wa ⟨rfl, rfl⟩)
              | (go_at_call 30; go_split_ands; refine (HSD.out _).mono ?_; rintro e wa ⟨rfl, hba⟩; have hqa := RcQ.later (‹RcQ wc kb b G sv rv S _›) hba)
              | (go_at_call 28; go_split_ands; refine (lives9_any _).mono ?_; rintro e wa ⟨rfl, hba⟩; have hqa := RcQ.later (‹RcQ wc kb b G sv rv S _›) hba))
          all_goals
            go_wp2_with fail
            go_meet
            case rel => exact ⟨by rfl, hqa⟩
        case rest =>
          obtain ⟨rfl, hq2⟩ := hcut
          clear e1 e2 e3
          go_wp2
          go_ret
          exact ⟨rfl, HQB.out.trans (hq2.bel.mono HQB.out.size)⟩
end Go.Proofs.Ytflpocnbmpdhiaa
