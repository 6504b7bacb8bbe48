/- PlainWrites: a raster of pixels is the document's, or refused; it is read as it was: the walk of the law. No condition. -/
import Derived.Test.YtldhhhmihfcalaaZPlWx
import Derived.Test.YtldhhhmihfcalaaZPlO
import Derived.Deep.DeepCutAuto
import Derived.Deep.RegionHeld3
namespace Go.Proofs.Ytldhhhmihfcalaa
open Go.RowKit
set_option linter.unusedVariables false
theorem refPixels_own {w0 : World} {a : Option Addr} {ln cap : Nat} {z : List Int} (hr : IsRow .i64 w0 a ln cap z) (G : Hd.H) (hm : Pl.May G) (N : Nat) (hN : G.w * G.h = (N : Int)) (hN1 : N ≤ 100000) (hN0 : 1 ≤ N) (w : World) (hb : Below w0.heap.size w0 w) :
    Calls Try.prog 50 #[.slice a ln cap, agH G] w fun e w' => ∃ pb cp l, e = .returned (.slice (some ⟨pb, 0, none⟩) N cp) ∧ l.length = N ∧ Pl.Fits G l ∧ SlK .u64 w' (some ⟨pb, 0, none⟩) N l ∧ w.heap.size ≤ pb ∧ pb < w'.heap.size ∧ (∀ i, w'.frozen? ⟨pb, i, none⟩ = false) ∧ N ≤ cp ∧ cp ≤ 9223372036854775807 ∧ Below w.heap.size w w' := by
  have hs := (isrow_takeK hr ln (Nat.le_refl _)).below hb
  have hI : ∀ x ∈ z.take ln, Nu.I x := fun x hx => wfI (isrow_wfK hr x (List.mem_of_mem_take hx))
  obtain ⟨l1, l2, l3, l4⟩ := isrow_len hr
  have hout : ∀ e w', PxR N G w e w' → ∃ pb cp l, e = .returned (.slice (some ⟨pb, 0, none⟩) N cp) ∧ l.length = N ∧ Pl.Fits G l ∧ SlK .u64 w' (some ⟨pb, 0, none⟩) N l ∧ w.heap.size ≤ pb ∧ pb < w'.heap.size ∧ (∀ i, w'.frozen? ⟨pb, i, none⟩ = false) ∧ N ≤ cp ∧ cp ≤ 9223372036854775807 ∧ Below w.heap.size w w' := by
    rintro e w' ⟨ad, cp, l, h1, h2, h3, h4, h5⟩
    have H4 := h4
    rcases h4.2 with ⟨hv, h0⟩ | ⟨g, cap, cur, hv, k1, k2, k3, k4, k5, k6⟩
    · omega
    · injection hv with e1 e2 e3
      subst e1; subst e3
      exact ⟨g, cp, l, h1, h2, h3, slk_of_row H4 h2, k1, (H4.lt g rfl).2, fun i => H4.frozenAt i, k3, by unfold maxLen at k4; omega, h5⟩
  by_cases hz : ln = 0
  · exact (refPixels_zero a ln cap (z.take ln) G hm N hN hN1 w hz hs hI).mono hout
  · rcases hs.2 with h | ⟨blk, off, rfl, hc⟩
    · have := hs.1; rw [h] at this; simp at this; omega
    · exact (refPixels_pos blk off ln cap (z.take ln) G hm N hN hN1 w l1 hz hs.1 hc hI).mono hout
theorem wfP {n : Int} (h : (Lit.int .u64 n).wf = true) : Pq.Px.U n := by
  simp [Lit.wf, IntKind.min, IntKind.max, IntKind.bits, IntKind.signed] at h; unfold Pq.Px.U; omega
theorem slk_set {w : World} {pb N k : Nat} {l : List Int} {p : Int} (h : SlK .u64 w (some ⟨pb, 0, none⟩) N l) (hk : k < N) (hlt : pb < w.heap.size) : SlK .u64 (w.setCell ⟨pb, k, none⟩ (.int .u64 p)) (some ⟨pb, 0, none⟩) N (l.set k p) := by
  obtain ⟨h1, h2⟩ := h
  refine ⟨by rw [List.length_set]; exact h1, .inr ⟨pb, 0, rfl, fun i hi => ?_⟩⟩
  rcases h2 with h2 | ⟨b, o, e, hc⟩
  · omega
  · cases e
    have hci := hc i hi
    rw [Nat.zero_add] at hci
    by_cases he : i = k
    · subst he
      have e1 : (w.setCell ⟨pb, i, none⟩ (.int .u64 p)).cell? ⟨pb, i, none⟩ = some (.int .u64 p) := World.cell?_setCell_same' _ _ _ (by rw [hci]; rfl)
      rw [Nat.zero_add, e1, List.getD_eq_getElem?_getD, List.getElem?_set_self (by omega)]
      rfl
    · rw [Nat.zero_add, List.getD_eq_getElem?_getD, List.getElem?_set_ne (fun e => he e.symm), ← List.getD_eq_getElem?_getD, ← hci]
      have hne : (⟨pb, k, none⟩ : Addr) ≠ ⟨pb, i, none⟩ := fun e => he (Addr.mk.inj e).2.1.symm
      rw [World.cell?_setCell_other _ _ _ _ hne]
set_option maxRecDepth 100000 in
set_option maxHeartbeats 8000000 in
theorem plainWrites_walk (a0k0 a0w1 a0h2 a0m3 : Int) (a1 : Option Addr) (len1 cap1 : Nat) (z1 : List Int) (a2 : Int) (a3 : Int) (w : World) (w00 : (Lit.int .i64 a0k0).wf = true) (w01 : (Lit.int .i64 a0w1).wf = true) (w02 : (Lit.int .i64 a0h2).wf = true) (w03 : (Lit.int .i64 a0m3).wf = true) (w1 : IsRow .i64 w a1 len1 cap1 z1) (w2 : (Lit.int .i64 a2).wf = true) (w3 : (Lit.int .u64 a3).wf = true) :
    Calls Try.prog 8 #[.agg #[.int .i64 a0k0, .int .i64 a0w1, .int .i64 a0h2, .int .i64 a0m3], .slice a1 len1 cap1, .int .i64 a2, .int .u64 a3] w fun e w' => e = .returned (.bool true) ∧ Below w.heap.size w w' := by
  have HF : Hj.Fit ⟨a0k0, a0w1, a0h2, a0m3⟩ := ⟨wfI w00, wfI w01, wfI w02, wfI w03⟩
  have hG := refHead_any 80 (by decide) (by decide) _ HF
  have hM := Pl.headV_in 80 (by decide) (by decide) ⟨a0k0, a0w1, a0h2, a0m3⟩
  generalize Pl.headV 80 ⟨a0k0, a0w1, a0h2, a0m3⟩ = G0 at hG hM
  obtain ⟨hM0, hw9, hh9⟩ := hM
  have hmm0 := hM0.m
  obtain ⟨gw, hgw⟩ : ∃ gw : Nat, G0.w = (gw : Int) := ⟨G0.w.toNat, by omega⟩
  obtain ⟨h0, hh0⟩ : ∃ h0 : Nat, G0.h = (h0 : Int) := ⟨G0.h.toNat, by omega⟩
  obtain ⟨gh, hgh⟩ : ∃ gh : Nat, 1 + h0 % 3 = gh := ⟨_, rfl⟩
  obtain ⟨kd, ww, hhh, mx⟩ := G0
  simp only at hgw hh0 hmm0 hw9 hh9
  subst hgw hh0
  have hM : Pl.May ⟨kd, (gw : Int), (gh : Int), mx⟩ := by
    obtain ⟨h1, h2⟩ := hM0
    obtain ⟨c1, c2, c3, c4, c5⟩ := h1
    exact ⟨⟨c1, c2, ⟨by simp only; omega, by simp only; omega⟩, c4, c5⟩, h2⟩
  obtain ⟨N, hN⟩ : ∃ N, gw * gh = N := ⟨_, rfl⟩
  have hg3 : gh ≤ 3 := by omega
  have hg1 : 1 ≤ gh := by omega
  have hw80 : gw ≤ 80 := by omega
  have hw1 : 1 ≤ gw := by omega
  have hN240 : N ≤ 240 := by rw [← hN]; exact Nat.mul_le_mul hw80 hg3
  have hN1 : 1 ≤ N := by rw [← hN]; exact Nat.mul_pos hw1 hg1
  have HGI := Lib.hid (show (1 : Int) + (h0 : Int) % 3 = (gh : Int) by omega)
  have hPX := fun W (hb : Below w.heap.size w W) => refPixels_own w1 ⟨kd, (gw : Int), (gh : Int), mx⟩ hM N (by simp only; rw [← hN]; simp) (by omega) hN1 W hb
  have hRD := fun (s : ByteArray) (h : s.size ≤ 100000) W => plRead_any s h ⟨kd, (gw : Int), (gh : Int), mx⟩ (may_fit hM) W
  have hPW := fun pb cap l (hU : ∀ p ∈ l, Pq.Px.U p) (h1 : N ≤ cap) (h2 : cap ≤ 9223372036854775807) W hs => plWrite_any pb 0 N cap l ⟨kd, (gw : Int), (gh : Int), mx⟩ hM hU gw gh rfl rfl hN hw80 hg3 h1 h2 W hs
  have hRW := fun pb cap l (hU : ∀ p ∈ l, Pq.Px.U p) W hs => refWriteP_any (some ⟨pb, 0, none⟩) N cap l ⟨kd, (gw : Int), (gh : Int), mx⟩ (may_fit hM) hM (by omega) (by simp only; rw [← hN]; simp) hU W hs
  have hPN := fun pb n cap l (hU : ∀ p ∈ l, Pq.Px.U p) (hn : n < N) W hs => plWrite_no (some ⟨pb, 0, none⟩) n cap l ⟨kd, (gw : Int), (gh : Int), mx⟩ hM hU N (by simp only; rw [← hN]; simp) (by omega) (by omega) (.inl (by omega)) W hs
  have i2 := wfI w2
  have hj0 := Ar.around_lt a2 (N : Int) (by omega)
  obtain ⟨k, hke⟩ : ∃ k : Nat, Ar.around a2 (N : Int) = (k : Int) := ⟨(Ar.around a2 (N : Int)).toNat, by omega⟩
  have hkN : k < N := by omega
  have HJ : Hid (∀ W, Calls Try.prog 28 #[.int .i64 a2, .int .i64 (N : Int)] W fun e w' => e = .returned (.int .i64 (k : Int)) ∧ W = w') := fun W => by have := aroundOf a2 (N : Int) i2.1 i2.2 (by omega) (by omega) W; rw [hke] at this; exact this
  have HU3 : Hid (Pq.Px.U a3) := Lib.hid (wfP w3)
  unfold agH at hG hPX hRD hPW hRW hPN
  simp only at hG hPX hRD hPW hRW hPN
  have HG := Lib.hid hG; have HPX := Lib.hid hPX; have HRD := Lib.hid hRD; have HPW := Lib.hid hPW; have HRW := Lib.hid hRW; have HPN := Lib.hid hPN
  have HM := Lib.hid hM; have HN := Lib.hid hN
  clear hG hPX hRD hPW hRW hPN hM hN hM0 hmm0 hw9 hh9 i2 hj0 hke HF w00 w01 w02 w03 w1 w2 w3 hgh
  go_enter Try.func8, Try.ntmps8
  go_upto_region 1 with fail
  have h1 := box1' w (.cells #[.int .i64 a0k0, .int .i64 a0w1, .int .i64 a0h2, .int .i64 a0m3] 42)
  have HB1 := Lib.hid h1
  clear h1
  go_wp2_with fail
  refine (HG.out _).mono ?_
  rintro e w2 ⟨rfl, hb⟩
  have HB2 := Lib.hid (HB1.out.trans (hb.mono HB1.out.size))
  clear hb HG HB1
  go_upto_region 2 with fail
  have hkn := Hb.new w2 42 ⟨kd, (gw : Int), (h0 : Int), mx⟩
  generalize hW : w2.alloc (.cells #[.int .i64 kd, .int .i64 (gw : Int), .int .i64 (h0 : Int), .int .i64 mx] 42) = w3 at hkn ⊢
  have HB3 : Hid (Below w.heap.size w w3) := by show Below _ _ _; rw [← hW]; exact HB2.out.alloc HB2.out.size _
  obtain ⟨kb, hkb⟩ : ∃ k, w2.heap.size = k := ⟨_, rfl⟩
  have hkw : w.heap.size ≤ kb := by rw [← hkb]; exact HB2.out.size
  rw [hkb] at hkn ⊢
  have HK3 := Lib.hid hkn
  obtain ⟨k0, k1, k2, k3⟩ := hkn.cells
  obtain ⟨f0, f1, f2, f3⟩ := hkn.fr
  have hgi := HGI.out
  clear hW hkb HB2 hkn
  go_upto_region 3 with fail
  generalize hW : w3.setCell ⟨kb, 2, none⟩ (.int .i64 (gh : Int)) = w4
  have HK4 : Hid (Hb w4 kb 42 ⟨kd, (gw : Int), (gh : Int), mx⟩) := by
    have h' : w3.heap[kb]? = _ := HK3.out
    have := Go.heap_setCell_same w3 kb 2 _ _ (.int .i64 (gh : Int)) h'
    rw [hW] at this
    exact Lib.hid (by simpa [Hb] using this)
  have HB4 : Hid (Below w.heap.size w w4) := by show Below _ _ _; rw [← hW]; exact HB3.out.setCell (p := ⟨kb, 2, none⟩) hkw _
  clear hW k0 k1 k2 k3 f0 f1 f2 f3 HK3 HB3 hgi
  obtain ⟨k0, k1, k2, k3⟩ := HK4.out.cells
  go_wp2_with fail
  refine (HPX.out _ HB4.out).mono ?_
  rintro e w5 ⟨pb, cp, l, rfl, hln, hfit, hs, hpb, hp5, hfz, hc1, hc2, hb⟩
  have HK5 := Lib.hid (HK4.out.later hb)
  have HB5 := Lib.hid (HB4.out.trans (hb.mono HB4.out.size))
  have HP5 := Lib.hid hs
  have HLN := Lib.hid hln
  have HFT := Lib.hid hfit
  have HZ5 := Lib.hid hfz
  have hpw : w.heap.size ≤ pb := Nat.le_trans HB4.out.size hpb
  have hkp : kb < pb := Nat.lt_of_lt_of_le HK4.out.lt hpb
  have HPW1 := Lib.hid (fun W h => HPW.out pb cp l (Pl.goodU HFT.out) hc1 hc2 W h)
  have HRW1 := Lib.hid (fun W h => HRW.out pb cp l (Pl.goodU HFT.out) W h)
  have hwv : Pl.wV ⟨kd, (gw : Int), (gh : Int), mx⟩ l = .tuple #[.string (strOfNums (Pl.wAll ⟨kd, (gw : Int), (gh : Int), mx⟩ l l.length)), .int .i64 0] := if_pos (Pl.fits_all HM.out HFT.out)
  rw [hwv, HLN.out] at HPW1 HRW1
  have hwa := Pl.wAll_bytes HFT.out l.length (Nat.le_refl _)
  have hxl := Pl.wAll_len (G := ⟨kd, (gw : Int), (gh : Int), mx⟩) (l := l) (Pl.goodU HFT.out) l.length (Nat.le_refl _)
  have hsq := Pl.sq_all HM.out HFT.out l.length (Nat.le_refl _)
  rw [List.take_length] at hsq
  obtain ⟨m, hm1, hm2, hm3⟩ := Pl.read_all (W := gw) (H := gh) HM.out HFT.out rfl rfl (by rw [HLN.out, HN.out]) (es := []) (by intro e he; cases he) hsq
  rw [HLN.out] at hwa hxl hm1 hm2 hm3
  rw [List.nil_append] at hm1
  rw [List.length_nil, Nat.zero_add] at hm2 hm3
  obtain ⟨xs, hxs⟩ : ∃ xs, Pl.wAll ⟨kd, (gw : Int), (gh : Int), mx⟩ l N = xs := ⟨_, rfl⟩
  rw [hxs] at HPW1 HRW1 hwa hxl hm1 hm2 hm3
  obtain ⟨S, hS⟩ : ∃ S, strOfNums xs = S := ⟨_, rfl⟩
  rw [hS] at HPW1 HRW1
  have hSs : S.size = xs.length := by rw [← hS, strOfNums_size]
  have HR : Hid (∀ W, Calls Try.prog 38 #[.string S, .agg #[.int .i64 kd, .int .i64 (gw : Int), .int .i64 (gh : Int), .int .i64 mx]] W fun e w' => ∃ a c, e = .returned (.tuple #[.slice a N c, .int .i64 m, .int .i64 0]) ∧ SlK .u64 w' a N l ∧ Below W.heap.size W w') := Lib.hid fun W => by
    refine (HRD.out S (by omega) W).mono ?_
    rw [← hS, bytesOf_strOfNums hwa, hm1]
    rintro e w' ⟨a, c, h1, h2, h3⟩
    simp only [HLN.out] at h1 h2
    exact ⟨a, c, h1, h2, h3⟩
  have hmS : m = S.size ∨ m + 1 = S.size := by omega
  have hSm : S.size ≤ 100000 := by omega
  clear hwv hsq hwa hxl hm1 hm2 hm3 hxs hS hSs hs hb hln hfit hfz HPX HRD k0 k1 k2 k3 HK4 HB4
  obtain ⟨k0, k1, k2, k3⟩ := HK5.out.cells
  go_wp2_with fail
  refine (HPW1.out _ HP5.out).mono ?_
  rintro e w6 ⟨rfl, hb⟩
  have HK6 := Lib.hid (HK5.out.later hb); have HB6 := Lib.hid (HB5.out.trans (hb.mono HB5.out.size)); have HP6 := Lib.hid (HP5.out.below hb)
  have hz6 : ∀ i, w6.frozen? ⟨pb, i, none⟩ = false := fun i => by rw [hb.frozen (p := ⟨pb, i, none⟩) hp5]; exact HZ5.out i
  have hp6 : pb < w6.heap.size := Nat.lt_of_lt_of_le hp5 hb.size
  have HZ6 := Lib.hid hz6
  clear hb HK5 HB5 HP5 hz6 hp5 HZ5 k0 k1 k2 k3
  obtain ⟨k0, k1, k2, k3⟩ := HK6.out.cells
  go_wp2_with fail
  refine (HRW1.out _ HP6.out).mono ?_
  rintro e w7 ⟨rfl, hb⟩
  have HK7 := Lib.hid (HK6.out.later hb); have HB7 := Lib.hid (HB6.out.trans (hb.mono HB6.out.size)); have HP7 := Lib.hid (HP6.out.below hb)
  have hz7 : ∀ i, w7.frozen? ⟨pb, i, none⟩ = false := fun i => by rw [hb.frozen (p := ⟨pb, i, none⟩) hp6]; exact HZ6.out i
  have hp7 : pb < w7.heap.size := Nat.lt_of_lt_of_le hp6 hb.size
  have HZ7 := Lib.hid hz7
  clear hb HK6 HB6 HP6 hz7 hp6 HZ6 k0 k1 k2 k3
  obtain ⟨k0, k1, k2, k3⟩ := HK7.out.cells
  go_wp2_with fail
  refine (HR.out _).mono ?_
  rintro e w8 ⟨ra, rc, rfl, hsr, hb⟩
  have HSR := Lib.hid hsr
  have HK8 := Lib.hid (HK7.out.later hb); have HB8 := Lib.hid (HB7.out.trans (hb.mono HB7.out.size)); have HP8 := Lib.hid (HP7.out.below hb)
  have hz8 : ∀ i, w8.frozen? ⟨pb, i, none⟩ = false := fun i => by rw [hb.frozen (p := ⟨pb, i, none⟩) hp7]; exact HZ7.out i
  have hp8 : pb < w8.heap.size := Nat.lt_of_lt_of_le hp7 hb.size
  have HZ8 := Lib.hid hz8
  clear hb HK7 HB7 HP7 hz8 hp7 HZ7 k0 k1 k2 k3 hsr
  have hl2 : ∀ q ∈ l.set k a3, Pq.Px.U q := fun q hq => by
    rcases List.mem_or_eq_of_mem_set hq with h | h
    · exact Pl.goodU HFT.out q h
    · rw [h]; exact HU3.out
  have HPW2 := Lib.hid (fun W h => HPW.out pb cp (l.set k a3) hl2 hc1 hc2 W h)
  have HRW2 := Lib.hid (fun W h => HRW.out pb cp (l.set k a3) hl2 W h)
  have HPN2 := Lib.hid (fun W h => HPN.out pb k cp ((l.set k a3).take k) (fun q hq => hl2 q (List.mem_of_mem_take hq)) hkN W h)
  obtain ⟨S2, e2, hv2⟩ : ∃ S2 e2, Pl.wV ⟨kd, (gw : Int), (gh : Int), mx⟩ (l.set k a3) = .tuple #[.string S2, .int .i64 e2] := by
    unfold Pl.wV; split
    · exact ⟨_, _, rfl⟩
    · exact ⟨_, _, rfl⟩
  rw [hv2] at HPW2 HRW2
  have HL2 : Hid (∀ W, SlK .u64 W (some ⟨pb, 0, none⟩) N (l.set k a3) → SlK .u64 W (some ⟨pb, 0, none⟩) k ((l.set k a3).take k)) := Lib.hid fun W h => by
    refine ⟨by rw [List.length_take, h.1]; omega, ?_⟩
    rcases h.2 with h2 | ⟨b, o, e, hc⟩
    · omega
    · refine .inr ⟨b, o, e, fun i hi => ?_⟩
      rw [hc i (by omega), List.getD_eq_getElem?_getD, List.getD_eq_getElem?_getD, List.getElem?_take_of_lt hi]
  have hkI : (0 : Int) ≤ (k : Int) := by omega
  have hkJ : (k : Int) < (N : Int) := by omega
  clear HPW HRW HPN hl2 hv2 HPW1 HRW1 HR
  go_wp2_with fail
  refine (same_yes ra (some ⟨pb, 0, none⟩) N rc cp l _ (by omega) HSR.out HP8.out).mono ?_
  rintro e w9 ⟨rfl, hb⟩
  have HK9 := Lib.hid (HK8.out.later hb); have HB9 := Lib.hid (HB8.out.trans (hb.mono HB8.out.size)); have HP9 := Lib.hid (HP8.out.below hb)
  have hz9 : ∀ i, w9.frozen? ⟨pb, i, none⟩ = false := fun i => by rw [hb.frozen (p := ⟨pb, i, none⟩) hp8]; exact HZ8.out i
  have hp9 : pb < w9.heap.size := Nat.lt_of_lt_of_le hp8 hb.size
  have HZ9 := Lib.hid hz9
  clear hb HK8 HB8 HP8 hz9 hp8 HZ8 HSR
  obtain ⟨u, hu⟩ : ∃ u, w9.cell? ⟨pb, k, none⟩ = some u := by
    rcases HP9.out.2 with h | ⟨b, o, e, hc⟩
    · omega
    · cases e; have := hc k hkN; rw [Nat.zero_add] at this; exact ⟨_, this⟩
  have HSS := Lib.hid (slk_set (p := a3) HP9.out hkN hp9)
  have hfk := HZ9.out k
  clear HZ9
  rcases hmS with hmS | hmS
  · have hm1 : ((m : Int) != (S.size : Int)) = false := by simp [hmS]
    clear hmS
    go_wp2_with fail
    refine (HJ.out _).mono ?_
    rintro e wj ⟨rfl, rfl⟩
    go_upto_region 11 with fail
    generalize hW : w9.setCell ⟨pb, k, none⟩ (.int .u64 a3) = wa
    have HPA : Hid (SlK .u64 wa (some ⟨pb, 0, none⟩) N (l.set k a3)) := by show SlK _ _ _ _ _; rw [← hW]; exact HSS.out
    have HKA : Hid (Hb wa kb 42 ⟨kd, (gw : Int), (gh : Int), mx⟩) := by
      show wa.heap[kb]? = _
      rw [← hW, Go.heap_setCell_other _ _ _ _ (show kb ≠ pb by omega)]
      exact HK9.out
    have HBA : Hid (Below w.heap.size w wa) := by show Below _ _ _; rw [← hW]; exact HB9.out.setCell (p := ⟨pb, k, none⟩) hpw _
    clear hW HSS HK9 HB9 HP9 hu hfk hp9
    obtain ⟨k0, k1, k2, k3⟩ := HKA.out.cells
    go_wp2_with fail
    refine (HPW2.out _ HPA.out).mono ?_
    rintro e wb ⟨rfl, hb⟩
    have HKB := Lib.hid (HKA.out.later hb); have HBB := Lib.hid (HBA.out.trans (hb.mono HBA.out.size)); have HPB := Lib.hid (HPA.out.below hb)
    clear k0 k1 k2 k3 hb HKA HBA HPA
    obtain ⟨k0, k1, k2, k3⟩ := HKB.out.cells
    go_wp2_with fail
    refine (HRW2.out _ HPB.out).mono ?_
    rintro e w10 ⟨rfl, hb⟩
    have HKD := Lib.hid (HKB.out.later hb); have HBD := Lib.hid (HBB.out.trans (hb.mono HBB.out.size)); have HPD := Lib.hid (HPB.out.below hb)
    clear k0 k1 k2 k3 hb HKB HBB HPB
    obtain ⟨k0, k1, k2, k3⟩ := HKD.out.cells
    have hkc : (k : Int) ≤ (cp : Int) := by omega
    have hBt := Below.refl w10.heap.size w10
    go_wp2_with fail
    go_cut [23, 24] (fun s23 s24 wx => s23 = .string ⟨#[]⟩ ∧ s24 = .int .i64 1 ∧ Below w10.heap.size w10 wx)
    case first =>
      go_region_held3 (fun w' => w'.cell? ⟨kb, 0, none⟩ = some (.int .i64 kd) ∧ w'.cell? ⟨kb, 1, none⟩ = some (.int .i64 (gw : Int)) ∧ w'.cell? ⟨kb, 2, none⟩ = some (.int .i64 (gh : Int)) ∧ w'.cell? ⟨kb, 3, none⟩ = some (.int .i64 mx))
        (first | exact ⟨k0, k1, k2, k3⟩ | exact ⟨cell_later (by repeat' (first | (with_reducible exact hBt) | (with_reducible refine Below.alloc ?_ ?_ _) | (with_reducible refine Below.drew ?_) | (with_reducible refine below_drewN ?_ _) | (with_reducible refine Below.setCell ?_ ?_ _) | exact hBt.size | (have := hBt.size; first | omega | (simp; done) | (simp; omega)))) k0, cell_later (by repeat' (first | (with_reducible exact hBt) | (with_reducible refine Below.alloc ?_ ?_ _) | (with_reducible refine Below.drew ?_) | (with_reducible refine below_drewN ?_ _) | (with_reducible refine Below.setCell ?_ ?_ _) | exact hBt.size | (have := hBt.size; first | omega | (simp; done) | (simp; omega)))) k1, cell_later (by repeat' (first | (with_reducible exact hBt) | (with_reducible refine Below.alloc ?_ ?_ _) | (with_reducible refine Below.drew ?_) | (with_reducible refine below_drewN ?_ _) | (with_reducible refine Below.setCell ?_ ?_ _) | exact hBt.size | (have := hBt.size; first | omega | (simp; done) | (simp; omega)))) k2, cell_later (by repeat' (first | (with_reducible exact hBt) | (with_reducible refine Below.alloc ?_ ?_ _) | (with_reducible refine Below.drew ?_) | (with_reducible refine below_drewN ?_ _) | (with_reducible refine Below.setCell ?_ ?_ _) | exact hBt.size | (have := hBt.size; first | omega | (simp; done) | (simp; omega)))) k3⟩)
        (first
          | (go_at_call 51; refine (HPN2.out _ (HL2.out _ (HPD.out.below (by repeat' (first | (with_reducible exact hBt) | (with_reducible refine Below.alloc ?_ ?_ _) | (with_reducible refine Below.drew ?_) | (with_reducible refine below_drewN ?_ _) | (with_reducible refine Below.setCell ?_ ?_ _) | exact hBt.size | (have := hBt.size; first | omega | (simp; done) | (simp; omega))))))).mono ?_; rintro e w9 ⟨rfl, hb9⟩; replace hBt := bel_step (w := w10) (by repeat' (first | (with_reducible exact hBt) | (with_reducible refine Below.alloc ?_ ?_ _) | (with_reducible refine Below.drew ?_) | (with_reducible refine below_drewN ?_ _) | (with_reducible refine Below.setCell ?_ ?_ _) | exact hBt.size | (have := hBt.size; first | omega | (simp; done) | (simp; omega)))) hb9; have hsz9 := hBt.size))
      all_goals
        go_wp2_with fail
        go_meet
        case rel => exact ⟨rfl, rfl, hBt⟩
    case rest =>
      obtain ⟨rfl, rfl, hbx⟩ := hcut
      have HBX := Lib.hid (HBD.out.trans (hbx.mono HBD.out.size))
      clear hbx hBt k0 k1 k2 k3
      go_wp2_with fail
      refine (lives8_any _).mono ?_
      rintro e wz ⟨rfl, hb⟩
      have HBZ := Lib.hid (HBX.out.trans (hb.mono HBX.out.size))
      clear hb
      go_wp2
      go_ret
      exact ⟨rfl, HBZ.out⟩
  · have hm1 : ((m : Int) != (S.size : Int)) = true := by simp; omega
    have hm2 : ((m : Int) != (S.size : Int) - 1) = false := by simp; omega
    clear hmS
    go_wp2_with fail
    refine (HJ.out _).mono ?_
    rintro e wj ⟨rfl, rfl⟩
    go_upto_region 11 with fail
    generalize hW : w9.setCell ⟨pb, k, none⟩ (.int .u64 a3) = wa
    have HPA : Hid (SlK .u64 wa (some ⟨pb, 0, none⟩) N (l.set k a3)) := by show SlK _ _ _ _ _; rw [← hW]; exact HSS.out
    have HKA : Hid (Hb wa kb 42 ⟨kd, (gw : Int), (gh : Int), mx⟩) := by
      show wa.heap[kb]? = _
      rw [← hW, Go.heap_setCell_other _ _ _ _ (show kb ≠ pb by omega)]
      exact HK9.out
    have HBA : Hid (Below w.heap.size w wa) := by show Below _ _ _; rw [← hW]; exact HB9.out.setCell (p := ⟨pb, k, none⟩) hpw _
    clear hW HSS HK9 HB9 HP9 hu hfk hp9
    obtain ⟨k0, k1, k2, k3⟩ := HKA.out.cells
    go_wp2_with fail
    refine (HPW2.out _ HPA.out).mono ?_
    rintro e wb ⟨rfl, hb⟩
    have HKB := Lib.hid (HKA.out.later hb); have HBB := Lib.hid (HBA.out.trans (hb.mono HBA.out.size)); have HPB := Lib.hid (HPA.out.below hb)
    clear k0 k1 k2 k3 hb HKA HBA HPA
    obtain ⟨k0, k1, k2, k3⟩ := HKB.out.cells
    go_wp2_with fail
    refine (HRW2.out _ HPB.out).mono ?_
    rintro e w10 ⟨rfl, hb⟩
    have HKD := Lib.hid (HKB.out.later hb); have HBD := Lib.hid (HBB.out.trans (hb.mono HBB.out.size)); have HPD := Lib.hid (HPB.out.below hb)
    clear k0 k1 k2 k3 hb HKB HBB HPB
    obtain ⟨k0, k1, k2, k3⟩ := HKD.out.cells
    have hkc : (k : Int) ≤ (cp : Int) := by omega
    have hBt := Below.refl w10.heap.size w10
    go_wp2_with fail
    go_cut [23, 24] (fun s23 s24 wx => s23 = .string ⟨#[]⟩ ∧ s24 = .int .i64 1 ∧ Below w10.heap.size w10 wx)
    case first =>
      go_region_held3 (fun w' => w'.cell? ⟨kb, 0, none⟩ = some (.int .i64 kd) ∧ w'.cell? ⟨kb, 1, none⟩ = some (.int .i64 (gw : Int)) ∧ w'.cell? ⟨kb, 2, none⟩ = some (.int .i64 (gh : Int)) ∧ w'.cell? ⟨kb, 3, none⟩ = some (.int .i64 mx))
        (first | exact ⟨k0, k1, k2, k3⟩ | exact ⟨cell_later (by repeat' (first | (with_reducible exact hBt) | (with_reducible refine Below.alloc ?_ ?_ _) | (with_reducible refine Below.drew ?_) | (with_reducible refine below_drewN ?_ _) | (with_reducible refine Below.setCell ?_ ?_ _) | exact hBt.size | (have := hBt.size; first | omega | (simp; done) | (simp; omega)))) k0, cell_later (by repeat' (first | (with_reducible exact hBt) | (with_reducible refine Below.alloc ?_ ?_ _) | (with_reducible refine Below.drew ?_) | (with_reducible refine below_drewN ?_ _) | (with_reducible refine Below.setCell ?_ ?_ _) | exact hBt.size | (have := hBt.size; first | omega | (simp; done) | (simp; omega)))) k1, cell_later (by repeat' (first | (with_reducible exact hBt) | (with_reducible refine Below.alloc ?_ ?_ _) | (with_reducible refine Below.drew ?_) | (with_reducible refine below_drewN ?_ _) | (with_reducible refine Below.setCell ?_ ?_ _) | exact hBt.size | (have := hBt.size; first | omega | (simp; done) | (simp; omega)))) k2, cell_later (by repeat' (first | (with_reducible exact hBt) | (with_reducible refine Below.alloc ?_ ?_ _) | (with_reducible refine Below.drew ?_) | (with_reducible refine below_drewN ?_ _) | (with_reducible refine Below.setCell ?_ ?_ _) | exact hBt.size | (have := hBt.size; first | omega | (simp; done) | (simp; omega)))) k3⟩)
        (first
          | (go_at_call 51; refine (HPN2.out _ (HL2.out _ (HPD.out.below (by repeat' (first | (with_reducible exact hBt) | (with_reducible refine Below.alloc ?_ ?_ _) | (with_reducible refine Below.drew ?_) | (with_reducible refine below_drewN ?_ _) | (with_reducible refine Below.setCell ?_ ?_ _) | exact hBt.size | (have := hBt.size; first | omega | (simp; done) | (simp; omega))))))).mono ?_; rintro e w9 ⟨rfl, hb9⟩; replace hBt := bel_step (w := w10) (by repeat' (first | (with_reducible exact hBt) | (with_reducible refine Below.alloc ?_ ?_ _) | (with_reducible refine Below.drew ?_) | (with_reducible refine below_drewN ?_ _) | (with_reducible refine Below.setCell ?_ ?_ _) | exact hBt.size | (have := hBt.size; first | omega | (simp; done) | (simp; omega)))) hb9; have hsz9 := hBt.size))
      all_goals
        go_wp2_with fail
        go_meet
        case rel => exact ⟨rfl, rfl, hBt⟩
    case rest =>
      obtain ⟨rfl, rfl, hbx⟩ := hcut
      have HBX := Lib.hid (HBD.out.trans (hbx.mono HBD.out.size))
      clear hbx hBt k0 k1 k2 k3
      go_wp2_with fail
      refine (lives8_any _).mono ?_
      rintro e wz ⟨rfl, hb⟩
      have HBZ := Lib.hid (HBX.out.trans (hb.mono HBX.out.size))
      clear hb
      go_wp2
      go_ret
      exact ⟨rfl, HBZ.out⟩
end Go.Proofs.Ytldhhhmihfcalaa
