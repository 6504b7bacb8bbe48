/- RawSteps: what a reader tells of each byte is the document's: the walk of the law. No condition. -/
import Derived.Test.YtflpocnbmpdhiaaZRwM
namespace Go.Proofs.Ytflpocnbmpdhiaa
open Go.RowKit
set_option linter.unusedVariables false
theorem rst_small {G : Hd.H} (hm : Rw.May G) (hw : G.w ≤ 4) : Rw.stride G ≤ 24 := by
  have hs := Rw.stride_at hm
  have hmm := hm.m
  by_cases h4 : G.kd = 4
  · have := hs.2.2.1 h4; omega
  · have h5 := hs.2.2.2 h4
    rcases Rw.chan_at G with ⟨_, hc⟩ | ⟨_, hc⟩ <;> rcases Rw.wide_at G with ⟨_, hw⟩ | ⟨_, hw⟩ <;> simp only [hc, hw] at h5 <;> omega
theorem rst_mod (i n : Nat) : ((i : Int) + 1) % (n : Int) = (((i + 1) % n : Nat) : Int) := by
  have e : (i : Int) + 1 = ((i + 1 : Nat) : Int) := by omega
  rw [e]; rfl
theorem rst_no {i n : Nat} (h : ¬ (i + 1) % n = 0) : (((i : Int) + 1) % (n : Int) == 0) = false := by
  rw [rst_mod]
  have : ¬ ((((i + 1) % n : Nat) : Int) = 0) := by omega
  simpa using this
theorem rst_yes {i n : Nat} (h : (i + 1) % n = 0) : (((i : Int) + 1) % (n : Int) == 0) = true := by
  rw [rst_mod, h]; rfl
theorem same_nil (a : Option Addr) (c : Nat) (w : World) (hs : SlK .u64 w a 0 []) :
    Calls Try.prog 27 #[.slice a 0 c, .slice none 0 0] w fun e w' => e = .returned (.bool true) ∧ Below w.heap.size w w' :=
  same_yes a none 0 c 0 [] w (by omega) hs ⟨rfl, .inl rfl⟩
theorem rst_put {s s' : Rw.S} {out : List Int} {L : Int} {N : Nat} {c : Int} (c0 : 0 ≤ c) (c1 : c ≤ 255) {w : World} {b : Nat} {sv rv : Value} (X : RwX w b sv rv s) (hq : Rw.put s c = (s', out)) (hl : Rw.last s' = L) (hn : out.length = N) :
    Calls Try.prog 32 #[.pointer (some ⟨b, 0, none⟩), .int .u8 c] w fun e w' => ∃ a c' sv' rv', e = .returned (.tuple #[.slice a N c', .int .i64 L]) ∧ RwX w' b sv' rv' s' ∧ SlK .u64 w' a N out ∧ Sep (PlZ b sv rv) w w' := by
  have h := rwPut_any c c0 c1 w b sv rv X
  rw [hq] at h
  unfold RwPutR at h
  simp only [hl, hn] at h
  refine h.mono ?_
  rintro e w' ⟨a, c', sv', rv', he, hX, hS, hF, _, _⟩
  exact ⟨a, c', sv', rv', he, hX, hS, hF⟩
theorem rst_last2 {s : Rw.S} (h : s.e = 5) : Rw.last s = 2 := by unfold Rw.last; rw [h]; rfl
theorem rst_last1 {s : Rw.S} (h : s.e = 0) (hl : s.left = 0) : Rw.last s = 1 := by unfold Rw.last; rw [h, hl]; rfl
theorem rst_last0 {s : Rw.S} (h : s.e = 0) (hl : s.left ≠ 0) : Rw.last s = 0 := by unfold Rw.last; rw [h, if_neg (by omega), if_neg hl]
set_option maxRecDepth 100000 in
set_option maxHeartbeats 16000000 in
theorem rawSteps_walk (a0 : Option Addr) (len0 cap0 : Nat) (z0 : List Int) (a1k0 a1w1 a1h2 a1m3 : Int) (w : World) (w0 : IsRow .u8 w a0 len0 cap0 z0) (w10 : (Lit.int .i64 a1k0).wf = true) (w11 : (Lit.int .i64 a1w1).wf = true) (w12 : (Lit.int .i64 a1h2).wf = true) (w13 : (Lit.int .i64 a1m3).wf = true) :
    Calls Try.prog 6 #[.slice a0 len0 cap0, .agg #[.int .i64 a1k0, .int .i64 a1w1, .int .i64 a1h2, .int .i64 a1m3]] w fun e w' => e = .returned (.bool true) ∧ Below w.heap.size w w' := by
  have HF : Hj.Fit ⟨a1k0, a1w1, a1h2, a1m3⟩ := ⟨wfI w10, wfI w11, wfI w12, wfI w13⟩
  have hG := refRwHead_any 4 (by decide) (by decide) _ HF
  have hM := Rw.headV_in 4 (by decide) (by decide) ⟨a1k0, a1w1, a1h2, a1m3⟩
  generalize Rw.headV 4 ⟨a1k0, a1w1, a1h2, a1m3⟩ = G at hG hM
  obtain ⟨hM, hw9, hh9⟩ := hM
  have hmm := hM.m
  have hn24 := rst_small hM hw9
  obtain ⟨H, sz, hH, hsz, hszm, H1⟩ := Rw.size_nat hM
  have hs1 := (Rw.stride_at hM).1
  have HFG := Rw.may_fit hM
  have hnw := rwNew_yes G HFG hM
  have hsd := refStride_any G hM.1
  have hst := rwStride_any G HFG hM.1
  have hsv : Rw.strideV G = (Rw.stride G : Int) := if_pos hM.2
  rw [hsv] at hsd hst
  obtain ⟨l1, l2, l3, l4⟩ := isrow_len w0
  obtain ⟨m, hmq⟩ : ∃ m, ((len0 ≤ 80 ∧ m = len0) ∨ (80 < len0 ∧ m = 80)) := ⟨min len0 80, by omega⟩
  have hm1 : m ≤ len0 := by omega
  have hm80 : m ≤ 80 := by omega
  have kd : min (len0 : Int) 80 = (m : Int) := by omega
  have HS := Lib.hid (Rw.bs_in w0 m hm1)
  generalize z0.take m = bs at HS
  have HBL : Hid (bs.length = m) := Lib.hid HS.out.1.1
  have HBY := Lib.hid HS.out.2.2.2
  have HBD := Lib.hid (fun W hb => refBad_any a0 m cap0 bs (by omega) HS.out.2.1 G hM W (HS.out.below hb))
  have HRW := Lib.hid (fun W hb (p : Nat) (hp : p + Rw.stride G ≤ m) g o (e : a0 = some ⟨g, o, none⟩) => refRow_any g (o + p) (Rw.stride G) (cap0 - p) ((bs.drop p).take (Rw.stride G)) G hM rfl W (rwz_bs (by have hs := HS.out; rw [e] at hs; exact hs.below hb) hp))
  obtain ⟨bad, hbad⟩ : ∃ bad, Rw.badV G bs = bad := ⟨_, rfl⟩
  have hbad0 := Rw.badN_nonneg G bs (Hj.size G).toNat
  rw [← Rw.badV_eq, hbad] at hbad0
  have HZ0 := Lib.hid (Rw.stt_zero hM bs sz)
  have HSA := Lib.hid (fun i => Rw.step_a hM bs hsz (i := i))
  have HSB := Lib.hid (fun i => Rw.step_b (h := G) bs hsz (i := i))
  have HSC := Lib.hid (fun i => Rw.step_c hM bs hsz (i := i))
  have HSD := Lib.hid (fun i => Rw.step_d hM bs hsz (i := i))
  obtain ⟨n, hn⟩ : ∃ n, Rw.stride G = n := ⟨_, rfl⟩
  have HRL : Hid (∀ p, (Rw.rowV G ((bs.drop p).take n)).length ≤ 4096) := Lib.hid (fun p => by
    have := (Rw.row_len hM ((bs.drop p).take n)).2.2 (by rw [hn]; exact List.length_take_le _ _)
    omega)
  rw [hn] at hsd hst hszm hn24 hs1 HRW HSC HSD
  rw [hbad] at HBD HSA HSB HSC HSD
  have hsz96 : sz ≤ 96 := by
    rw [hszm]
    exact Nat.mul_le_mul (show H ≤ 4 by omega) hn24
  have hpr : wrap64 ((n : Int) * G.h) = (sz : Int) := by rw [hH, ← Int.natCast_mul, Nat.mul_comm, ← hszm, IntWalk.wrap64_in] <;> omega
  have HPR := Lib.hid hpr
  have HHH := Lib.hid hH
  have HSZM := Lib.hid hszm
  have hmc : (m : Int) ≤ (cap0 : Int) := by omega
  have hm0 : (0 : Int) ≤ (m : Int) := by omega
  have hn0 : ¬ (n : Int) = 0 := by omega
  unfold agH at hG hnw hsd hst HBD HRW
  have HG := Lib.hid hG
  have HNW := Lib.hid hnw
  have HSDc := Lib.hid hsd
  have HSTc := Lib.hid hst
  have HN24 := Lib.hid hn24
  have HH4 : Hid (H ≤ 4) := Lib.hid (by omega)
  clear hG hnw hsd hst HF HFG w0 w10 w11 w12 w13 hM hmm hsz hszm hpr hH hsv hbad hn hw9 hh9 H1 hn24
  go_enter Try.func6, Try.ntmps6
  go_upto_region 1 with fail
  generalize hW : w.alloc (.cells #[.int .i64 a1k0, .int .i64 a1w1, .int .i64 a1h2, .int .i64 a1m3] 25) = W1
  have HK1 : Hid (Hb W1 w.heap.size 25 ⟨a1k0, a1w1, a1h2, a1m3⟩) := by show Hb _ _ _ _; rw [← hW]; exact Hb.new w 25 ⟨a1k0, a1w1, a1h2, a1m3⟩
  have HB1 : Hid (Below w.heap.size w W1) := by show Below _ _ _; rw [← hW]; exact box1' _ _
  clear hW
  go_cut [0] from 18 to 22 (fun s0 wx => s0 = .slice a0 m cap0 ∧ wx = W1)
  case first =>
    go_wp2_with fail
    all_goals
      go_meet
      case rel => exact ⟨by show Value.slice a0 _ cap0 = Value.slice a0 m cap0; congr 1; omega, rfl⟩
  case rest =>
   obtain ⟨rfl, rfl⟩ := hcut
   clear kd hmq l1 l2 l3 l4 hm1
   obtain ⟨n0, n1, n2, n3⟩ := HK1.out.cells
   simp only at n0 n1 n2 n3
   go_wp2_with fail
   refine (HG.out _).mono ?_
   rintro e w2 ⟨rfl, hb⟩
   have HB2 := Lib.hid (HB1.out.trans (hb.mono HB1.out.size))
   clear hb n0 n1 n2 n3 HK1 HB1
   go_upto_region 3 with fail
   generalize hW : w2.alloc (.cells #[.int .i64 G.kd, .int .i64 G.w, .int .i64 G.h, .int .i64 G.m] 25) = w3
   have HK3 : Hid (Hb w3 w2.heap.size 25 G) := by show Hb _ _ _ _; rw [← hW]; exact Hb.new w2 25 G
   have HB3 : Hid (Below w.heap.size w w3) := by show Below _ _ _; rw [← hW]; exact HB2.out.alloc HB2.out.size _
   have HKS : Hid (w.heap.size ≤ w2.heap.size) := Lib.hid HB2.out.size
   clear hW
   obtain ⟨kb, hkb⟩ : ∃ k, w2.heap.size = k := ⟨_, rfl⟩
   rw [hkb] at HK3 HKS ⊢
   clear hkb HB2
   obtain ⟨k0, k1, k2, k3⟩ := HK3.out.cells
   go_wp2_with fail
   refine (HNW.out _).mono ?_
   rintro e w4 ⟨b, rfl, hwb, hX, hb⟩
   have HK4 := Lib.hid (HK3.out.later hb)
   have HB4 := Lib.hid (HB3.out.trans (hb.mono HB3.out.size))
   have HX4 := Lib.hid hX
   have HKB : Hid (kb < b) := Lib.hid (Nat.lt_of_lt_of_le HK3.out.lt hwb)
   clear hb k0 k1 k2 k3 HK3 HB3 hX hwb
   obtain ⟨k0, k1, k2, k3⟩ := HK4.out.cells
   go_wp2_with fail
   refine (HSDc.out _).mono ?_
   rintro e w5 ⟨rfl, hb⟩
   have HK5 := Lib.hid (HK4.out.later hb)
   have HB5 := Lib.hid (HB4.out.trans (hb.mono HB4.out.size))
   have HX5 := Lib.hid (HX4.out.later hb)
   clear hb k0 k1 k2 k3 HK4 HB4 HX4
   obtain ⟨k0, k1, k2, k3⟩ := HK5.out.cells
   go_wp2_with fail
   refine (HBD.out _ HB5.out).mono ?_
   rintro e w6 ⟨rfl, hb⟩
   have HK6 := Lib.hid (HK5.out.later hb)
   have HB6 := Lib.hid (HB5.out.trans (hb.mono HB5.out.size))
   have HX6 := Lib.hid (HX5.out.later hb)
   clear hb k0 k1 k2 k3 HK5 HB5 HX5
   go_wp2_with fail
   go_loopw [10, 11] (fun u10 u11 wr => ∃ (i : Nat) (sv rv : Value), i ≤ m ∧ u11 = .int .i64 i ∧ u10 = .int .i64 (Rw.stt G bs sz i).rows ∧ RwX wr b sv rv (Rw.stt G bs sz i) ∧ Hb wr kb 25 G ∧ Below w.heap.size w wr) (fun _ u11 _ => m - (intOf u11).toNat)
   case atStart => exact ⟨0, _, _, Nat.zero_le _, rfl, by rw [HZ0.out]; rfl, by rw [HZ0.out]; exact HX6.out, HK6.out, HB6.out⟩
   case round =>
     obtain ⟨i, sv, rv, hi1, rfl, rfl, hX, hK, hB⟩ := hrel
     have HX := Lib.hid hX
     have HK := Lib.hid hK
     have HB := Lib.hid hB
     obtain ⟨k0, k1, k2, k3⟩ := hK.cells
     have hsl := HS.out.1.below hB
     have hr0 := hX.g.rows0
     have hr1 := hX.g.rows1
     obtain ⟨rho, hrho⟩ : ∃ rho, (Rw.stt G bs sz i).rows = rho := ⟨_, rfl⟩
     have hhd : (Rw.stt G bs sz i).h = G := by unfold Rw.stt Rw.dead Rw.st; split <;> rfl
     have HRHO := Lib.hid hrho
     rw [hrho] at hr0 hr1 ⊢
     rw [hhd, HHH.out] at hr1
     clear hX hK hB hrho hhd
     by_cases hlt : i < m
     · obtain ⟨bg, bo, hba, hbc⟩ := Rw.slk_pos hsl (by omega)
       have hcell := hbc i hlt
       obtain ⟨c, hc⟩ : ∃ c, bs.getD i 0 = c := ⟨_, rfl⟩
       obtain ⟨c0, c1⟩ := HBY.out c (by rw [← hc, List.getD_eq_getElem?_getD, List.getElem?_eq_getElem (by rw [HBL.out]; exact hlt)]; exact List.getElem_mem _)
       rw [hc] at hcell
       have HC := Lib.hid hc
       subst hba
       have HPZ : Hid (∀ (w2 : World), Sep (PlZ b sv rv) wr w2 → Hb w2 kb 25 G ∧ Below w.heap.size w w2) := Lib.hid fun w2 hS =>
         ⟨(hS.block kb HK.out.lt (fun hz => by have := (HX.out.z kb hz).1; have := HKB.out; omega)).trans HK.out, HB.out.trans (hS.below HB.out.size (fun k hk hz => by have := (HX.out.z k hz).1; have := HKB.out; have := HKS.out; omega))⟩
       clear hbc hsl hc
       by_cases hA : 0 < bad ∧ bad ≤ (i : Int) + 1
       · obtain ⟨p1, p2, p3, p4⟩ := HSA.out i (by rw [HBL.out]; exact hlt) hA.1 (by have := hA.2; omega)
         rw [HC.out] at p1
         have hP := rst_put c0 c1 HX.out p1 (rst_last2 p3) (show ([] : List Int).length = 0 from rfl)
         rw [HRHO.out] at p4
         have HP := Lib.hid hP
         have P2 := Lib.hid p2; have P3 := Lib.hid p3; have P4 := Lib.hid p4
         clear hP p1 p2 p3 p4 c0 c1
         go_upto_region 15 with (go_at_call 32; refine HP.out.mono ?_; rintro e w7 ⟨a7, c7, sv', rv', rfl, hX7, hS7, hF7⟩; obtain ⟨z1, z2⟩ := HPZ.out w7 hF7; have HX7 := Lib.hid hX7; have HK7 := Lib.hid z1; have HB7 := Lib.hid z2; have HS7 := Lib.hid hS7; clear hX7 hS7 hF7 z1 z2)
         clear k0 k1 k2 k3
         obtain ⟨k0, k1, k2, k3⟩ := HK7.out.cells
         obtain ⟨hA1, hA2⟩ := hA
         have hpr := HPR.out
         have hb5 : True := trivial
         go_wp2_with (first
           | (go_at_call 27; refine (same_nil _ _ _ HS7.out).mono ?_; rintro e w8 ⟨rfl, hb8⟩; have HX8 := Lib.hid (HX7.out.later hb8); have HK8 := Lib.hid (HK7.out.later hb8); have HB8 := Lib.hid (HB7.out.trans (hb8.mono HB7.out.size)); clear hb8)
           | (go_at_call 34; refine (rwRows_x HX8.out).mono ?_; rw [P4.out]; rintro e w9 ⟨rfl, rfl⟩)
           | (go_at_call 35; refine (rwLeft_x HX8.out).mono ?_; rw [P2.out]; rintro e w9 ⟨rfl, rfl⟩)
           | (go_at_call 36; refine (rwError_x HX8.out).mono ?_; rw [P3.out]; rintro e w9 ⟨rfl, rfl⟩))
         clear hpr
         go_roundw
         case rel => exact ⟨i + 1, sv', rv', by omega, by go_num, by rw [P4.out], HX8.out, HK8.out, HB8.out⟩
         case measure => simp [intOf]; omega
       · by_cases hB' : sz ≤ i
         · obtain ⟨p1, p2, p3, p4⟩ := HSB.out i (fun hh => hA ⟨hh.1, by have := hh.2; omega⟩) hB' c
           have hP := rst_put c0 c1 HX.out p1 (rst_last1 p3 p2) (show ([] : List Int).length = 0 from rfl)
           rw [HRHO.out] at p4
           have HP := Lib.hid hP
           have P2 := Lib.hid p2; have P3 := Lib.hid p3; have P4 := Lib.hid p4
           clear hP p1 p2 p3 p4 c0 c1
           go_upto_region 15 with (go_at_call 32; refine HP.out.mono ?_; rintro e w7 ⟨a7, c7, sv', rv', rfl, hX7, hS7, hF7⟩; obtain ⟨z1, z2⟩ := HPZ.out w7 hF7; have HX7 := Lib.hid hX7; have HK7 := Lib.hid z1; have HB7 := Lib.hid z2; have HS7 := Lib.hid hS7; clear hX7 hS7 hF7 z1 z2)
           clear k0 k1 k2 k3
           obtain ⟨k0, k1, k2, k3⟩ := HK7.out.cells
           go_cut [63] from 56 to 63 (fun s63 wx => s63 = .bool false ∧ wx = w7)
           case first =>
             by_cases hb0 : 0 < bad
             · have hb1 : ¬ bad ≤ (i : Int) + 1 := fun hh => hA ⟨hb0, hh⟩
               go_wp2_with fail
               go_meet
               case rel => exact ⟨by rfl, rfl⟩
             · go_wp2_with fail
               go_meet
               case rel => exact ⟨by rfl, rfl⟩
           case rest =>
             obtain ⟨rfl, rfl⟩ := hcut
             have hpr := HPR.out
             have hb5 : True := trivial
             go_wp2_with (first
               | (go_at_call 27; refine (same_nil _ _ _ HS7.out).mono ?_; rintro e w8 ⟨rfl, hb8⟩; have HX8 := Lib.hid (HX7.out.later hb8); have HK8 := Lib.hid (HK7.out.later hb8); have HB8 := Lib.hid (HB7.out.trans (hb8.mono HB7.out.size)); clear hb8)
               | (go_at_call 34; refine (rwRows_x HX8.out).mono ?_; rw [P4.out]; rintro e w9 ⟨rfl, rfl⟩)
               | (go_at_call 35; refine (rwLeft_x HX8.out).mono ?_; rw [P2.out]; rintro e w9 ⟨rfl, rfl⟩)
               | (go_at_call 36; refine (rwError_x HX8.out).mono ?_; rw [P3.out]; rintro e w9 ⟨rfl, rfl⟩))
             clear hpr
             go_roundw
             case rel => exact ⟨i + 1, sv', rv', by omega, by go_num, by rw [P4.out], HX8.out, HK8.out, HB8.out⟩
             case measure => simp [intOf]; omega
         · by_cases hmod : (i + 1) % n = 0
           · obtain ⟨p, pp, p1, p2, p3, p4, p5⟩ := HSC.out i (by rw [HBL.out]; exact hlt) (fun hh => hA ⟨hh.1, by have := hh.2; omega⟩) (by omega) hmod
             rw [HC.out] at p1
             have hRR := fun W hb => HRW.out W hb p (by omega) bg bo rfl
             have hrl := HRL.out p
             obtain ⟨R, hR⟩ : ∃ R, Rw.rowV G ((bs.drop p).take n) = R := ⟨_, rfl⟩
             rw [hR] at hRR hrl p1
             obtain ⟨r, hr⟩ : ∃ r, R.length = r := ⟨_, rfl⟩
             rw [hr] at hRR hrl
             have HRLN := Lib.hid hr
             have hr9 : r ≤ 4096 := hrl
             have HRR := Lib.hid hRR
             have hmz := rst_yes hmod
             have hdm := Nat.div_add_mod (i + 1) n
             rw [hmod, Nat.add_zero] at hdm
             rw [HRHO.out] at p4
             have hrq : rho + 1 = (((i + 1) / n : Nat) : Int) := by rw [← p4, p5]
             have hpt : p + n = i + 1 := pp
             have HRR2 := HRR
             clear hRR hr hR
             have HPA := Lib.hid p1; have HL2 := Lib.hid p2; have P3 := Lib.hid p3; have P4 := Lib.hid p4
             clear p1 p2 p3 p4 p5 pp
             by_cases hov : i + 1 = sz
             · have P2 : Hid ((Rw.stt G bs sz (i + 1)).left = 0) := Lib.hid (by rw [HL2.out]; omega)
               have hP := rst_put c0 c1 HX.out HPA.out (rst_last1 P3.out P2.out) HRLN.out
               have hrH : rho + 1 = (H : Int) := by rw [hrq, hov, HSZM.out, Nat.mul_div_cancel _ hs1]
               have hgh : (rho + 1 == G.h) = true := by rw [HHH.out, hrH]; simp
               have HP := Lib.hid hP
               have hrr : rho + 1 ≤ 65536 := by have := HH4.out; omega
               clear hP c0 c1 hrq hdm hrH
               go_upto_region 15 with (go_at_call 32; refine HP.out.mono ?_; rintro e w7 ⟨a7, c7, sv', rv', rfl, hX7, hS7, hF7⟩; obtain ⟨z1, z2⟩ := HPZ.out w7 hF7; have HX7 := Lib.hid hX7; have HK7 := Lib.hid z1; have HB7 := Lib.hid z2; have HS7 := Lib.hid hS7; clear hX7 hS7 hF7 z1 z2)
               clear k0 k1 k2 k3
               obtain ⟨k0, k1, k2, k3⟩ := HK7.out.cells
               go_cut [63] from 56 to 63 (fun s63 wx => s63 = .bool false ∧ wx = w7)
               case first =>
                 by_cases hb0 : 0 < bad
                 · have hb1 : ¬ bad ≤ (i : Int) + 1 := fun hh => hA ⟨hb0, hh⟩
                   go_wp2_with fail
                   go_meet
                   case rel => exact ⟨by rfl, rfl⟩
                 · go_wp2_with fail
                   go_meet
                   case rel => exact ⟨by rfl, rfl⟩
               case rest =>
                 obtain ⟨rfl, rfl⟩ := hcut
                 have hpr := HPR.out
                 go_upto_region 20 with fail
                 clear hpr
                 obtain ⟨t, ht⟩ : ∃ t, i + 1 = t := ⟨_, rfl⟩
                 have hw1 : IntKind.i64.wrap ((i : Int) + 1) = (t : Int) := by rw [IntWalk.i64_in _ (by omega)]; omega
                 have hw2 : IntKind.i64.wrap ((t : Int) - (n : Int)) = (p : Int) := by rw [IntWalk.i64_in _ (by omega)]; omega
                 have hp0 : (0 : Int) ≤ (p : Int) := by omega
                 have hpt2 : (p : Int) ≤ (t : Int) := by omega
                 have htc : (t : Int) ≤ (cap0 : Int) := by omega
                 have hqn : t - p = n := by omega
                 have hcp : ¬ cap0 = p := by omega
                 have hB7 := HB7.out
                 go_cut [14] from 76 to 85 (fun s14 wx => ∃ a8 c8, s14 = .slice a8 r c8 ∧ SlK .u64 wx a8 r R ∧ Below wc.heap.size wc wx)
                 case first =>
                   go_region_held3 (fun w' => w'.cell? ⟨kb, 0, none⟩ = some (.int .i64 G.kd) ∧ w'.cell? ⟨kb, 1, none⟩ = some (.int .i64 G.w) ∧ w'.cell? ⟨kb, 2, none⟩ = some (.int .i64 G.h) ∧ w'.cell? ⟨kb, 3, none⟩ = some (.int .i64 G.m) ∧ Below wc.heap.size wc w')
                     (first | (with_reducible exact ⟨k0, k1, k2, k3, .refl _ _⟩) | exact ⟨k0, k1, k2, k3, ⟨rfl, rfl, rfl, Nat.le_refl _, fun _ _ => rfl⟩⟩ | (go_split_ands; refine ⟨?_, ?_, ?_, ?_, ?_⟩ <;> assumption) | (go_split_ands; refine ⟨cell_later hb9 ?_, cell_later hb9 ?_, cell_later hb9 ?_, cell_later hb9 ?_, bel_step ?_ hb9⟩ <;> assumption))
                     (first
                       | (go_at_call 33; go_split_ands; refine (HRR.out _ (HB7.out.trans (Below.mono (by assumption) HB7.out.size))).mono ?_; rintro e w9 ⟨a9, c9, rfl, hs9, hb9⟩))
                   all_goals
                     go_wp2_with fail
                     go_meet
                     case rel => go_split_ands; exact ⟨a9, c9, rfl, hs9, by assumption⟩
                 case rest =>
                   obtain ⟨a8, c8, rfl, hs8, hb8⟩ := hcut
                   have HS8 := Lib.hid hs8
                   have HX8 := Lib.hid (HX7.out.later hb8)
                   have HK8 := Lib.hid (HK7.out.later hb8)
                   have HB8 := Lib.hid (HB7.out.trans (hb8.mono HB7.out.size))
                   have HT8 := Lib.hid (HS7.out.below hb8)
                   clear hs8 hb8 hw1 hw2 hB7 k0 k1 k2 k3 HX7 HK7 HB7 HS7 hpt2 htc hqn hcp hp0
                   obtain ⟨k0, k1, k2, k3⟩ := HK8.out.cells
                   have hpr := HPR.out
                   go_wp2_with (first
                     | (go_at_call 27; refine (same_yes _ _ r _ _ R _ (by omega) HT8.out HS8.out).mono ?_; rintro e w10 ⟨rfl, hb10⟩; have HX9 := Lib.hid (HX8.out.later hb10); have HK9 := Lib.hid (HK8.out.later hb10); have HB9 := Lib.hid (HB8.out.trans (hb10.mono HB8.out.size)); clear hb10)
                     | (go_at_call 34; refine (rwRows_x HX9.out).mono ?_; rw [P4.out]; rintro e w11 ⟨rfl, rfl⟩)
                     | (go_at_call 35; refine (rwLeft_x HX9.out).mono ?_; rw [P2.out]; rintro e w11 ⟨rfl, rfl⟩)
                     | (go_at_call 36; refine (rwError_x HX9.out).mono ?_; rw [P3.out]; rintro e w11 ⟨rfl, rfl⟩))
                   clear hpr
                   go_roundw
                   case rel => exact ⟨i + 1, sv', rv', by omega, by go_num, by rw [P4.out], HX9.out, HK9.out, HB9.out⟩
                   case measure => simp [intOf]; omega
             · have P2 := HL2
               have hP := rst_put c0 c1 HX.out HPA.out (rst_last0 P3.out (by rw [HL2.out]; omega)) HRLN.out
               have hrH : ¬ rho + 1 = (H : Int) := by
                 intro e
                 rw [hrq] at e
                 have e2 : (i + 1) / n = H := by omega
                 rw [e2] at hdm
                 exact hov (by rw [← hdm, HSZM.out, Nat.mul_comm])
               have hgh : (rho + 1 == G.h) = false := by rw [HHH.out]; simpa using hrH
               have HP := Lib.hid hP
               have hrr : rho + 1 ≤ 65536 := by have := HH4.out; omega
               clear hP c0 c1 hrq hdm hrH
               go_upto_region 15 with (go_at_call 32; refine HP.out.mono ?_; rintro e w7 ⟨a7, c7, sv', rv', rfl, hX7, hS7, hF7⟩; obtain ⟨z1, z2⟩ := HPZ.out w7 hF7; have HX7 := Lib.hid hX7; have HK7 := Lib.hid z1; have HB7 := Lib.hid z2; have HS7 := Lib.hid hS7; clear hX7 hS7 hF7 z1 z2)
               clear k0 k1 k2 k3
               obtain ⟨k0, k1, k2, k3⟩ := HK7.out.cells
               go_cut [63] from 56 to 63 (fun s63 wx => s63 = .bool false ∧ wx = w7)
               case first =>
                 by_cases hb0 : 0 < bad
                 · have hb1 : ¬ bad ≤ (i : Int) + 1 := fun hh => hA ⟨hb0, hh⟩
                   go_wp2_with fail
                   go_meet
                   case rel => exact ⟨by rfl, rfl⟩
                 · go_wp2_with fail
                   go_meet
                   case rel => exact ⟨by rfl, rfl⟩
               case rest =>
                 obtain ⟨rfl, rfl⟩ := hcut
                 have hpr := HPR.out
                 go_upto_region 20 with fail
                 clear hpr
                 obtain ⟨t, ht⟩ : ∃ t, i + 1 = t := ⟨_, rfl⟩
                 have hw1 : IntKind.i64.wrap ((i : Int) + 1) = (t : Int) := by rw [IntWalk.i64_in _ (by omega)]; omega
                 have hw2 : IntKind.i64.wrap ((t : Int) - (n : Int)) = (p : Int) := by rw [IntWalk.i64_in _ (by omega)]; omega
                 have hp0 : (0 : Int) ≤ (p : Int) := by omega
                 have hpt2 : (p : Int) ≤ (t : Int) := by omega
                 have htc : (t : Int) ≤ (cap0 : Int) := by omega
                 have hqn : t - p = n := by omega
                 have hcp : ¬ cap0 = p := by omega
                 have hB7 := HB7.out
                 go_cut [14] from 76 to 85 (fun s14 wx => ∃ a8 c8, s14 = .slice a8 r c8 ∧ SlK .u64 wx a8 r R ∧ Below wc.heap.size wc wx)
                 case first =>
                   go_region_held3 (fun w' => w'.cell? ⟨kb, 0, none⟩ = some (.int .i64 G.kd) ∧ w'.cell? ⟨kb, 1, none⟩ = some (.int .i64 G.w) ∧ w'.cell? ⟨kb, 2, none⟩ = some (.int .i64 G.h) ∧ w'.cell? ⟨kb, 3, none⟩ = some (.int .i64 G.m) ∧ Below wc.heap.size wc w')
                     (first | (with_reducible exact ⟨k0, k1, k2, k3, .refl _ _⟩) | exact ⟨k0, k1, k2, k3, ⟨rfl, rfl, rfl, Nat.le_refl _, fun _ _ => rfl⟩⟩ | (go_split_ands; refine ⟨?_, ?_, ?_, ?_, ?_⟩ <;> assumption) | (go_split_ands; refine ⟨cell_later hb9 ?_, cell_later hb9 ?_, cell_later hb9 ?_, cell_later hb9 ?_, bel_step ?_ hb9⟩ <;> assumption))
                     (first
                       | (go_at_call 33; go_split_ands; refine (HRR.out _ (HB7.out.trans (Below.mono (by assumption) HB7.out.size))).mono ?_; rintro e w9 ⟨a9, c9, rfl, hs9, hb9⟩))
                   all_goals
                     go_wp2_with fail
                     go_meet
                     case rel => go_split_ands; exact ⟨a9, c9, rfl, hs9, by assumption⟩
                 case rest =>
                   obtain ⟨a8, c8, rfl, hs8, hb8⟩ := hcut
                   have HS8 := Lib.hid hs8
                   have HX8 := Lib.hid (HX7.out.later hb8)
                   have HK8 := Lib.hid (HK7.out.later hb8)
                   have HB8 := Lib.hid (HB7.out.trans (hb8.mono HB7.out.size))
                   have HT8 := Lib.hid (HS7.out.below hb8)
                   clear hs8 hb8 hw1 hw2 hB7 k0 k1 k2 k3 HX7 HK7 HB7 HS7 hpt2 htc hqn hcp hp0
                   obtain ⟨k0, k1, k2, k3⟩ := HK8.out.cells
                   have hpr := HPR.out
                   go_wp2_with (first
                     | (go_at_call 27; refine (same_yes _ _ r _ _ R _ (by omega) HT8.out HS8.out).mono ?_; rintro e w10 ⟨rfl, hb10⟩; have HX9 := Lib.hid (HX8.out.later hb10); have HK9 := Lib.hid (HK8.out.later hb10); have HB9 := Lib.hid (HB8.out.trans (hb10.mono HB8.out.size)); clear hb10)
                     | (go_at_call 34; refine (rwRows_x HX9.out).mono ?_; rw [P4.out]; rintro e w11 ⟨rfl, rfl⟩)
                     | (go_at_call 35; refine (rwLeft_x HX9.out).mono ?_; rw [P2.out]; rintro e w11 ⟨rfl, rfl⟩)
                     | (go_at_call 36; refine (rwError_x HX9.out).mono ?_; rw [P3.out]; rintro e w11 ⟨rfl, rfl⟩))
                   clear hpr
                   go_roundw
                   case rel => exact ⟨i + 1, sv', rv', by omega, by go_num, by rw [P4.out], HX9.out, HK9.out, HB9.out⟩
                   case measure => simp [intOf]; omega
           · obtain ⟨p1, p2, p3, p4⟩ := HSD.out i (by rw [HBL.out]; exact hlt) (fun hh => hA ⟨hh.1, by have := hh.2; omega⟩) (by omega) hmod
             rw [HC.out] at p1
             have hne : ¬ i + 1 = sz := fun e => hmod (by rw [e, HSZM.out, Nat.mul_mod_left])
             have hP := rst_put c0 c1 HX.out p1 (rst_last0 p3 (by rw [p2]; omega)) (show ([] : List Int).length = 0 from rfl)
             rw [HRHO.out] at p4
             have HP := Lib.hid hP
             have P2 := Lib.hid p2; have P3 := Lib.hid p3; have P4 := Lib.hid p4
             clear hP p1 p2 p3 p4 c0 c1
             go_upto_region 15 with (go_at_call 32; refine HP.out.mono ?_; rintro e w7 ⟨a7, c7, sv', rv', rfl, hX7, hS7, hF7⟩; obtain ⟨z1, z2⟩ := HPZ.out w7 hF7; have HX7 := Lib.hid hX7; have HK7 := Lib.hid z1; have HB7 := Lib.hid z2; have HS7 := Lib.hid hS7; clear hX7 hS7 hF7 z1 z2)
             clear k0 k1 k2 k3
             obtain ⟨k0, k1, k2, k3⟩ := HK7.out.cells
             go_cut [63] from 56 to 63 (fun s63 wx => s63 = .bool false ∧ wx = w7)
             case first =>
               by_cases hb0 : 0 < bad
               · have hb1 : ¬ bad ≤ (i : Int) + 1 := fun hh => hA ⟨hb0, hh⟩
                 go_wp2_with fail
                 go_meet
                 case rel => exact ⟨by rfl, rfl⟩
               · go_wp2_with fail
                 go_meet
                 case rel => exact ⟨by rfl, rfl⟩
             case rest =>
               obtain ⟨rfl, rfl⟩ := hcut
               have hpr := HPR.out
               have hmz := rst_no hmod
               have hb5 : True := trivial
               go_wp2_with (first
                 | (go_at_call 27; refine (same_nil _ _ _ HS7.out).mono ?_; rintro e w8 ⟨rfl, hb8⟩; have HX8 := Lib.hid (HX7.out.later hb8); have HK8 := Lib.hid (HK7.out.later hb8); have HB8 := Lib.hid (HB7.out.trans (hb8.mono HB7.out.size)); clear hb8)
                 | (go_at_call 34; refine (rwRows_x HX8.out).mono ?_; rw [P4.out]; rintro e w9 ⟨rfl, rfl⟩)
                 | (go_at_call 35; refine (rwLeft_x HX8.out).mono ?_; rw [P2.out]; rintro e w9 ⟨rfl, rfl⟩)
                 | (go_at_call 36; refine (rwError_x HX8.out).mono ?_; rw [P3.out]; rintro e w9 ⟨rfl, rfl⟩))
               clear hpr
               go_roundw
               case rel => exact ⟨i + 1, sv', rv', by omega, by go_num, by rw [P4.out], HX8.out, HK8.out, HB8.out⟩
               case measure => simp [intOf]; omega
     · obtain rfl : i = m := by omega
       clear hsl
       go_upto_region 32 with fail
       have hBr : Below wr.heap.size wr wr := .refl _ _
       go_cut [4] from 130 to 136 (fun s4 wx => s4 = .bool true ∧ Below wr.heap.size wr wx)
       case first =>
         go_wp2_with (first
           | (go_at_call 37; refine (HSTc.out _).mono ?_; rintro e w8 ⟨rfl, hb8⟩)
           | (go_at_call 28; refine (lives9_any _).mono ?_; rintro e w9 ⟨rfl, hb9⟩))
         go_meet
         case rel => exact ⟨by rfl, hb8.trans (hb9.mono hb8.size)⟩
       case rest =>
         obtain ⟨rfl, hBx⟩ := hcut
         go_wp2
         go_ret
         exact ⟨rfl, HB.out.trans (hBx.mono HB.out.size)⟩
end Go.Proofs.Ytflpocnbmpdhiaa
