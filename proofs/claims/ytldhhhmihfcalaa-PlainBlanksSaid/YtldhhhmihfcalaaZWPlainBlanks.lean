/- PlainBlanks: more blanks between samples change no pixel: the walk of the law. No condition. -/
import Derived.Test.YtldhhhmihfcalaaZgAF
import Derived.Test.YtldhhhmihfcalaaZPlO
import Derived.Deep.DeepCutAuto
namespace Go.Proofs.Ytldhhhmihfcalaa
open Go.RowKit
set_option linter.unusedVariables false
namespace Pl
theorem conv_two (W : World) (x y : Int) : (convert 48 9 (.slice (some ⟨W.heap.size, 0, none⟩) 2 2)).run Try.prog (W.alloc (.cells #[.int .u8 x, .int .u8 y] 5)) = .ok (.string (strOfNums [x, y])) (W.alloc (.cells #[.int .u8 x, .int .u8 y] 5)) :=
  run_convert_bytes_arg (P := Try.prog) _ 48 5 Try.underlying48 Try.underlying5 W.heap.size 0 2 2 [x, y] rfl (by
    intro i hi
    have : i = 0 ∨ i = 1 := by omega
    rcases this with rfl | rfl <;> simp [go_sem]) 9 Try.underlying9
theorem six {j : Nat} (h : j < 6) : j = 0 ∨ j = 1 ∨ j = 2 ∨ j = 3 ∨ j = 4 ∨ j = 5 := by omega
end Pl

set_option maxRecDepth 100000 in
set_option maxHeartbeats 8000000 in
theorem plainBlanks_walk (a0k0 a0w1 a0h2 a0m3 : Int) (a1 : Option Addr) (len1 cap1 : Nat) (z1 : List Int) (a2 : Int) (w : World) (w00 : (Lit.int .i64 a0k0).wf = true) (w01 : (Lit.int .i64 a0w1).wf = true) (w02 : (Lit.int .i64 a0h2).wf = true) (w03 : (Lit.int .i64 a0m3).wf = true) (w1 : IsRow .i64 w a1 len1 cap1 z1) (w2 : (Lit.int .i64 a2).wf = true) :
    Calls Try.prog 11 #[.agg #[.int .i64 a0k0, .int .i64 a0w1, .int .i64 a0h2, .int .i64 a0m3], .slice a1 len1 cap1, .int .i64 a2] w fun e w' => e = .returned (.bool true) ∧ Below w.heap.size w w' := by
  have HF : Hj.Fit ⟨a0k0, a0w1, a0h2, a0m3⟩ := ⟨wfI w00, wfI w01, wfI w02, wfI w03⟩
  have hG := refHead_any 4 (by decide) (by decide) _ HF
  have hM := Pl.headV_in 4 (by decide) (by decide) ⟨a0k0, a0w1, a0h2, a0m3⟩
  generalize Pl.headV 4 ⟨a0k0, a0w1, a0h2, a0m3⟩ = G at hG hM
  obtain ⟨hM, hw9, hh9⟩ := hM
  have hmm := hM.m
  obtain ⟨gw, hgw⟩ : ∃ gw : Nat, G.w = (gw : Int) := ⟨G.w.toNat, by omega⟩
  obtain ⟨gh, hgh⟩ : ∃ gh : Nat, G.h = (gh : Int) := ⟨G.h.toNat, by omega⟩
  obtain ⟨N, hN⟩ : ∃ N, gw * gh = N := ⟨_, rfl⟩
  have hN16 : N ≤ 16 := by rw [← hN]; exact Nat.mul_le_mul (show gw ≤ 4 by omega) (show gh ≤ 4 by omega)
  have HNG : Hid (G.w * G.h = (N : Int)) := Lib.hid (by rw [hgw, hgh, ← hN]; simp)
  have HNN := Lib.hid hN
  have HGW := Lib.hid hgw; have HGH := Lib.hid hgh
  have HM := Lib.hid hM
  have hPX := fun W (hb : Below w.heap.size w W) => refPixels_any w1 G hM N HNG.out (by omega) W hb
  have hRD := fun (s : ByteArray) (h : s.size ≤ 100000) W => plRead_any s h G (may_fit hM) W
  have i2 := wfI w2
  have hj0 := Ar.around_lt a2 6 (by omega)
  obtain ⟨j, hje⟩ : ∃ j : Nat, Ar.around a2 6 = (j : Int) := ⟨(Ar.around a2 6).toNat, by omega⟩
  have hj : j < 6 := by omega
  have HJ : Hid (∀ W, Calls Try.prog 28 #[.int .i64 a2, .int .i64 6] W fun e w' => e = .returned (.int .i64 (j : Int)) ∧ W = w') := fun W => by have := aroundOf a2 6 i2.1 i2.2 (by omega) (by omega) W; rw [hje] at this; exact this
  unfold agH at hRD
  have HRD := Lib.hid hRD
  clear hN hgw hgh hM hmm hw9 hh9 hj0 hje i2 hRD w2
  unfold agH at hG hPX
  have HG := Lib.hid hG
  have HPX := Lib.hid hPX
  clear hG hPX HF w00 w01 w02 w03
  go_enter Try.func11, Try.ntmps11
  go_upto_region 1 with fail
  have h1 := box1' w (.cells #[.int .i64 a0k0, .int .i64 a0w1, .int .i64 a0h2, .int .i64 a0m3] 42)
  have HB1 := Lib.hid h1
  clear h1
  go_wp2_with fail
  refine (HG.out _).mono ?_
  rintro e w2 ⟨rfl, hb⟩
  have HB2 := Lib.hid (HB1.out.trans (hb.mono HB1.out.size))
  clear hb HG HB1
  go_upto_region 2 with fail
  generalize hW : w2.alloc (.cells #[.int .i64 G.kd, .int .i64 G.w, .int .i64 G.h, .int .i64 G.m] 42) = w3
  have HK3 : Hid (Hb w3 w2.heap.size 42 G) := by show Hb _ _ _ _; rw [← hW]; exact Hb.new w2 42 G
  have HB3 : Hid (Below w.heap.size w w3) := by show Below _ _ _; rw [← hW]; exact HB2.out.alloc HB2.out.size _
  clear hW
  obtain ⟨kb, hkb⟩ : ∃ k, w2.heap.size = k := ⟨_, rfl⟩
  rw [hkb] at HK3 ⊢
  clear hkb HB2
  obtain ⟨k0, k1, k2, k3⟩ := HK3.out.cells
  go_wp2_with fail
  refine (HPX.out _ HB3.out).mono ?_
  rintro e w4 ⟨pa, pc, l, rfl, hln, hfit, hs, hb⟩
  have HK4 := Lib.hid (HK3.out.later hb)
  have HB4 := Lib.hid (HB3.out.trans (hb.mono HB3.out.size))
  have HP4 := Lib.hid hs
  have HLN := Lib.hid hln
  have HFT := Lib.hid hfit
  clear k0 k1 k2 k3 hs hb hln hfit HPX HK3 HB3
  obtain ⟨k0, k1, k2, k3⟩ := HK4.out.cells
  have HWA := Lib.hid (Pl.wAll_bytes HFT.out l.length (Nat.le_refl _))
  have HXL := Pl.wAll_len (G := G) (l := l) (Pl.goodU HFT.out) l.length (Nat.le_refl _)
  have hRW := fun W (h : SlK .u64 W pa N l) => refWriteP_any pa N pc l G (may_fit HM.out) HM.out (by omega) HNG.out (Pl.goodU HFT.out) W h
  have hwv : Pl.wV G l = .tuple #[.string (strOfNums (Pl.wAll G l l.length)), .int .i64 0] := if_pos (Pl.fits_all HM.out HFT.out)
  have HSQ := Lib.hid (Pl.sq_all HM.out HFT.out l.length (Nat.le_refl _))
  rw [List.take_length] at HSQ
  rw [HLN.out] at HXL hwv HSQ HWA
  rw [hwv] at hRW
  obtain ⟨xs, hxs⟩ : ∃ xs, Pl.wAll G l N = xs := ⟨_, rfl⟩
  rw [hxs] at HXL hRW HSQ HWA
  obtain ⟨n, hn⟩ : ∃ n, xs.length = n := ⟨_, rfl⟩
  rw [hn] at HXL
  have HXN := Lib.hid hn
  obtain ⟨S, hS⟩ : ∃ S, strOfNums xs = S := ⟨_, rfl⟩
  rw [hS] at hRW
  have hSn : S.size = n := by rw [← hS, strOfNums_size, hn]
  have HSE := Lib.hid hS
  have HSN := Lib.hid hSn
  unfold agH at hRW
  have HRW := Lib.hid hRW
  clear hwv hxs hn hS hSn hRW
  go_wp2_with fail
  refine (HRW.out _ HP4.out).mono ?_
  rintro e w5 ⟨rfl, hb⟩
  have HK5 := Lib.hid (HK4.out.later hb)
  have HB5 := Lib.hid (HB4.out.trans (hb.mono HB4.out.size))
  have HP5 := Lib.hid (HP4.out.below hb)
  clear k0 k1 k2 k3 hb HK4 HB4 HP4 HRW
  have hBt := Below.refl w5.heap.size w5
  go_upto_region 4 with fail
  go_cut [11] (fun s11 wx => ∃ c, s11 = .int .u8 c ∧ Tk.blank c = true ∧ 0 ≤ c ∧ c ≤ 255 ∧ Below w5.heap.size w5 wx)
  case first =>
    rcases Pl.six hj with rfl | rfl | rfl | rfl | rfl | rfl
    all_goals
      go_wp2_with (go_at_call 28; refine (HJ.out _).mono ?_; rintro e w9 ⟨rfl, rfl⟩)
      go_meet
      case rel => exact ⟨_, rfl, by decide, by omega, by omega, by go_grown⟩
  case rest =>
    obtain ⟨c, rfl, hcb, c0, c1, hBx⟩ := hcut
    have hcv := Nu.conv_one wc c
    have HC := Lib.hid (show Tk.blank c = true ∧ 0 ≤ c ∧ c ≤ 255 from ⟨hcb, c0, c1⟩)
    have HKC := Lib.hid (HK5.out.later hBx)
    have HPC := Lib.hid (HP5.out.below hBx)
    have HBC := Lib.hid (HB5.out.trans (hBx.mono HB5.out.size))
    clear hcb hBx hBt HK5 HP5 HB5 HJ hj
    go_wp2_with fail
    go_loopw [12, 13] (fun u12 u13 wr => ∃ i : Nat, i ≤ n ∧ u13 = .int .i64 i ∧ u12 = .string (strOfNums ([c] ++ Pl.spread G.kd c (xs.take i))) ∧ Below wc.heap.size wc wr) (fun _ u13 _ => n - (intOf u13).toNat)
    case atStart => exact ⟨0, Nat.zero_le _, rfl, rfl, box1' _ _⟩
    case round =>
      obtain ⟨i, hi, rfl, rfl, hB⟩ := hrel
      clear hcv
      have HB := Lib.hid hB
      obtain ⟨k0, k1, k2, k3⟩ := (HKC.out.later hB).cells
      have hTn := Pl.spread_len G.kd c (xs.take i)
      have hTk : (xs.take i).length ≤ n := by rw [List.length_take]; omega
      obtain ⟨T, hT⟩ : ∃ T, strOfNums ([c] ++ Pl.spread G.kd c (xs.take i)) = T := ⟨_, rfl⟩
      have hTs : T.size ≤ 3 * n + 1 := by rw [← hT, strOfNums_size, List.length_append, List.length_singleton]; omega
      have HTE := Lib.hid hT
      rw [hT]
      clear hB hTn hTk hT
      have iI : (0 : Int) ≤ (i : Int) := by omega
      by_cases hlt : i < n
      · have hix : i < xs.length := by rw [HXN.out]; exact hlt
        have hiS : i < S.size := by rw [HSN.out]; exact hlt
        obtain ⟨x, hx⟩ : ∃ x, xs.getD i 0 = x := ⟨_, rfl⟩
        have HSP := Lib.hid (Pl.spread_succ G.kd c hix)
        have hx255 := HWA.out _ (getD_mem hix)
        have hXE : S.extract i (i + 1) = strOfNums [x] := by have := Pl.bytes_part HWA.out hix; rw [HSE.out, hx] at this; exact this
        have hGX : (S[i].toNat : Int) = x := by have := Pl.byte_get HWA.out (i := i) (by rw [HSE.out]; exact hiS) hix; rw [hx] at this; rw [← this]; congr 2; simp only [HSE.out]
        rw [hx] at HSP hx255
        obtain ⟨X, hX⟩ : ∃ X, S.extract i (i + 1) = X := ⟨_, rfl⟩
        have hX1 : X.size = 1 := by rw [← hX, hXE, strOfNums_size]; rfl
        rw [hX] at hXE
        obtain ⟨bl, hbl⟩ : ∃ bl, Tk.blank x = bl := ⟨_, rfl⟩
        have HBL : Hid (∀ W, Calls Try.prog 56 #[.int .u8 (S[i].toNat : Int)] W fun e w' => e = .returned (.bool bl) ∧ W = w') := fun W => by have := refBlank_any x hx255.1 hx255.2 W; rw [hbl] at this; rw [hGX]; exact this
        have HBLE := Lib.hid hbl
        have HXE := Lib.hid hXE
        have iJ : (i : Int) < (S.size : Int) := by omega
        have iK : (i : Int) + 1 ≤ (S.size : Int) := by omega
        have iL : (i : Int) < (n : Int) := by omega
        have L0 : T.size + X.size ≤ 9223372036854775807 := by omega
        have L1 : ¬ 9223372036854775807 < T.size + X.size := by omega
        have L2 : ¬ 9223372036854775807 < T.size + X.size + 2 := by omega
        have hcv := Pl.conv_two wr c c
        obtain ⟨CC, hCC⟩ : ∃ CC, strOfNums [c, c] = CC := ⟨_, rfl⟩
        have hCC2 : CC.size = 2 := by rw [← hCC, strOfNums_size]; rfl
        have L3 : ¬ 9223372036854775807 < T.size + X.size + CC.size := by omega
        rw [hCC] at hcv
        have HCC := Lib.hid hCC
        have HYES : Hid ((bl = true ∨ G.kd = 1) → T ++ X ++ CC = strOfNums ([c] ++ Pl.spread G.kd c (xs.take (i + 1)))) := Lib.hid fun h => by
          rw [HSP.out, Pl.spr, if_pos (by rw [HBLE.out]; exact h), ← HTE.out, HXE.out, ← HCC.out, ← strOfNums_append, ← strOfNums_append]
          simp
        have HNO : Hid (¬ (bl = true ∨ G.kd = 1) → T ++ X = strOfNums ([c] ++ Pl.spread G.kd c (xs.take (i + 1)))) := Lib.hid fun h => by
          rw [HSP.out, Pl.spr, if_neg (by rw [HBLE.out]; exact h), ← HTE.out, HXE.out, ← strOfNums_append]
          simp
        clear hx hx255 hXE hGX hX1 hbl hCC hCC2 hix
        cases bl with
        | true =>
          go_wp2_with (go_at_call 56; refine (HBL.out _).mono ?_; rintro e w9 ⟨rfl, rfl⟩)
          go_roundw
          case rel => exact ⟨i + 1, by omega, by go_num, by rw [← HYES.out (by simp)], HB.out.alloc HB.out.size _⟩
          case measure => simp [intOf]; omega
        | false =>
          by_cases hk : G.kd = 1
          · have hk1 : (G.kd == 1) = true := by simp [hk]
            have HKK := Lib.hid hk
            clear hk
            go_wp2_with (go_at_call 56; refine (HBL.out _).mono ?_; rintro e w9 ⟨rfl, rfl⟩)
            go_roundw
            case rel => exact ⟨i + 1, by omega, by go_num, by rw [← HYES.out (by simp [HKK.out])], HB.out.alloc HB.out.size _⟩
            case measure => simp [intOf]; omega
          · have hk1 : (G.kd == 1) = false := by simpa using hk
            go_wp2_with (go_at_call 56; refine (HBL.out _).mono ?_; rintro e w9 ⟨rfl, rfl⟩)
            go_roundw
            case rel => exact ⟨i + 1, by omega, by go_num, by rw [← HNO.out (by simp [hk])], HB.out⟩
            case measure => simp [intOf]; omega
      · have hin : i = n := by omega
        subst hin
        have hiL : ¬ (i : Int) < (S.size : Int) := by have := HSN.out; omega
        have hTx : strOfNums ([c] ++ Pl.spread G.kd c xs) = T := by have := HTE.out; rw [List.take_of_length_le (by rw [HXN.out]; exact Nat.le_refl _)] at this; exact this
        have hbb : ∀ y ∈ [c] ++ Pl.spread G.kd c xs, 0 ≤ y ∧ y ≤ 255 := fun y hy => by
          rcases List.mem_append.1 hy with hy | hy
          · rw [List.mem_singleton.1 hy]; exact ⟨HC.out.2.1, HC.out.2.2⟩
          · unfold Pl.spread at hy
            rw [List.mem_flatMap] at hy
            obtain ⟨z, hz, hy⟩ := hy
            have hz2 := HWA.out z hz
            have hc2 := HC.out
            unfold Pl.spr at hy
            split at hy
            · simp at hy; rcases hy with rfl | rfl <;> omega
            · rw [List.mem_singleton.1 hy]; exact hz2
        obtain ⟨m, hm1, -, -⟩ := Pl.read_all HM.out HFT.out HGW.out HGH.out (by rw [HLN.out, HNN.out]) (es := [c]) (by intro e he; rw [List.mem_singleton.1 he]; exact HC.out.1) (Pl.sq_spread HC.out.1 _ _ HSQ.out)
        have hR : ∀ W, Calls Try.prog 38 #[.string T, .agg #[.int .i64 G.kd, .int .i64 G.w, .int .i64 G.h, .int .i64 G.m]] W fun e w' => ∃ a c, e = .returned (.tuple #[.slice a N c, .int .i64 m, .int .i64 0]) ∧ SlK .u64 w' a N l ∧ Below W.heap.size W w' := fun W => by
          refine (HRD.out T (by omega) W).mono ?_
          rw [← hTx, bytesOf_strOfNums hbb, hm1]
          rintro e w' ⟨a, c, h1, h2, h3⟩
          simp only [HLN.out] at h1 h2
          exact ⟨a, c, h1, h2, h3⟩
        have HR := Lib.hid hR
        clear hTx hbb hm1 hR
        go_wp2_with fail
        refine (HR.out _).mono ?_
        rintro e w6 ⟨ra, rc, rfl, hs, hb⟩
        have HB6 := Lib.hid (HB.out.trans (hb.mono HB.out.size))
        have HS6 := Lib.hid hs
        have HP6 := Lib.hid (HPC.out.below HB6.out)
        clear hs hb k0 k1 k2 k3
        go_wp2_with fail
        refine (same_yes ra pa N rc pc l _ (by omega) HS6.out HP6.out).mono ?_
        rintro e w7 ⟨rfl, hb⟩
        have HB7 := Lib.hid (HB6.out.trans (hb.mono HB6.out.size))
        clear hb
        go_wp2_with fail
        refine (lives8_any _).mono ?_
        rintro e w8 ⟨rfl, hb⟩
        have HB8 := Lib.hid (HB7.out.trans (hb.mono HB7.out.size))
        clear hb
        go_wp2
        go_ret
        exact ⟨rfl, HBC.out.trans (HB8.out.mono HBC.out.size)⟩
end Go.Proofs.Ytldhhhmihfcalaa
