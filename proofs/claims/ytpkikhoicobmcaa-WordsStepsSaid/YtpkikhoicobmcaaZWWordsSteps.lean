/- WordsSteps: a scanner tells, pixel by pixel, what is told of the whole row. The walk of the law. No condition. -/
import Derived.Test.YtpkikhoicobmcaaZWdP
namespace Go.Proofs.Ytpkikhoicobmcaa
open Go.RowKit
set_option linter.unusedVariables false
open Tr Au Wd
set_option maxRecDepth 100000 in
set_option maxHeartbeats 8000000 in
theorem wordsSteps_walk (a0 : Option Addr) (len0 cap0 : Nat) (a1 : Bool) (a2 : Option Addr) (len2 cap2 : Nat) (z2 : List Int) (a3 : Option Addr) (len3 cap3 : Nat) (z3 : List Int) (w : World) (w0 : IsRows w a0 len0 cap0) (w2 : IsRow .u64 w a2 len2 cap2 z2) (w3 : IsRow .u64 w a3 len3 cap3 z3) :
    Calls Try.prog 6 #[.slice a0 len0 cap0, .bool a1, .slice a2 len2 cap2, .slice a3 len3 cap3] w fun e w' => e = .returned (.bool true) ∧ Below w.heap.size w w' := by
  obtain ⟨A, N, C, Z, hat⟩ := isrows_at w0
  obtain ⟨S, _, hok, hl8, hd5, hB⟩ := begin14_use (cap := cap0) hat (isrows_len w0) a1
  have HBG := Lib.hid hB
  unfold BegU at HBG
  have HOK := Lib.hid hok
  have HD := Lib.hid hd5
  have HPOS := Lib.hid (ok_pos hok)
  obtain ⟨sn, hsn⟩ : ∃ sn, S.length = sn := ⟨_, rfl⟩
  have HSN := Lib.hid hsn
  rw [hsn] at HBG hl8
  have HLV := Lib.hid (fun W => lives14_any W)
  obtain ⟨X, n, hXn, hn12, hrow⟩ := row14 w2 12 (by omega)
  have HROW := Lib.hid hrow
  have HXN := Lib.hid hXn
  have HM := Lib.hid (fun m W (hm : m ≤ len3) (hb : Below w.heap.size w W) => isrow_sl w3 hm hb)
  have h3l := isrow_len w3
  obtain ⟨m5, hm5⟩ : ∃ m5, min len3 5 = m5 := ⟨_, rfl⟩
  obtain ⟨g1, g2, g3, g4⟩ := h3l
  have hm5a : m5 ≤ cap3 := by omega
  have hm5b : (m5 : Int) ≤ (cap3 : Int) := by omega
  have hm5z : (0 : Int) ≤ (m5 : Int) := Int.natCast_nonneg _
  have hm5c : m5 ≤ len3 := by omega
  have hm55 : m5 ≤ 5 := by omega
  have hmi : min (len3 : Int) 5 = (m5 : Int) := by omega
  have hmif : (if (5 : Int) < (len3 : Int) then (5 : Int) else (len3 : Int)) = (m5 : Int) := by split <;> omega
  clear w0 hat hok hd5 hB hsn hrow hXn w2 w3 hm5 g2
  go_enter Try.func6, Try.ntmps6
  go_upto_region 4 with (go_at_call 9; refine HBG.out.mono ?_; rintro e w1 ⟨B, sb, tb, nb, nc, mb, rv, ra, rc, vs, rfl, hX, hrv, hlo, hb⟩; have HX := Lib.hid hX; have HRV := Lib.hid hrv; have HLO := Lib.hid hlo; have HB := Lib.hid hb; clear hX hrv hlo hb)
  obtain ⟨F, hF⟩ : ∃ F : Nat → Prop, Fw sb tb nb mb (pathsOf S).length rv = F := ⟨_, rfl⟩
  have HF := Lib.hid hF
  rw [hF] at HRV
  have HFLT : Hid (∀ g, F g → B ≤ g ∧ g < w1.heap.size) := Lib.hid (fun g hg => by rw [← hF] at hg; exact HX.out.x.lt hg)
  have HFS : Hid (F sb) := Lib.hid (by rw [← hF]; exact .inr (.inl rfl))
  clear hF
  go_upto_region 5 with (go_at_call 17; refine (HROW.out _ HB.out).mono ?_; rintro e w2 ⟨xa, xc, rfl, hxs, hxc, hxc9, hb⟩; have HXS := Lib.hid (hxs F (fun g hg => (HFLT.out g hg).2)); have HB2 := Lib.hid hb; clear hxs hb)
  have HBE := Lib.hid (wBegin_any (HX.out.later HB2.out) HOK.out (by rw [HSN.out]; omega) HD.out)
  unfold BegS at HBE
  go_upto_region 8 with (go_at_call 22; refine HBE.out.mono ?_; rintro e w4 ⟨Ba, ab, xb, rva, cb, rfl, hsc, hcbw, hncb, hau, hap, hws, hsp⟩; have HSC := Lib.hid hsc; have HCBW := Lib.hid hcbw; have HNCB := Lib.hid hncb; have HAU := Lib.hid hau; have HAP := Lib.hid hap; have HWS := Lib.hid hws; have HSP : Hid (Sep F w2 w4) := Lib.hid (hsp.mono fun g e => by rw [e]; exact HFS.out); clear hsc hcbw hncb hau hap hws hsp)
  have HNF : Hid (¬ F cb) := Lib.hid (fun e => by have h1 := (HFLT.out cb e).2; have h2 := HB2.out.size; have h3 := HCBW.out; omega)
  have HADD := Lib.hid (wAdd_any (a := a3) (m := m5) (c := cap3) (l := z3.take m5) HWS.out HOK.out (by rw [HSN.out]; omega) HD.out (fun w' hs => HM.out m5 w' hm5c (by
    have h1 : Sep F w1 w4 := (sep_of HB2.out).trans HSP.out
    have h2 : Sep F w1 w' := h1.trans (by rw [HF.out] at hs; exact hs)
    exact HB.out.trans (h2.below HB.out.size fun k hk e => by have h3 := (HFLT.out k e).1; have h4 := HLO.out; omega))) (by omega) hm5a g4)
  unfold AddR at HADD
  obtain ⟨y1, hy1⟩ : ∃ y : Int, (if z3.take m5 = [] then -1 else findV (addS S (z3.take m5)) (z3.take m5)) = y := ⟨_, rfl⟩
  obtain ⟨y2, hy2⟩ : ∃ y : Int, (if z3.take m5 = [] then 1 else 0) = y := ⟨_, rfl⟩
  rw [hy1, hy2] at HADD
  clear hy1 hy2
  by_cases h5 : len3 ≤ 5
  · obtain rfl : m5 = len3 := by omega
    have d1 : decide ((5 : Int) < (m5 : Int)) = false := decide_eq_false (by omega)
    have d2 : decide ((m5 : Int) ≤ (5 : Int)) = true := decide_eq_true (by omega)
    have d3 : (m5 : Int) ≤ 5 := by omega
    have d4 : ¬ (5 : Int) < (m5 : Int) := by omega
    have d5 : ¬ 5 < m5 := by omega
    clear hmif
    go_upto_region 9 with (go_at_call 23; refine HADD.out.mono ?_; rintro e w5 ⟨rfl, nb2, nc2, rv2, av2, _, _, hTu⟩; have HS5 : Hid (Sep F w4 w5) := Lib.hid (by have h := hTu.sep; rw [HF.out] at h; exact h); clear hTu)
    have HSC5 := Lib.hid (HSC.out.of_block (HS5.out.block cb HSC.out.lt HNF.out))
    have HAU5 := Lib.hid (HAU.out.sep HS5.out fun g hg e => HAP.out g hg (by rw [HF.out]; exact e))
    have HSE5 := Lib.hid (HSP.out.trans HS5.out)
    go_wp2_with fail
    go_loopw [13] (fun s13 wr => ∃ k : Nat, k ≤ 2 ∧ s13 = .int .i64 (k : Int) ∧ ScX wr cb ab 0 ∧ AuS wr Ba ab xb rva S ∧ Sep F w2 wr) (fun s13 _ => 2 - (intOf s13).toNat)
    case atStart => exact ⟨0, by omega, rfl, HSC5.out, HAU5.out, HSE5.out⟩
    case round =>
      obtain ⟨k, hk, rfl, hsc, hau, hse⟩ := hrel
      have HSCk := Lib.hid hsc
      have HAUk := Lib.hid hau
      have HSEk := Lib.hid hse
      clear hsc hau hse
      by_cases hkt : k < 2
      · have hkI : (k : Int) < 2 := by omega
        have hk0 : (0 : Int) ≤ (k : Int) := Int.natCast_nonneg _
        have hd0 : deep (pathsOf S) (X.take 0) = 0 := by rw [List.take_zero]; exact deep_nil (paths_iw HOK.out).inv
        have HD0 := Lib.hid hd0
        clear hd0
        obtain ⟨W6, hW6⟩ : ∃ W6, W6 = wr := ⟨_, rfl⟩
        have HW6 := Lib.hid hW6
        clear hW6
        go_wp2_with fail
        go_loopw [14] (fun s14 wz => ∃ x : Nat, x ≤ n ∧ s14 = .int .i64 (x : Int) ∧ ScX wz cb ab (deep (pathsOf S) (X.take x) : Nat) ∧ AuS wz Ba ab xb rva S ∧ Sep F w2 wz) (fun s14 _ => n - (intOf s14).toNat)
        case atStart => exact ⟨0, Nat.zero_le _, rfl, by rw [HD0.out]; exact HSCk.out, HAUk.out, HSEk.out⟩
        case round =>
          obtain ⟨x, hx, rfl, hscx, haux, hsex⟩ := hrel
          by_cases hxt : x < n
          · have hxI : (x : Int) < (n : Int) := by omega
            have hx0 : (0 : Int) ≤ (x : Int) := Int.natCast_nonneg _
            obtain ⟨b, o, rfl, hc⟩ := slk_at (HXS.out _ hsex) (by omega)
            have hck := hc x hxt
            have htk := take_snocI (l := X) (i := x) (by rw [HXN.out]; exact hxt)
            have hput := wPut_any haux HOK.out (by rw [HSN.out]; omega) hscx HNCB.out (X.getD x 0)
            rw [htk] at hput
            have HPUT := Lib.hid hput
            have HSEx := Lib.hid hsex
            have HAUx := Lib.hid haux
            obtain ⟨p, hp⟩ : ∃ p, X.getD x 0 = p := ⟨_, rfl⟩
            rw [hp] at HPUT hck
            have HEN := Lib.hid (fun W (hs : Sep F w2 W) => refEnds14 (c := xc) (rc := rc) (x := x) (HRV.out W ((sep_of HB2.out).trans hs)) (by omega) HPOS.out (HXS.out W hs) hxc hxc9 hxt)
            unfold EndsQ at HEN
            have hfl := fin_len8 (q := X.take (x + 1)) (by rw [HSN.out]; exact hl8)
            obtain ⟨E, hE⟩ : ∃ E, fin S (X.take (x + 1)) = E := ⟨_, rfl⟩
            rw [hE] at HPUT HEN hfl
            obtain ⟨en, hen⟩ : ∃ en, E.length = en := ⟨_, rfl⟩
            have HEN2 := Lib.hid hen
            rw [hen] at HPUT HEN hfl
            clear hc htk hput hsex haux hscx hp hE hen
            go_wp2_with fail
            refine HPUT.out.mono ?_
            rintro e w9 ⟨pa, pc, rfl, hpo, hsc9, hs9⟩
            have HPO := Lib.hid hpo
            have HSC9 := Lib.hid hsc9
            have HS9 := Lib.hid (sep_new HSEx.out hs9 (fun g e => .inr (by rw [e]; exact HCBW.out)))
            have HAU9 := Lib.hid (HAUx.out.sep hs9 fun g hg e => HNCB.out (e ▸ hg))
            clear hpo hsc9 hs9
            go_wp2_with fail
            refine (HEN.out _ HS9.out).mono ?_
            rintro e w10 ⟨ea, ec, rfl, heo, hb10⟩
            have HEO := Lib.hid heo
            have HB10 := Lib.hid hb10
            clear heo hb10
            go_wp2_with fail
            refine (Sm.same_self pa ea en en pc ec E w10 (by omega) (by have h := (HPO.out.later HB10.out).sl; rw [HEN2.out] at h; exact h) (by have h := HEO.out.sl; rw [HEN2.out] at h; exact h)).mono ?_
            rintro e w11 ⟨rfl, hb11⟩
            have HB11 := Lib.hid (bel_step HB10.out hb11)
            clear hb11
            go_wp2_with fail
            go_roundw
            case rel => exact ⟨x + 1, by omega, by go_num, HSC9.out.later HB11.out, HAU9.out.later HB11.out, HS9.out.trans (sep_of HB11.out)⟩
            case measure => simp [intOf]; omega
          · obtain rfl : x = n := by omega
            have hxI : ¬ (x : Int) < (x : Int) := by omega
            have HRE := Lib.hid (wReset_any hscx)
            have HSEx := Lib.hid hsex
            have HAUx := Lib.hid haux
            clear hscx hsex haux
            go_wp2_with fail
            refine HRE.out.mono ?_
            rintro e w9 ⟨rfl, hsc9, hs9⟩
            have HSC9 := Lib.hid hsc9
            have HS9 := Lib.hid (sep_new HSEx.out hs9 (fun g e => .inr (by rw [e]; exact HCBW.out)))
            have HAU9 := Lib.hid (HAUx.out.sep hs9 fun g hg e => HNCB.out (e ▸ hg))
            clear hsc9 hs9
            go_wp2_with fail
            go_roundw
            case rel => exact ⟨k + 1, by omega, by go_num, HSC9.out, HAU9.out, HS9.out⟩
            case measure => simp [intOf]; omega
      · obtain rfl : k = 2 := by omega
        have hkI : ¬ ((2 : Nat) : Int) < 2 := by omega
        go_wp2_with fail
        refine (HLV.out _).mono ?_
        rintro e w9 ⟨rfl, hb9⟩
        have HB9 := Lib.hid hb9
        clear hb9
        go_wp2_with fail
        go_ret
        refine ⟨rfl, ?_⟩
        have h1 : Sep F w1 wr := (sep_of HB2.out).trans HSEk.out
        exact bel_step (HB.out.trans (h1.below HB.out.size fun k hk e => by have h3 := (HFLT.out k e).1; have h4 := HLO.out; omega)) HB9.out
  · obtain rfl : m5 = 5 := by omega
    have d1 : decide ((5 : Int) < (len3 : Int)) = true := decide_eq_true (by omega)
    have d2 : decide ((len3 : Int) ≤ (5 : Int)) = false := decide_eq_false (by omega)
    have d3 : ¬ (len3 : Int) ≤ 5 := by omega
    have d4 : (5 : Int) < (len3 : Int) := by omega
    have d5 : 5 < len3 := by omega
    have d7 : (5 : Int) ≤ (cap3 : Int) := by omega
    go_upto_region 9 with (go_at_call 23; refine HADD.out.mono ?_; rintro e w5 ⟨rfl, nb2, nc2, rv2, av2, _, _, hTu⟩; have HS5 : Hid (Sep F w4 w5) := Lib.hid (by have h := hTu.sep; rw [HF.out] at h; exact h); clear hTu)
    have HSC5 := Lib.hid (HSC.out.of_block (HS5.out.block cb HSC.out.lt HNF.out))
    have HAU5 := Lib.hid (HAU.out.sep HS5.out fun g hg e => HAP.out g hg (by rw [HF.out]; exact e))
    have HSE5 := Lib.hid (HSP.out.trans HS5.out)
    go_wp2_with fail
    go_loopw [13] (fun s13 wr => ∃ k : Nat, k ≤ 2 ∧ s13 = .int .i64 (k : Int) ∧ ScX wr cb ab 0 ∧ AuS wr Ba ab xb rva S ∧ Sep F w2 wr) (fun s13 _ => 2 - (intOf s13).toNat)
    case atStart => exact ⟨0, by omega, rfl, HSC5.out, HAU5.out, HSE5.out⟩
    case round =>
      obtain ⟨k, hk, rfl, hsc, hau, hse⟩ := hrel
      have HSCk := Lib.hid hsc
      have HAUk := Lib.hid hau
      have HSEk := Lib.hid hse
      clear hsc hau hse
      by_cases hkt : k < 2
      · have hkI : (k : Int) < 2 := by omega
        have hk0 : (0 : Int) ≤ (k : Int) := Int.natCast_nonneg _
        have hd0 : deep (pathsOf S) (X.take 0) = 0 := by rw [List.take_zero]; exact deep_nil (paths_iw HOK.out).inv
        have HD0 := Lib.hid hd0
        clear hd0
        obtain ⟨W6, hW6⟩ : ∃ W6, W6 = wr := ⟨_, rfl⟩
        have HW6 := Lib.hid hW6
        clear hW6
        go_wp2_with fail
        go_loopw [14] (fun s14 wz => ∃ x : Nat, x ≤ n ∧ s14 = .int .i64 (x : Int) ∧ ScX wz cb ab (deep (pathsOf S) (X.take x) : Nat) ∧ AuS wz Ba ab xb rva S ∧ Sep F w2 wz) (fun s14 _ => n - (intOf s14).toNat)
        case atStart => exact ⟨0, Nat.zero_le _, rfl, by rw [HD0.out]; exact HSCk.out, HAUk.out, HSEk.out⟩
        case round =>
          obtain ⟨x, hx, rfl, hscx, haux, hsex⟩ := hrel
          by_cases hxt : x < n
          · have hxI : (x : Int) < (n : Int) := by omega
            have hx0 : (0 : Int) ≤ (x : Int) := Int.natCast_nonneg _
            obtain ⟨b, o, rfl, hc⟩ := slk_at (HXS.out _ hsex) (by omega)
            have hck := hc x hxt
            have htk := take_snocI (l := X) (i := x) (by rw [HXN.out]; exact hxt)
            have hput := wPut_any haux HOK.out (by rw [HSN.out]; omega) hscx HNCB.out (X.getD x 0)
            rw [htk] at hput
            have HPUT := Lib.hid hput
            have HSEx := Lib.hid hsex
            have HAUx := Lib.hid haux
            obtain ⟨p, hp⟩ : ∃ p, X.getD x 0 = p := ⟨_, rfl⟩
            rw [hp] at HPUT hck
            have HEN := Lib.hid (fun W (hs : Sep F w2 W) => refEnds14 (c := xc) (rc := rc) (x := x) (HRV.out W ((sep_of HB2.out).trans hs)) (by omega) HPOS.out (HXS.out W hs) hxc hxc9 hxt)
            unfold EndsQ at HEN
            have hfl := fin_len8 (q := X.take (x + 1)) (by rw [HSN.out]; exact hl8)
            obtain ⟨E, hE⟩ : ∃ E, fin S (X.take (x + 1)) = E := ⟨_, rfl⟩
            rw [hE] at HPUT HEN hfl
            obtain ⟨en, hen⟩ : ∃ en, E.length = en := ⟨_, rfl⟩
            have HEN2 := Lib.hid hen
            rw [hen] at HPUT HEN hfl
            clear hc htk hput hsex haux hscx hp hE hen
            go_wp2_with fail
            refine HPUT.out.mono ?_
            rintro e w9 ⟨pa, pc, rfl, hpo, hsc9, hs9⟩
            have HPO := Lib.hid hpo
            have HSC9 := Lib.hid hsc9
            have HS9 := Lib.hid (sep_new HSEx.out hs9 (fun g e => .inr (by rw [e]; exact HCBW.out)))
            have HAU9 := Lib.hid (HAUx.out.sep hs9 fun g hg e => HNCB.out (e ▸ hg))
            clear hpo hsc9 hs9
            go_wp2_with fail
            refine (HEN.out _ HS9.out).mono ?_
            rintro e w10 ⟨ea, ec, rfl, heo, hb10⟩
            have HEO := Lib.hid heo
            have HB10 := Lib.hid hb10
            clear heo hb10
            go_wp2_with fail
            refine (Sm.same_self pa ea en en pc ec E w10 (by omega) (by have h := (HPO.out.later HB10.out).sl; rw [HEN2.out] at h; exact h) (by have h := HEO.out.sl; rw [HEN2.out] at h; exact h)).mono ?_
            rintro e w11 ⟨rfl, hb11⟩
            have HB11 := Lib.hid (bel_step HB10.out hb11)
            clear hb11
            go_wp2_with fail
            go_roundw
            case rel => exact ⟨x + 1, by omega, by go_num, HSC9.out.later HB11.out, HAU9.out.later HB11.out, HS9.out.trans (sep_of HB11.out)⟩
            case measure => simp [intOf]; omega
          · obtain rfl : x = n := by omega
            have hxI : ¬ (x : Int) < (x : Int) := by omega
            have HRE := Lib.hid (wReset_any hscx)
            have HSEx := Lib.hid hsex
            have HAUx := Lib.hid haux
            clear hscx hsex haux
            go_wp2_with fail
            refine HRE.out.mono ?_
            rintro e w9 ⟨rfl, hsc9, hs9⟩
            have HSC9 := Lib.hid hsc9
            have HS9 := Lib.hid (sep_new HSEx.out hs9 (fun g e => .inr (by rw [e]; exact HCBW.out)))
            have HAU9 := Lib.hid (HAUx.out.sep hs9 fun g hg e => HNCB.out (e ▸ hg))
            clear hsc9 hs9
            go_wp2_with fail
            go_roundw
            case rel => exact ⟨k + 1, by omega, by go_num, HSC9.out, HAU9.out, HS9.out⟩
            case measure => simp [intOf]; omega
      · obtain rfl : k = 2 := by omega
        have hkI : ¬ ((2 : Nat) : Int) < 2 := by omega
        go_wp2_with fail
        refine (HLV.out _).mono ?_
        rintro e w9 ⟨rfl, hb9⟩
        have HB9 := Lib.hid hb9
        clear hb9
        go_wp2_with fail
        go_ret
        refine ⟨rfl, ?_⟩
        have h1 : Sep F w1 wr := (sep_of HB2.out).trans HSEk.out
        exact bel_step (HB.out.trans (h1.below HB.out.size fun k hk e => by have h3 := (HFLT.out k e).1; have h4 := HLO.out; omega)) HB9.out
end Go.Proofs.Ytpkikhoicobmcaa
