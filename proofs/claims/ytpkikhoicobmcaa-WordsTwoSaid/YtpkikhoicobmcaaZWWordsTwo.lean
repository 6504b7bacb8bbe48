/- WordsTwo: two scanners of one set have nothing of one another. The walk of the law. No condition. -/
import Derived.Test.YtpkikhoicobmcaaZWdP
namespace Go.Proofs.Ytpkikhoicobmcaa
open Go.RowKit
set_option linter.unusedVariables false
open Tr Au Wd
set_option maxRecDepth 100000 in
set_option maxHeartbeats 8000000 in
theorem wordsTwo_walk (a0 : Option Addr) (len0 cap0 : Nat) (a1 : Option Addr) (len1 cap1 : Nat) (z1 : List Int) (a2 : Option Addr) (len2 cap2 : Nat) (z2 : List Int) (w : World) (w0 : IsRows w a0 len0 cap0) (w1 : IsRow .u64 w a1 len1 cap1 z1) (w2 : IsRow .u64 w a2 len2 cap2 z2) :
    Calls Try.prog 7 #[.slice a0 len0 cap0, .slice a1 len1 cap1, .slice a2 len2 cap2] w fun e w' => e = .returned (.bool true) ∧ Below w.heap.size w w' := by
  obtain ⟨A, N, C, Z, hat⟩ := isrows_at w0
  obtain ⟨S, _, hok, hl8, hd5, hB⟩ := begin14_use (cap := cap0) hat (isrows_len w0) false
  have HBG := Lib.hid hB
  unfold BegU at HBG
  have HOK := Lib.hid hok
  have HD := Lib.hid hd5
  have HPOS := Lib.hid (ok_pos hok)
  obtain ⟨sn, hsn⟩ : ∃ sn, S.length = sn := ⟨_, rfl⟩
  have HSN := Lib.hid hsn
  rw [hsn] at HBG hl8
  have HLV := Lib.hid (fun W => lives14_any W)
  obtain ⟨X, n, hXn, hn8, hrow1⟩ := row14 w1 8 (by omega)
  obtain ⟨Y, q, hYq, hq8, hrow2⟩ := row14 w2 8 (by omega)
  have HROW1 := Lib.hid hrow1
  have HROW2 := Lib.hid hrow2
  have HXN := Lib.hid hXn
  have HYQ := Lib.hid hYq
  clear w0 hat hok hd5 hB hsn hrow1 hrow2 hXn hYq w1 w2
  go_enter Try.func7, Try.ntmps7
  go_upto_region 4 with (go_at_call 9; refine HBG.out.mono ?_; rintro e w1 ⟨B, sb, tb, nb, nc, mb, rv, ra, rc, vs, rfl, hX, hrv, hlo, hb⟩; have HX := Lib.hid hX; have HRV := Lib.hid hrv; have HLO := Lib.hid hlo; have HB := Lib.hid hb; clear hX hrv hlo hb)
  obtain ⟨F, hF⟩ : ∃ F : Nat → Prop, Fw sb tb nb mb (pathsOf S).length rv = F := ⟨_, rfl⟩
  have HF := Lib.hid hF
  rw [hF] at HRV
  have HFLT : Hid (∀ g, F g → B ≤ g ∧ g < w1.heap.size) := Lib.hid (fun g hg => by rw [← hF] at hg; exact HX.out.x.lt hg)
  have HFS : Hid (F sb) := Lib.hid (by rw [← hF]; exact .inr (.inl rfl))
  clear hF
  go_upto_region 5 with (go_at_call 17; refine (HROW1.out _ HB.out).mono ?_; rintro e w2 ⟨xa, xc, rfl, hxs, hxc, hxc9, hb⟩; have HXS := Lib.hid (hxs F (fun g hg => (HFLT.out g hg).2)); have HB2 := Lib.hid hb; clear hxs hb)
  go_upto_region 6 with (go_at_call 17; refine (HROW2.out _ (bel_step HB.out HB2.out)).mono ?_; rintro e w3 ⟨ya, yc, rfl, hys, hyc, hyc9, hb⟩; have HYS := Lib.hid (hys F (fun g hg => Nat.lt_of_lt_of_le (HFLT.out g hg).2 HB2.out.size)); have HB3 := Lib.hid hb; clear hys hb)
  have HBE := Lib.hid (wBegin_any (HX.out.later (bel_step HB2.out HB3.out)) HOK.out (by rw [HSN.out]; omega) HD.out)
  unfold BegS at HBE
  go_upto_region 7 with (go_at_call 22; refine HBE.out.mono ?_; rintro e w4 ⟨Ba, ab, xb, rva, cb, rfl, hsc, hcbw, hncb, hau, hap, hws, hsp⟩; have HSC := Lib.hid hsc; have HCBW := Lib.hid hcbw; have HNCB := Lib.hid hncb; have HAU := Lib.hid hau; have HAP := Lib.hid hap; have HWS := Lib.hid hws; have HSP : Hid (Sep F w3 w4) := Lib.hid (hsp.mono fun g e => by rw [e]; exact HFS.out); clear hsc hcbw hncb hau hap hws hsp)
  have HWA : Hid (WsA w4 B sb tb nb nc mb rv (.pointer (some ⟨ab, 0, none⟩)) S) := Lib.hid ⟨HWS.out, .inr ⟨Ba, ab, xb, rva, rfl, HAU.out, HAP.out⟩⟩
  have HBE2 := Lib.hid (wBegin_any HWA.out HOK.out (by rw [HSN.out]; omega) HD.out)
  unfold BegS at HBE2
  go_upto_region 8 with (go_at_call 22; refine HBE2.out.mono ?_; rintro e w5 ⟨Ba2, ab2, xb2, rva2, db, rfl, hsc, hdbw, hndb, hau, hap, hws, hsp⟩; have HSD5 := Lib.hid hsc; have HDBW := Lib.hid hdbw; have HNDB := Lib.hid hndb; have HAD5 := Lib.hid hau; have HSP2 := Lib.hid hsp; clear hsc hdbw hndb hau hap hws hsp)
  have hcs : ¬ cb = sb := fun e => by have h1 := (HFLT.out sb HFS.out).2; have h2 := HB2.out.size; have h3 := HB3.out.size; have h4 := HCBW.out; omega
  have HSC5 := Lib.hid (HSC.out.of_block (HSP2.out.block cb HSC.out.lt hcs))
  have HAC5 := Lib.hid (HAU.out.sep HSP2.out fun g hg e => HAP.out g hg (by rw [HF.out, e]; exact HFS.out))
  have HCD : Hid (cb ≠ db) := Lib.hid (by have h1 := HSC.out.lt; have h2 := HDBW.out; omega)
  have HNCD : Hid (¬ Fas ab xb rva S db) := Lib.hid (fun e => by have h1 := (HAU.out.lt e).2; have h2 := HDBW.out; omega)
  have HNDC : Hid (¬ Fas ab2 xb2 rva2 S cb) := Lib.hid (fun e => by
    obtain ⟨cs, t, e1, e2⟩ := fas_cells HAD5.out e
    have h3 : w5.heap[cb]? = _ := HSC5.out
    rw [h3] at e1; injection e1 with e1; injection e1 with _ e1 _
    subst e1; revert e2; decide)
  have HSE5 : Hid (Sep F w3 w5) := Lib.hid (HSP.out.trans (HSP2.out.mono fun g e => by rw [e]; exact HFS.out))
  have HCB3 : Hid (w3.heap.size ≤ cb) := Lib.hid HCBW.out
  have HDB3 : Hid (w3.heap.size ≤ db) := Lib.hid (Nat.le_trans HSP.out.size HDBW.out)
  have hd0 : deep (pathsOf S) [] = 0 := deep_nil (paths_iw HOK.out).inv
  have HD0 := Lib.hid hd0
  clear hd0 hcs
  go_wp2_with fail
  go_loopw [13] (fun s13 wr => ∃ k : Nat, k ≤ 8 ∧ s13 = .int .i64 (k : Int) ∧ ScX wr cb ab (deep (pathsOf S) (X.take k) : Nat) ∧ ScX wr db ab2 (deep (pathsOf S) (Y.take k) : Nat) ∧ AuS wr Ba ab xb rva S ∧ AuS wr Ba2 ab2 xb2 rva2 S ∧ Sep F w3 wr) (fun s13 _ => 8 - (intOf s13).toNat)
  case atStart => exact ⟨0, by omega, rfl, by rw [List.take_zero, HD0.out]; exact HSC5.out, by rw [List.take_zero, HD0.out]; exact HSD5.out, HAC5.out, HAD5.out, HSE5.out⟩
  case round =>
    obtain ⟨k, hk, rfl, hsc, hsd, hac, had, hse⟩ := hrel
    have HSC0 := Lib.hid hsc
    have HSD0 := Lib.hid hsd
    have HAC0 := Lib.hid hac
    have HAD0 := Lib.hid had
    have HSE0 := Lib.hid hse
    clear hsc hsd hac had hse
    by_cases hkt : k < 8
    · have hkI : (k : Int) < 8 := by omega
      have hk0 : (0 : Int) ≤ (k : Int) := Int.natCast_nonneg _
      obtain ⟨W0, hW0⟩ : ∃ W0, W0 = wr := ⟨_, rfl⟩
      subst hW0
      by_cases hxt : k < n
      · have hxI : (k : Int) < (n : Int) := by omega
        have hmn1 : min (k : Int) ((n : Int) - 1) = (k : Int) := by omega
        have hmn2 : ¬ ((n : Int) - 1 < (k : Int)) := by omega
        have hmn3 : (k : Int) ≤ (n : Int) - 1 := by omega
        obtain ⟨b0, o0, rfl, hc⟩ := slk_at (HXS.out _ ((sep_of HB3.out).trans HSE0.out)) (by omega)
        have hck := hc k hxt
        have htk := take_snocI (l := X) (i := k) (by rw [HXN.out]; exact hxt)
        have hput := wPut_any HAC0.out HOK.out (by rw [HSN.out]; omega) HSC0.out HNCB.out (X.getD k 0)
        rw [htk] at hput
        have HPUT := Lib.hid hput
        obtain ⟨p, hp⟩ : ∃ p, X.getD k 0 = p := ⟨_, rfl⟩
        rw [hp] at HPUT hck
        have HEN := Lib.hid (fun W (hs : Sep F w3 W) => refEnds14 (c := xc) (rc := rc) (x := k) (HRV.out W ((sep_of (bel_step HB2.out HB3.out)).trans hs)) (by omega) HPOS.out (HXS.out _ ((sep_of HB3.out).trans hs)) hxc hxc9 hxt)
        unfold EndsQ at HEN
        have hfl := fin_len8 (q := X.take (k + 1)) (by rw [HSN.out]; exact hl8)
        obtain ⟨E, hE⟩ : ∃ E, fin S (X.take (k + 1)) = E := ⟨_, rfl⟩
        rw [hE] at HPUT HEN hfl
        obtain ⟨en, hen⟩ : ∃ en, E.length = en := ⟨_, rfl⟩
        have HEN2 := Lib.hid hen
        rw [hen] at HPUT HEN hfl
        clear hc htk hput hp hE hen
        go_wp2_with fail
        refine HPUT.out.mono ?_
        rintro e w9 ⟨pa, pc, rfl, hpo, hsc9, hs9⟩
        have HPO := Lib.hid hpo
        have HSC9 := Lib.hid hsc9
        have HS9 := Lib.hid (sep_new HSE0.out hs9 (fun g e => .inr (by rw [e]; exact HCB3.out)))
        have HAC9 := Lib.hid (HAC0.out.sep hs9 fun g hg e => HNCB.out (e ▸ hg))
        have HOA9 := Lib.hid (HAD0.out.sep hs9 fun g hg e => HNDC.out (e ▸ hg))
        have HOC9 := Lib.hid (HSD0.out.of_block (hs9.block _ HSD0.out.lt (fun e => HCD.out e.symm)))
        clear hpo hsc9 hs9
        go_wp2_with fail
        refine (HEN.out _ HS9.out).mono ?_
        rintro e w10 ⟨ea, ec, rfl, heo, hb10⟩
        have HEO := Lib.hid heo
        have HB10 := Lib.hid hb10
        clear heo hb10
        go_wp2_with fail
        refine (Sm.same_self pa ea en en pc ec E w10 (by omega) (by have h := (HPO.out.later HB10.out).sl; rw [HEN2.out] at h; exact h) (by have h := HEO.out.sl; rw [HEN2.out] at h; exact h)).mono ?_
        rintro e W1 ⟨rfl, hb11⟩
        have HB11 := Lib.hid (bel_step HB10.out hb11)
        have HSC1 := Lib.hid (HSC9.out.later HB11.out)
        have HAC1 := Lib.hid (HAC9.out.later HB11.out)
        have HSD1 := Lib.hid (HOC9.out.later HB11.out)
        have HAD1 := Lib.hid (HOA9.out.later HB11.out)
        have HSE1 := Lib.hid (HS9.out.trans (sep_of HB11.out))
        clear hb11 hmn1 hmn2 hmn3 hck hxI HPUT HEN HPO HEO HB10 HB11 HSC9 HS9 HAC9 HOA9 HOC9
        by_cases hyt : k < q
        · have hyI : (k : Int) < (q : Int) := by omega
          have hmn1 : min (k : Int) ((q : Int) - 1) = (k : Int) := by omega
          have hmn2 : ¬ ((q : Int) - 1 < (k : Int)) := by omega
          have hmn3 : (k : Int) ≤ (q : Int) - 1 := by omega
          obtain ⟨b1, o1, rfl, hc⟩ := slk_at (HYS.out _ HSE1.out) (by omega)
          have hck := hc k hyt
          have htk := take_snocI (l := Y) (i := k) (by rw [HYQ.out]; exact hyt)
          have hput := wPut_any HAD1.out HOK.out (by rw [HSN.out]; omega) HSD1.out HNDB.out (Y.getD k 0)
          rw [htk] at hput
          have HPUT := Lib.hid hput
          obtain ⟨p, hp⟩ : ∃ p, Y.getD k 0 = p := ⟨_, rfl⟩
          rw [hp] at HPUT hck
          have HEN := Lib.hid (fun W (hs : Sep F w3 W) => refEnds14 (c := yc) (rc := rc) (x := k) (HRV.out W ((sep_of (bel_step HB2.out HB3.out)).trans hs)) (by omega) HPOS.out (HYS.out _ hs) hyc hyc9 hyt)
          unfold EndsQ at HEN
          have hfl := fin_len8 (q := Y.take (k + 1)) (by rw [HSN.out]; exact hl8)
          obtain ⟨E, hE⟩ : ∃ E, fin S (Y.take (k + 1)) = E := ⟨_, rfl⟩
          rw [hE] at HPUT HEN hfl
          obtain ⟨en, hen⟩ : ∃ en, E.length = en := ⟨_, rfl⟩
          have HEN2 := Lib.hid hen
          rw [hen] at HPUT HEN hfl
          clear hc htk hput hp hE hen
          go_wp2_with fail
          refine HPUT.out.mono ?_
          rintro e w9 ⟨pa, pc, rfl, hpo, hsc9, hs9⟩
          have HPO := Lib.hid hpo
          have HSC9 := Lib.hid hsc9
          have HS9 := Lib.hid (sep_new HSE1.out hs9 (fun g e => .inr (by rw [e]; exact HDB3.out)))
          have HAC9 := Lib.hid (HAD1.out.sep hs9 fun g hg e => HNDB.out (e ▸ hg))
          have HOA9 := Lib.hid (HAC1.out.sep hs9 fun g hg e => HNCD.out (e ▸ hg))
          have HOC9 := Lib.hid (HSC1.out.of_block (hs9.block _ HSC1.out.lt (fun e => HCD.out e)))
          clear hpo hsc9 hs9
          go_wp2_with fail
          refine (HEN.out _ HS9.out).mono ?_
          rintro e w10 ⟨ea, ec, rfl, heo, hb10⟩
          have HEO := Lib.hid heo
          have HB10 := Lib.hid hb10
          clear heo hb10
          go_wp2_with fail
          refine (Sm.same_self pa ea en en pc ec E w10 (by omega) (by have h := (HPO.out.later HB10.out).sl; rw [HEN2.out] at h; exact h) (by have h := HEO.out.sl; rw [HEN2.out] at h; exact h)).mono ?_
          rintro e W2 ⟨rfl, hb11⟩
          have HB11 := Lib.hid (bel_step HB10.out hb11)
          have HSD2 := Lib.hid (HSC9.out.later HB11.out)
          have HAD2 := Lib.hid (HAC9.out.later HB11.out)
          have HSC2 := Lib.hid (HOC9.out.later HB11.out)
          have HAC2 := Lib.hid (HOA9.out.later HB11.out)
          have HSE2 := Lib.hid (HS9.out.trans (sep_of HB11.out))
          clear hb11 hmn1 hmn2 hmn3 hck hyI HPUT HEN HPO HEO HB10 HB11 HSC9 HS9 HAC9 HOA9 HOC9
          go_wp2_with fail
          go_roundw
          case rel => exact ⟨k + 1, by omega, by go_num, HSC2.out, HSD2.out, HAC2.out, HAD2.out, HSE2.out⟩
          case measure => simp [intOf]; omega
        · have hyI : ¬ (k : Int) < (q : Int) := by omega
          have htk : Y.take (k + 1) = Y.take k := by rw [List.take_of_length_le (by rw [HYQ.out]; omega), List.take_of_length_le (by rw [HYQ.out]; omega)]
          have HSD2 := HSD1
          rw [← htk] at HSD2
          have HAD2 := HAD1
          have HSC2 := HSC1
          have HAC2 := HAC1
          have HSE2 := HSE1
          clear htk
          go_wp2_with fail
          go_roundw
          case rel => exact ⟨k + 1, by omega, by go_num, HSC2.out, HSD2.out, HAC2.out, HAD2.out, HSE2.out⟩
          case measure => simp [intOf]; omega
      · have hxI : ¬ (k : Int) < (n : Int) := by omega
        have htk : X.take (k + 1) = X.take k := by rw [List.take_of_length_le (by rw [HXN.out]; omega), List.take_of_length_le (by rw [HXN.out]; omega)]
        have HSC1 := HSC0
        rw [← htk] at HSC1
        have HAC1 := HAC0
        have HSD1 := HSD0
        have HAD1 := HAD0
        have HSE1 := HSE0
        clear htk
        by_cases hyt : k < q
        · have hyI : (k : Int) < (q : Int) := by omega
          have hmn1 : min (k : Int) ((q : Int) - 1) = (k : Int) := by omega
          have hmn2 : ¬ ((q : Int) - 1 < (k : Int)) := by omega
          have hmn3 : (k : Int) ≤ (q : Int) - 1 := by omega
          obtain ⟨b1, o1, rfl, hc⟩ := slk_at (HYS.out _ HSE1.out) (by omega)
          have hck := hc k hyt
          have htk := take_snocI (l := Y) (i := k) (by rw [HYQ.out]; exact hyt)
          have hput := wPut_any HAD1.out HOK.out (by rw [HSN.out]; omega) HSD1.out HNDB.out (Y.getD k 0)
          rw [htk] at hput
          have HPUT := Lib.hid hput
          obtain ⟨p, hp⟩ : ∃ p, Y.getD k 0 = p := ⟨_, rfl⟩
          rw [hp] at HPUT hck
          have HEN := Lib.hid (fun W (hs : Sep F w3 W) => refEnds14 (c := yc) (rc := rc) (x := k) (HRV.out W ((sep_of (bel_step HB2.out HB3.out)).trans hs)) (by omega) HPOS.out (HYS.out _ hs) hyc hyc9 hyt)
          unfold EndsQ at HEN
          have hfl := fin_len8 (q := Y.take (k + 1)) (by rw [HSN.out]; exact hl8)
          obtain ⟨E, hE⟩ : ∃ E, fin S (Y.take (k + 1)) = E := ⟨_, rfl⟩
          rw [hE] at HPUT HEN hfl
          obtain ⟨en, hen⟩ : ∃ en, E.length = en := ⟨_, rfl⟩
          have HEN2 := Lib.hid hen
          rw [hen] at HPUT HEN hfl
          clear hc htk hput hp hE hen
          go_wp2_with fail
          refine HPUT.out.mono ?_
          rintro e w9 ⟨pa, pc, rfl, hpo, hsc9, hs9⟩
          have HPO := Lib.hid hpo
          have HSC9 := Lib.hid hsc9
          have HS9 := Lib.hid (sep_new HSE1.out hs9 (fun g e => .inr (by rw [e]; exact HDB3.out)))
          have HAC9 := Lib.hid (HAD1.out.sep hs9 fun g hg e => HNDB.out (e ▸ hg))
          have HOA9 := Lib.hid (HAC1.out.sep hs9 fun g hg e => HNCD.out (e ▸ hg))
          have HOC9 := Lib.hid (HSC1.out.of_block (hs9.block _ HSC1.out.lt (fun e => HCD.out e)))
          clear hpo hsc9 hs9
          go_wp2_with fail
          refine (HEN.out _ HS9.out).mono ?_
          rintro e w10 ⟨ea, ec, rfl, heo, hb10⟩
          have HEO := Lib.hid heo
          have HB10 := Lib.hid hb10
          clear heo hb10
          go_wp2_with fail
          refine (Sm.same_self pa ea en en pc ec E w10 (by omega) (by have h := (HPO.out.later HB10.out).sl; rw [HEN2.out] at h; exact h) (by have h := HEO.out.sl; rw [HEN2.out] at h; exact h)).mono ?_
          rintro e W2 ⟨rfl, hb11⟩
          have HB11 := Lib.hid (bel_step HB10.out hb11)
          have HSD2 := Lib.hid (HSC9.out.later HB11.out)
          have HAD2 := Lib.hid (HAC9.out.later HB11.out)
          have HSC2 := Lib.hid (HOC9.out.later HB11.out)
          have HAC2 := Lib.hid (HOA9.out.later HB11.out)
          have HSE2 := Lib.hid (HS9.out.trans (sep_of HB11.out))
          clear hb11 hmn1 hmn2 hmn3 hck hyI HPUT HEN HPO HEO HB10 HB11 HSC9 HS9 HAC9 HOA9 HOC9
          go_wp2_with fail
          go_roundw
          case rel => exact ⟨k + 1, by omega, by go_num, HSC2.out, HSD2.out, HAC2.out, HAD2.out, HSE2.out⟩
          case measure => simp [intOf]; omega
        · have hyI : ¬ (k : Int) < (q : Int) := by omega
          have htk : Y.take (k + 1) = Y.take k := by rw [List.take_of_length_le (by rw [HYQ.out]; omega), List.take_of_length_le (by rw [HYQ.out]; omega)]
          have HSD2 := HSD1
          rw [← htk] at HSD2
          have HAD2 := HAD1
          have HSC2 := HSC1
          have HAC2 := HAC1
          have HSE2 := HSE1
          clear htk
          go_wp2_with fail
          go_roundw
          case rel => exact ⟨k + 1, by omega, by go_num, HSC2.out, HSD2.out, HAC2.out, HAD2.out, HSE2.out⟩
          case measure => simp [intOf]; omega
    · obtain rfl : k = 8 := by omega
      have hkI : ¬ ((8 : Nat) : Int) < 8 := by omega
      go_wp2_with fail
      refine (HLV.out _).mono ?_
      rintro e w9 ⟨rfl, hb9⟩
      have HB9 := Lib.hid hb9
      clear hb9
      go_wp2_with fail
      go_ret
      refine ⟨rfl, ?_⟩
      have h1 : Sep F w1 wr := (sep_of (bel_step HB2.out HB3.out)).trans HSE0.out
      exact bel_step (HB.out.trans (h1.below HB.out.size fun k hk e => by have h3 := (HFLT.out k e).1; have h4 := HLO.out; omega)) HB9.out
end Go.Proofs.Ytpkikhoicobmcaa
