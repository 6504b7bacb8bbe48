/- TrieCounts: there are as many nodes as beginnings of words, in whatever row they are put: the walk of the law. No condition. -/
import Derived.Test.YtaechkdmijgfiaaTrT
import Derived.Test.YtaechkdmijgfiaaTrU
import Derived.Test.YtaechkdmijgfiaaTrV
import Derived.Test.YtaechkdmijgfiaaTrI
import Derived.Test.YtaechkdmijgfiaaTrE
import Derived.Test.YtaechkdmijgfiaaSamU
namespace Go.Proofs.Ytaechkdmijgfiaa
open Go.RowKit
set_option linter.unusedVariables false
open Tr
theorem slot_px {w w' : World} {B : Nat} {v : Value} {n : Nat} {l : List Int} (h : w.ownsRow B 43 1 v n (l.map (Value.int .u64))) : ∃ a c, v = .slice a n c ∧ SlK .u64 w a n l := by
  have hl : l.length = n := by have := h.1; rw [List.length_map] at this; omega
  obtain ⟨a, c, e, ho, _⟩ := ownK_row hl h
  exact ⟨a, c, e, by rw [← hl]; exact ho.sl⟩
theorem slot_ints {w : World} {B : Nat} {v : Value} {n : Nat} {xs : List Value} (h : w.ownsRow B 3 1 v n xs) : ∃ a c, v = .slice a n c := Tr.own_form h
set_option maxRecDepth 100000 in
set_option maxHeartbeats 4000000 in
theorem trieCounts_walk (a0 : Option Addr) (len0 cap0 : Nat) (w : World) (w0 : IsRows w a0 len0 cap0) :
    Calls Try.prog 8 #[.slice a0 len0 cap0] w fun e w' => e = .returned (.bool true) ∧ Below w.heap.size w w' := by
  obtain ⟨A, N, C, Z, hat⟩ := isrows_at w0
  have HBG := Lib.hid (begin_tr (cap := cap0) hat (isrows_len w0) false)
  have hos := ownV_short false N Z (min len0 8)
  have hol := ownV_len false N Z (min len0 8)
  obtain ⟨own, hown⟩ : ∃ own, ownV false N Z (min len0 8) = own := ⟨_, rfl⟩
  rw [hown] at HBG hos hol
  have HIW := Lib.hid (treeOf_iw own)
  have htl := treeOf_len own hos
  have HTD := Lib.hid (paths_short hos)
  have HWS : Hid (∀ x ∈ (treeOf own).2, x.length ≤ 5) := Lib.hid (fun x hx => by
    rw [treeOf_words] at hx; exact hos x (List.mem_filter.1 hx).1)
  have HTW := Lib.hid (twin_of (own := own))
  unfold BegR at HBG
  obtain ⟨T, hT⟩ : ∃ T, treeOf own = T := ⟨_, rfl⟩
  rw [hT] at HBG HIW htl HTD HWS HTW
  obtain ⟨L, W⟩ := T
  simp only at HBG HIW htl HTD HWS HTW
  obtain ⟨nl, hnl⟩ : ∃ nl, L.length = nl := ⟨_, rfl⟩
  obtain ⟨nw, hnw⟩ : ∃ nw, W.length = nw := ⟨_, rfl⟩
  have HNL := Lib.hid hnl
  have HNW := Lib.hid hnw
  rw [hnl] at HBG
  rw [hnw] at HBG
  have hnl9 : nl ≤ 41 := by omega
  have hnl1 : 1 ≤ nl := by have := HIW.out.inv.pos; omega
  have hnw9 : nw ≤ 8 := by omega
  clear w0 hat hos hol hown htl hT hnl hnw
  go_enter Try.func8, Try.ntmps8
  go_upto_region 2 with (go_at_call 9; refine HBG.out.mono ?_; rintro e w1 ⟨B, tb, nb, nc, rv, la, lc, vs, wa, wc, us, rfl, hT, hrl, hrw, hB, hb⟩; have HT := Lib.hid hT; have HRL := Lib.hid hrl; have HRW := Lib.hid hrw; have HBB := Lib.hid hB; have HB := Lib.hid hb; clear hT hrl hrw hB hb)
  have S4 := Tv.new w1 (.slice la nl lc) (.slice wa nw wc)
  have hb4 := box1T w1 (.cells #[.slice la nl lc, .slice wa nw wc] 25)
  obtain ⟨W2, hW2⟩ : ∃ W2, w1.alloc (.cells #[.slice la nl lc, .slice wa nw wc] 25) = W2 := ⟨_, rfl⟩
  rw [hW2] at S4 hb4
  try rw [hW2]
  obtain ⟨b4, hb4e⟩ : ∃ b4, w1.heap.size = b4 := ⟨_, rfl⟩
  have HT2 := Lib.hid (HT.out.later hb4)
  have HRL2 := Lib.hid (HRL.out.below hb4).now
  have HRW2 := Lib.hid (HRW.out.below hb4).now
  have HB2 := Lib.hid (bel_step HB.out hb4)
  rw [hb4e] at S4
  try rw [hb4e]
  have HS4 := Lib.hid S4
  clear S4 hb4 hb4e hW2 HT HRW HRL
  go_upto_region 5 with (go_at_call 32; refine (new_tr _).mono ?_; rintro e w3 ⟨ub, unb, rfl, hT, hb, h1, h2⟩; have HU3 := Lib.hid hT; have HB3 := Lib.hid hb; clear hT hb h1 h2)
  obtain ⟨x0, x1⟩ := (HS4.out.later HB3.out).cells
  go_wp2_with fail
  go_loopw [6] (fun s6 wr => ∃ (j nb1 nc1 : Nat) (rv1 : Nat → Value), j ≤ nw ∧ s6 = .int .i64 ((nw : Int) - 1 - (j : Int)) ∧ TrP wr W2.heap.size ub nb1 nc1 rv1 (treeOf (W.reverse.take j)).1 (treeOf (W.reverse.take j)).2 ∧ Below W2.heap.size W2 wr) (fun s6 _ => (intOf s6 + 1).toNat)
  case atStart => exact ⟨0, unb, 1, _, Nat.zero_le _, by simp, HU3.out, HB3.out⟩
  case round =>
    obtain ⟨j, nb1, nc1, rv1, hj, rfl, hU, hb⟩ := hrel
    have HU := Lib.hid hU
    have HBr := Lib.hid hb
    clear x0 x1
    obtain ⟨x0, x1⟩ := (HS4.out.later hb).cells
    clear hU hb
    by_cases hlt : j < nw
    · obtain ⟨k, hk⟩ : ∃ k, nw - 1 - j = k := ⟨_, rfl⟩
      have hkI : (nw : Int) - 1 - (j : Int) = (k : Int) := by omega
      have hkn : k < nw := by omega
      have hkW : k < W.length := by rw [HNW.out]; exact hkn
      have hjr : j < W.reverse.length := by rw [List.length_reverse, HNW.out]; exact hlt
      have hgx : W.reverse.getD j [] = W.getD k [] := by
        rw [gD hjr, gD hkW, List.getElem_reverse]; congr 1; rw [HNW.out]; omega
      have hxm : W.getD k [] ∈ W := gD_mem hkW
      have hxs := HWS.out _ hxm
      have hxne := (HIW.out.ws _ hxm).2
      have hst := treeOf_take hjr
      rw [hgx] at hst
      have hiu := treeOf_iw (W.reverse.take j)
      have hlu := treeOf_len (W.reverse.take j) (fun r hr => HWS.out r (List.mem_reverse.1 (List.mem_of_mem_take hr)))
      have hdu := paths_short (own := W.reverse.take j) (fun r hr => HWS.out r (List.mem_reverse.1 (List.mem_of_mem_take hr)))
      rw [List.length_take, List.length_reverse, HNW.out] at hlu
      obtain ⟨ai, ci, ev, h1, hc1, hc2⟩ := HRW2.out.each k hkn
      have hcl : ∃ b o, wa = some ⟨b, o, none⟩ ∧ wr.cell? ⟨b, o + k, none⟩ = some (.slice ai (W.getD k []).length ci) := by
        rcases (HRW2.out.later HBr.out).cells with h0 | ⟨b, o, e, hc⟩
        · omega
        · exact ⟨b, o, e, by rw [hc k hkn, ev]⟩
      obtain ⟨b, o, rfl, hcell⟩ := hcl
      obtain ⟨x, hx⟩ : ∃ x, W.getD k [] = x := ⟨_, rfl⟩
      rw [hx] at hxs hxne hst h1 hc1 hcell
      have hxl1 : 1 ≤ x.length := by
        rcases Nat.eq_zero_or_pos x.length with e | e
        · exact absurd (List.length_eq_zero_iff.1 e) hxne
        · exact e
      obtain ⟨b2, o2, rfl, _⟩ := slk_at h1 (by omega)
      obtain ⟨T, hT⟩ : ∃ T, treeOf (W.reverse.take j) = T := ⟨_, rfl⟩
      have HUt := HU.out
      rw [hT] at hst hiu hlu hdu HUt
      obtain ⟨U, V⟩ := T
      simp only at hiu hlu hdu HUt
      have hP := put_tr (c := ci) HUt hiu (fun w' hs => h1.below (HBr.out.trans (hs.below HBr.out.size fun g hg e => by have := (TrX.lt HUt e).1; omega))) hxl1 (by omega) hc1 hc2 (by omega) (fun p hp => Nat.le_trans (hdu p hp) (by omega)) (by omega)
      have hst2 : treeOf (W.reverse.take (j + 1)) = (putL U x, V ++ [x]) := by rw [hst]; unfold Tr.stepT; rw [if_neg hxne]
      have HST := Lib.hid hst2
      have HP := Lib.hid hP
      have HUT := Lib.hid HUt
      have HKE := Lib.hid hkI
      obtain ⟨xl, hxl⟩ : ∃ xl, x.length = xl := ⟨_, rfl⟩
      rw [hxl] at hcell HP
      obtain ⟨nv, hnv⟩ : ∃ nv, V.length = nv := ⟨_, rfl⟩
      rw [hnv] at HP
      rw [hkI]
      have hk0 : (0 : Int) ≤ (k : Int) := Int.natCast_nonneg _
      have hkn2 : (k : Int) < (nw : Int) := by omega
      clear hk hkI hkW hjr hgx hxm hxs hxne hst hiu hlu hdu ev h1 hc1 hc2 hx hxl1 hT HUt hP hst2 hxl hnv
      go_wp2_with (go_at_call 31; refine HP.out.mono ?_; rintro e w9 ⟨rfl, nb2, nc2, rv2, hT2, ht⟩; have HT9 := Lib.hid hT2; have HTU9 := Lib.hid ht; clear hT2 ht)
      go_roundw
      case rel =>
        refine ⟨j + 1, nb2, nc2, rv2, by omega, ?_, by rw [HST.out]; exact HT9.out, HBr.out.trans (HTU9.out.sep.below HBr.out.size fun g hg e => by have := (TrX.lt HUT.out e).1; omega)⟩
        have := HKE.out
        exact congrArg (Value.int IntKind.i64) (by omega)
      case measure =>
        have := HKE.out
        simp only [intOf]; omega
    · obtain rfl : j = nw := by omega
      have hneg : (j : Int) - 1 - (j : Int) = -1 := by omega
      rw [hneg]
      have hall : W.reverse.take j = W.reverse := List.take_of_length_le (by rw [List.length_reverse, HNW.out]; exact Nat.le_refl _)
      have HUe := HU.out
      rw [hall] at HUe
      have hlu := treeOf_len W.reverse (fun r hr => HWS.out r (List.mem_reverse.1 hr))
      have hdu := paths_short (own := W.reverse) (fun r hr => HWS.out r (List.mem_reverse.1 hr))
      rw [List.length_reverse, HNW.out] at hlu
      obtain ⟨T, hT⟩ : ∃ T, treeOf W.reverse = T := ⟨_, rfl⟩
      rw [hT] at HTW HUe hlu hdu
      obtain ⟨U, V⟩ := T
      simp only at HTW HUe hlu hdu
      have HUE := Lib.hid HUe
      have hul : U.length = nl := by rw [← HTW.out.len, HNL.out]
      have HUL := Lib.hid hul
      have HDU := Lib.hid hdu
      have HLU := Lib.hid hlu.2
      have HLa := Lib.hid (len_tr (HT2.out.later HBr.out))
      have HLb := Lib.hid (len_tr HUe)
      rw [HNL.out] at HLa
      rw [hul] at HLb
      have e0 : ((nl : Int) != (nl : Int)) = false := by simp
      clear hall HUe hlu hdu hT hul hneg
      obtain ⟨W5, rfl⟩ : ∃ W5, W5 = wr := ⟨_, rfl⟩
      go_wp2_with (go_at_call 10; (first | (with_reducible refine HLa.out.mono ?_) | (with_reducible refine HLb.out.mono ?_)); rintro e w9 ⟨rfl, rfl⟩)
      go_loopw [7] (fun s7 wz => ∃ i : Nat, i ≤ nl ∧ s7 = .int .i64 i ∧ Below W5.heap.size W5 wz) (fun s7 _ => nl - (intOf s7).toNat)
      case atStart => exact ⟨0, Nat.zero_le _, rfl, Below.refl _ _⟩
      case round =>
        obtain ⟨i, hi, rfl, hbx⟩ := hrel
        have HBX := Lib.hid hbx
        have HTi := Lib.hid (fun W' (hb : Below wr.heap.size wr W') => HT2.out.later (bel_step HBr.out (bel_step hbx hb)))
        have HUi := Lib.hid (fun W' (hb : Below wr.heap.size wr W') => HUE.out.later (bel_step hbx hb))
        have HLa := Lib.hid (len_tr (HTi.out _ (Below.refl _ _)))
        rw [HNL.out] at HLa
        clear hbx x0 x1
        by_cases hil : i < nl
        · have hiI : (i : Int) < (nl : Int) := by omega
          have hi0 : (0 : Int) ≤ (i : Int) := Int.natCast_nonneg _
          have hiL : i < L.length := by rw [HNL.out]; exact hil
          obtain ⟨hkn, n, hwn, hnU, hgn, hwc⟩ := HTW.out.walk HIW.out hiL
          have hpd := HTD.out _ (gD_mem (d := []) hiL)
          have hpath : pathV L i = L.getD i [] := by unfold pathV; rw [if_neg (by unfold out; omega)]; simp
          have hdep : depV L i = ((L.getD i []).length : Int) := by unfold depV; rw [if_neg (by unfold out; omega)]; simp
          have hpathU : pathV U n = L.getD i [] := by unfold pathV; rw [if_neg (by unfold out; omega)]; simpa using hgn
          have hdepU : depV U n = ((L.getD i []).length : Int) := by unfold depV; rw [if_neg (by unfold out; omega), Int.toNat_natCast, hgn]
          obtain ⟨p, hp⟩ : ∃ p, L.getD i [] = p := ⟨_, rfl⟩
          rw [hp] at hkn hwn hpath hdep hpathU hdepU hpd
          obtain ⟨np, hnp⟩ : ∃ np, p.length = np := ⟨_, rfl⟩
          have HNP := Lib.hid hnp
          rw [hnp] at hkn hdep hdepU hpd
          have HPa := Lib.hid (fun W' hb => path_tr (HTi.out W' hb) HIW.out.inv i (fun p hp => Nat.le_trans (HTD.out p hp) (by omega)))
          have HPb := Lib.hid (fun W' hb => path_tr (HUi.out W' hb) HTW.out.iu.inv n (fun p hp => Nat.le_trans (HDU.out p hp) (by omega)))
          have HDa := Lib.hid (fun W' hb => depth_tr (HTi.out W' hb) i)
          have HDb := Lib.hid (fun W' hb => depth_tr (HUi.out W' hb) n)
          have HWa := Lib.hid (fun W' hb => words_tr (HTi.out W' hb) (fun x hx => (HIW.out.ws x hx).1) (by rw [HNW.out]; omega) i)
          have HWb := Lib.hid (fun W' hb => words_tr (HUi.out W' hb) (fun x hx => (HTW.out.iu.ws x hx).1) (by have := HLU.out; omega) n)
          have HWk := Lib.hid (fun (a : Option Addr) (c : Nat) W' (hb : Below wr.heap.size wr W') (hs : SlK .u64 W' a np p) => walk_tr (c := c) (HUi.out W' hb) HTW.out.iu.inv hs (by omega))
          unfold KidsR at HPa HPb
          rw [hpath, hnp] at HPa
          rw [hpathU, hnp] at HPb
          rw [hdep] at HDa
          rw [hdepU] at HDb
          rw [hwn, hkn] at HWk
          rw [hwc] at HWb
          obtain ⟨nwd, hnwd⟩ : ∃ nwd, (wordsV L W i).length = nwd := ⟨_, rfl⟩
          rw [hnwd] at HWa HWb
          have hBt := Below.refl wr.heap.size wr
          have e1 : ((np : Int) != (np : Int)) = false := by simp
          have e2 : ((nwd : Int) != (nwd : Int)) = false := by simp
          clear hiL hkn hwn hnU hgn hwc hpath hdep hpathU hdepU hp hnp hnwd
          go_wp2_with (first
            | (go_at_call 10; (with_reducible refine HLa.out.mono ?_); rintro e w9 ⟨rfl, rfl⟩)
            | (go_at_call 15; (with_reducible refine (HPb.out _ hBt).mono ?_); rintro e y1 ⟨vb, rfl, hob, hb9⟩; obtain ⟨ab, cb, eb, hsb⟩ := slot_px (w' := y1) hob; subst eb; replace hBt := bel_step hBt hb9; have HSB := Lib.hid hsb; clear hob hsb hb9)
            | (go_at_call 15; (with_reducible refine (HPa.out _ hBt).mono ?_); rintro e y2 ⟨va, rfl, hoa, hb9⟩; obtain ⟨aa, ca, ea, hsa⟩ := slot_px (w' := y2) hoa; subst ea; replace hBt := bel_step hBt hb9; have HSA := Lib.hid hsa; (try (have HSB2 := Lib.hid (HSB.out.below hb9))); clear hoa hsa hb9)
            | (go_at_call 27; refine (HWk.out _ _ _ hBt HSA.out).mono ?_; rintro e y3 ⟨rfl, hb9⟩; replace hBt := bel_step hBt hb9; clear hb9)
            | (go_at_call 13; (first | (with_reducible refine (HDa.out _ hBt).mono ?_) | (with_reducible refine (HDb.out _ hBt).mono ?_)); rintro e y4 ⟨rfl, hb9⟩; replace hBt := bel_step hBt hb9; clear hb9)
            | (go_at_call 14; refine (Su.sameRow_any _ _ np np _ _ p p _ (by omega) HSB2.out HSA.out).mono ?_; rw [decide_eq_true (rfl : p = p)]; rintro e y5 ⟨rfl, hb9⟩; replace hBt := bel_step hBt hb9; clear hb9)
            | (go_at_call 20; (first | (with_reducible refine (HWb.out _ hBt).mono ?_) | (with_reducible refine (HWa.out _ hBt).mono ?_)); rintro e y6 ⟨v6, rfl, ho6, hb9⟩; obtain ⟨a6, c6, e6⟩ := slot_ints ho6; subst e6; replace hBt := bel_step hBt hb9; clear ho6 hb9))
          go_roundw
          case rel => exact ⟨i + 1, by omega, by go_num, bel_step HBX.out hBt⟩
          case measure => simp [intOf]; omega
        · obtain rfl : i = nl := by omega
          have hiI : ¬ (i : Int) < (i : Int) := by omega
          go_wp2_with (first
            | (go_at_call 10; (with_reducible refine HLa.out.mono ?_); rintro e w9 ⟨rfl, rfl⟩)
            | (go_at_call 23; refine (lives12_any _).mono ?_; rintro e w9 ⟨rfl, hb9⟩; have HB9 := Lib.hid hb9; clear hb9))
          go_ret
          exact ⟨rfl, (HB2.out.trans (HBr.out.mono HB2.out.size)).trans ((bel_step HBX.out HB9.out).mono (HB2.out.trans (HBr.out.mono HB2.out.size)).size)⟩
end Go.Proofs.Ytaechkdmijgfiaa
