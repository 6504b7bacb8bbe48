/- TrieTwice: a word that is put again makes no node, and is another word: the walk of the law. No condition. -/
import Derived.Test.YtaechkdmijgfiaaTrT
import Derived.Test.YtaechkdmijgfiaaTrU
namespace Go.Proofs.Ytaechkdmijgfiaa
open Go.RowKit
set_option linter.unusedVariables false
open Tr
theorem iw_more {L W : LL} (h : Iw L W) (V : LL) (hV : ∀ x ∈ V, x ∈ W) : Iw L (W ++ V) := ⟨h.inv, fun x hx => by
  rcases List.mem_append.1 hx with e | e
  · exact h.ws x e
  · exact h.ws x (hV x e)⟩
theorem wordV_at {L W : LL} {i : Nat} (hi : i < W.length) : wordV L W i = findV L (W.getD i []) := by
  unfold wordV; rw [if_neg (by unfold out; omega)]; simp
set_option maxRecDepth 100000 in
set_option maxHeartbeats 4000000 in
theorem trieTwice_walk (a0 : Option Addr) (len0 cap0 : Nat) (w : World) (w0 : IsRows w a0 len0 cap0) :
    Calls Try.prog 7 #[.slice a0 len0 cap0] w fun e w' => e = .returned (.bool true) ∧ Below w.heap.size w w' := by
  obtain ⟨A, N, C, Z, hat⟩ := isrows_at w0
  have HBG := Lib.hid (begin_tr (cap := cap0) hat (isrows_len w0) false)
  have hos := ownV_short false N Z (min len0 8)
  have hol := ownV_len false N Z (min len0 8)
  obtain ⟨own, hown⟩ : ∃ own, ownV false N Z (min len0 8) = own := ⟨_, rfl⟩
  rw [hown] at HBG hos hol
  have HIW := Lib.hid (treeOf_iw own)
  have htl := treeOf_len own hos
  have HTD := Lib.hid (paths_short hos)
  have HWS : Hid (∀ x ∈ (treeOf own).2, x.length ≤ 5) := Lib.hid (fun x hx => by
    rw [treeOf_words] at hx; exact hos x (List.mem_filter.1 hx).1)
  unfold BegR at HBG
  obtain ⟨T, hT⟩ : ∃ T, treeOf own = T := ⟨_, rfl⟩
  rw [hT] at HBG HIW htl HTD HWS
  obtain ⟨L, W⟩ := T
  simp only at HBG HIW htl HTD HWS
  obtain ⟨nl, hnl⟩ : ∃ nl, L.length = nl := ⟨_, rfl⟩
  obtain ⟨nw, hnw⟩ : ∃ nw, W.length = nw := ⟨_, rfl⟩
  have HNL := Lib.hid hnl
  have HNW := Lib.hid hnw
  rw [hnl] at HBG
  rw [hnw] at HBG
  have hnl9 : nl ≤ 41 := by omega
  have hnw9 : nw ≤ 8 := by omega
  clear w0 hat hos hol hown htl hT hnl hnw
  go_enter Try.func7, Try.ntmps7
  go_upto_region 2 with (go_at_call 9; refine HBG.out.mono ?_; rintro e w1 ⟨B, tb, nb, nc, rv, la, lc, vs, wa, wc, us, rfl, hT, hrl, hrw, hB, hb⟩; have HT := Lib.hid hT; have HRW := Lib.hid hrw; have HBB := Lib.hid hB; have HB := Lib.hid hb; clear hT hrl hrw hB hb)
  have S4 := Tv.new w1 (.slice la nl lc) (.slice wa nw wc)
  have hb4 := box1T w1 (.cells #[.slice la nl lc, .slice wa nw wc] 25)
  obtain ⟨W2, hW2⟩ : ∃ W2, w1.alloc (.cells #[.slice la nl lc, .slice wa nw wc] 25) = W2 := ⟨_, rfl⟩
  rw [hW2] at S4 hb4
  try rw [hW2]
  obtain ⟨b4, hb4e⟩ : ∃ b4, w1.heap.size = b4 := ⟨_, rfl⟩
  have HT2 := Lib.hid (HT.out.later hb4)
  have HRW2 := Lib.hid (HRW.out.below hb4)
  have HB2 := Lib.hid (bel_step HB.out hb4)
  have HN4 : Hid (¬ Fp tb nb nl rv w1.heap.size) := Lib.hid (fun e => by have := (TrX.lt HT.out (by rw [HNL.out]; exact e)).2; omega)
  rw [hb4e] at S4 HN4
  try rw [hb4e]
  have HS4 := Lib.hid S4
  have HLN := Lib.hid (len_tr HT2.out)
  rw [HNL.out] at HLN
  clear S4 hb4 hb4e hW2 HT HRW
  go_wp2_with (go_at_call 10; refine HLN.out.mono ?_; rintro e w9 ⟨rfl, rfl⟩)
  go_loopw [6] (fun s6 wr => ∃ (k nb1 nc1 : Nat) (rv1 : Nat → Value), k ≤ nw ∧ s6 = .int .i64 k ∧ TrP wr B tb nb1 nc1 rv1 L (W ++ W.take k) ∧ RvS (Fp tb nb1 nl rv1) wr wa nw us W ∧ Tv wr b4 (.slice la nl lc) (.slice wa nw wc) ∧ ¬ Fp tb nb1 nl rv1 b4 ∧ Below w.heap.size w wr) (fun s6 _ => nw - (intOf s6).toNat)
  case atStart => exact ⟨0, nb, nc, rv, Nat.zero_le _, rfl, by rw [List.take_zero, List.append_nil]; exact HT2.out, HRW2.out, HS4.out, HN4.out, HB2.out⟩
  case round =>
    obtain ⟨k, nb1, nc1, rv1, hk, rfl, hT, hrw, h4, hn4, hb⟩ := hrel
    have HTr := Lib.hid hT
    have HRWr := Lib.hid hrw
    have HS4r := Lib.hid h4
    have HN4r := Lib.hid hn4
    have HBr := Lib.hid hb
    obtain ⟨x0, x1⟩ := h4.cells
    clear hT hrw h4 hn4 hb
    by_cases hlt : k < nw
    · have hltI : (k : Int) < (nw : Int) := by omega
      have hk0 : (0 : Int) ≤ (k : Int) := Int.natCast_nonneg _
      have hkW : k < W.length := by rw [HNW.out]; exact hlt
      have hxm : W.getD k [] ∈ W := gD_mem hkW
      have hxs := HWS.out _ hxm
      obtain ⟨hxL, hxne⟩ := HIW.out.ws _ hxm
      obtain ⟨ai, ci, ev, hc1, hc2, hsl⟩ := rvs_ok1 HRWr.out hlt
      have hcl : ∃ b o, wa = some ⟨b, o, none⟩ ∧ wr.cell? ⟨b, o + k, none⟩ = some (.slice ai (W.getD k []).length ci) := by
        rcases HRWr.out.now.cells with h0 | ⟨b, o, e, hc⟩
        · omega
        · exact ⟨b, o, e, by rw [hc k hlt, ev]⟩
      obtain ⟨b, o, rfl, hcell⟩ := hcl
      obtain ⟨x, hx⟩ : ∃ x, W.getD k [] = x := ⟨_, rfl⟩
      have HX := Lib.hid hx
      rw [hx] at hxm hxs hxL hxne hc1 hsl hcell
      have hput := putL_twice HIW.out.inv hxL
      have hxl1 : 1 ≤ x.length := by
        rcases Nat.eq_zero_or_pos x.length with e | e
        · exact absurd (List.length_eq_zero_iff.1 e) hxne
        · exact e
      obtain ⟨b2, o2, rfl, _⟩ := slk_at (hsl wr (Sep.refl _ _)) (by omega)
      have hiw2 : Iw L (W ++ W.take k) := iw_more HIW.out _ (fun y hy => List.mem_of_mem_take hy)
      have hwl2 : (W ++ W.take k).length = nw + k := by rw [List.length_append, List.length_take, HNW.out]; omega
      have hP := put_tr (c := ci) HTr.out hiw2 (fun w' hs => hsl w' (by rw [HNL.out] at hs; exact hs)) hxl1 (by omega) hc1 hc2 (by rw [HNL.out]; omega) (fun p hp => Nat.le_trans (HTD.out p hp) (by omega)) (by rw [hwl2]; omega)
      rw [hput, hwl2, HNL.out] at hP
      have htk : W ++ W.take k ++ [x] = W ++ W.take (k + 1) := by rw [List.append_assoc, ← hx, List.take_succ_eq_append_getElem hkW, gD hkW]
      rw [htk] at hP
      have HP := Lib.hid hP
      have hw1 : wordV L (W ++ W.take (k + 1)) ((nw : Int) + (k : Int)) = findV L x := by
        rw [show (nw : Int) + (k : Int) = ((nw + k : Nat) : Int) by omega, wordV_at (by rw [List.length_append, List.length_take, HNW.out]; omega)]
        congr 1
        rw [← htk, ← hwl2]; exact gD_new _ _ _
      have hw2 : wordV L (W ++ W.take (k + 1)) (k : Int) = findV L x := by
        rw [wordV_at (by rw [List.length_append]; omega), gD_app hkW, hx]
      obtain ⟨y, hy⟩ : ∃ y, findV L x = y := ⟨_, rfl⟩
      rw [hy] at hw1 hw2
      have HW1 := Lib.hid hw1
      have HW2 := Lib.hid hw2
      obtain ⟨xl, hxl⟩ : ∃ xl, x.length = xl := ⟨_, rfl⟩
      rw [hxl] at hcell HP
      have e1 : (((nw + k : Nat) : Int) != (nw : Int) + (k : Int)) = false := by simp
      have e2 : (y != y) = false := by simp
      have e3 : ((nl : Int) != (nl : Int)) = false := by simp
      clear hkW hxm hxs hxL hxne ev hc1 hc2 hsl hx hput hxl1 hiw2 hwl2 hP htk hw1 hw2 hy hxl
      go_wp2_with (first
        | (go_at_call 31; refine HP.out.mono ?_; rintro e w9 ⟨rfl, nb2, nc2, rv2, hT2, ht⟩; obtain ⟨s4, n4⟩ := HS4r.out.turn ht HN4r.out; obtain ⟨y0, y1⟩ := s4.cells; have HT9 := Lib.hid hT2; have HTU9 := Lib.hid ht; have HS9 := Lib.hid s4; have HN9 := Lib.hid n4; have HWA := Lib.hid (word_tr hT2 ((nw : Int) + (k : Int))); have HWB := Lib.hid (word_tr hT2 (k : Int)); rw [HW1.out] at HWA; rw [HW2.out] at HWB; have HLA := Lib.hid (len_tr hT2); rw [HNL.out] at HLA; clear hT2 ht s4 n4)
        | (go_at_call 21; (first | (with_reducible refine HWB.out.mono ?_) | (refine HWA.out.mono ?_)); rintro e w8 ⟨rfl, rfl⟩)
        | (go_at_call 10; refine HLA.out.mono ?_; rintro e w8 ⟨rfl, rfl⟩))
      go_roundw
      case rel => exact ⟨k + 1, nb2, nc2, rv2, by omega, by go_num, HT9.out, HRWr.out.turn HTU9.out, HS9.out, HN9.out, HBr.out.trans (HTU9.out.sep.below HBr.out.size fun g hg e => by have := (TrX.lt HTr.out (by rw [HNL.out]; exact e)).1; have := HBB.out; omega)⟩
      case measure => simp [intOf]; omega
    · obtain rfl : k = nw := by omega
      have hltI : ¬ (k : Int) < (k : Int) := by omega
      go_wp2_with (go_at_call 23; refine (lives12_any _).mono ?_; rintro e w9 ⟨rfl, hb9⟩; have HB9 := Lib.hid hb9; clear hb9)
      go_ret
      exact ⟨rfl, bel_step HBr.out HB9.out⟩
end Go.Proofs.Ytaechkdmijgfiaa
