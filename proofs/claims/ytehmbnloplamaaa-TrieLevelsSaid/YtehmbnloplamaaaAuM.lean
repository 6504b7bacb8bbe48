/- A tree's nodes by their depth, by the document. Condition: lists stand, of at most 1000 rows. -/
import Derived.Test.YtehmbnloplamaaaAuOrd
import Derived.Test.YtehmbnloplamaaaTrWr
import Derived.Test.YtehmbnloplamaaaTrLf
namespace Go.Proofs.Ytehmbnloplamaaa
open Go.RowKit
set_option linter.unusedVariables false
open Tr Au
namespace Au
def levN (L : LL) (d i : Nat) : List Nat := (List.range i).filter fun j => decide (dep L j = d)
theorem levN_succ (L : LL) (d i : Nat) : levN L d (i + 1) = if dep L i = d then levN L d i ++ [i] else levN L d i := by
  unfold levN
  rw [List.range_succ, List.filter_append]
  by_cases e : dep L i = d
  · rw [if_pos e, List.filter_cons, decide_eq_true e]; rfl
  · rw [if_neg e, List.filter_cons, decide_eq_false e]; simp
theorem levN_len (L : LL) (d i : Nat) : (levN L d i).length ≤ i := by
  unfold levN; exact Nat.le_trans (List.length_filter_le _ _) (by simp)
theorem ints_app (l m : List Nat) : ints (l ++ m) = ints l ++ ints m := by simp [ints]
theorem ints_len2' (l : List Nat) : (ints l).length = l.length := by simp [ints]
def LevsR (L : LL) (w : World) (e : Ending) (w' : World) : Prop := ∃ a c, e = .returned (.slice a (order L).length c) ∧ OwnK .i64 w.heap.size w' a (ints (order L)) ∧ Below w.heap.size w w'
end Au
set_option maxRecDepth 100000 in
set_option maxHeartbeats 2000000 in
theorem refLevels_tr {w : World} {la wa : Option Addr} {ln lc wn wc : Nat} {vs : List Value} {L : LL} (h : Rv w la ln vs L) (hI : Inv L) (hn : ln ≤ 1000) :
    Calls Try.prog 38 #[.agg #[.slice la ln lc, .slice wa wn wc]] w (LevsR L w) := by
  obtain ⟨i0, hi, hz0, hz1, hz2⟩ := info_parts Try.info_int
  have hb := box1T w (.cells #[.slice la ln lc, .slice wa wn wc] 25)
  have HB := Lib.hid hb
  have HT := Lib.hid (Tv.new w (.slice la ln lc) (.slice wa wn wc))
  have HR := Lib.hid (h.later hb)
  have HRL := Lib.hid h.rl
  obtain ⟨W, hW⟩ : ∃ W, w.alloc (.cells #[.slice la ln lc, .slice wa wn wc] 25) = W := ⟨_, rfl⟩
  rw [hW] at HB HT HR
  have HI := Lib.hid hI
  have HO0 := Lib.hid (World.ownsRow_nil W W.heap.size 3 1)
  have hln1 : 1 ≤ ln := by have := hI.pos; have := h.rl; omega
  clear h hb hI
  go_enter Try.func38, Try.ntmps38
  go_upto_region 1 with fail
  try rw [hW]
  clear hW
  go_wp2_with fail
  go_loopw [3, 4] (fun s3 s4 wr => ∃ d : Nat, d ≤ ln ∧ s4 = .int .i64 ((d + 1 : Nat) : Int) ∧ wr.ownsRow W.heap.size 3 1 s3 (levs L d).length ((ints (levs L d)).map (Value.int .i64)) ∧ Below W.heap.size W wr) (fun _ s4 _ => ln + 1 - (intOf s4).toNat)
  case atStart => exact ⟨0, Nat.zero_le _, rfl, HO0.out, Below.refl _ _⟩
  case round =>
    obtain ⟨d, hd, rfl, hrow, hb⟩ := hrel
    have HROW := Lib.hid hrow
    have HBr := Lib.hid hb
    obtain ⟨x0, x1⟩ := (HT.out.later hb).cells
    have hle := levs_le HI.out (show d ≤ L.length by rw [HRL.out]; exact hd)
    rw [HRL.out] at hle
    obtain ⟨D, hD⟩ : ∃ D, levs L d = D := ⟨_, rfl⟩
    rw [hD] at HROW hle
    obtain ⟨nd, hnd⟩ : ∃ nd, D.length = nd := ⟨_, rfl⟩
    rw [hnd] at HROW hle
    have HD := Lib.hid hD
    have HND := Lib.hid hnd
    obtain ⟨ra, rc, rfl⟩ := Tr.own_form HROW.out
    obtain ⟨z, hz⟩ : ∃ z : Int, ((d + 1 : Nat) : Int) = z := ⟨_, rfl⟩
    have HZ := Lib.hid hz
    rw [hz]
    have hzr : 0 ≤ z ∧ z ≤ 1001 := by omega
    have hlm : (ln : Int) - 1 = ((ln - 1 : Nat) : Int) := by omega
    obtain ⟨l1, hl1⟩ : ∃ l1, ln - 1 = l1 := ⟨_, rfl⟩
    have HL1 := Lib.hid hl1
    rw [hl1] at hlm hle
    by_cases hlt : nd < l1
    · have hltI : (nd : Int) < (l1 : Int) := by omega
      have hdl : d < ln := by
        rcases Nat.lt_or_ge d ln with h1 | h1
        · exact h1
        · exfalso
          have e1 : d = L.length := by rw [HRL.out]; omega
          have e2 := order_len HI.out
          have e3 : levs L d = order L := by rw [e1]; rfl
          rw [← hD, e3, e2, HRL.out] at hnd
          omega
      have HDL := Lib.hid hdl
      clear hrow hb hD hnd hz hl1
      go_wp2_with fail
      go_loopw [3, 5] (fun s3 s5 wx => ∃ i : Nat, i ≤ ln ∧ s5 = .int .i64 i ∧ wx.ownsRow W.heap.size 3 1 s3 (nd + (levN L (d + 1) i).length) ((ints (D ++ levN L (d + 1) i)).map (Value.int .i64)) ∧ Below W.heap.size W wx) (fun _ s5 _ => ln - (intOf s5).toNat)
      case atStart => exact ⟨0, Nat.zero_le _, rfl, by show wr.ownsRow _ _ _ _ (nd + 0) ((ints (D ++ [])).map _); rw [Nat.add_zero, List.append_nil]; exact HROW.out, HBr.out⟩
      case round =>
        obtain ⟨i, hi', rfl, hrow2, hb2⟩ := hrel
        have HROW2 := Lib.hid hrow2
        have HB2 := Lib.hid hb2
        have hsz := hb2.size
        obtain ⟨y0, y1⟩ := (HT.out.later hb2).cells
        by_cases hil : i < ln
        · have hiI : (i : Int) < (ln : Int) := by omega
          have hi0 : (0 : Int) ≤ (i : Int) := Int.natCast_nonneg _
          have hRr := HR.out.later hb2
          obtain ⟨ai, ci, e1, e2, e3, e4⟩ := hRr.each i hil
          have hcl : ∃ b o, la = some ⟨b, o, none⟩ ∧ wr.cell? ⟨b, o + i, none⟩ = some (.slice ai (L.getD i []).length ci) := by
            rcases hRr.cells with h0 | ⟨b, o, e, hc⟩
            · omega
            · exact ⟨b, o, e, by rw [hc i hil, e1]⟩
          obtain ⟨b, o, rfl, hc⟩ := hcl
          have HLS := Lib.hid (levN_succ L (d + 1) i)
          have hnl := levN_len L (d + 1) i
          obtain ⟨E, hE⟩ : ∃ E, levN L (d + 1) i = E := ⟨_, rfl⟩
          rw [hE] at HROW2 HLS hnl
          obtain ⟨ne, hne⟩ : ∃ ne, E.length = ne := ⟨_, rfl⟩
          rw [hne] at HROW2 hnl
          have HNE := Lib.hid hne
          obtain ⟨m, hm⟩ : ∃ m, dep L i = m := ⟨_, rfl⟩
          have hm2 : (L.getD i []).length = m := hm
          rw [hm2] at hc
          rw [hm] at HLS
          obtain ⟨k9, hk9⟩ : ∃ k9, nd + ne = k9 := ⟨_, rfl⟩
          rw [hk9] at HROW2
          have HK9 := Lib.hid hk9
          have hk91 : k9 ≤ 2000 := by omega
          clear hrow2 hb2 hRr e1 e2 e3 e4 hE hne hm hm2 hnl hk9
          by_cases hmd : m = d + 1
          · have hs := HLS.out
            rw [if_pos hmd] at hs
            have HS := Lib.hid hs
            have heq : ((m : Int) == z) = true := by rw [beq_iff_eq, ← HZ.out, hmd]
            clear hs HLS hmd
            obtain ⟨v3, c3, rfl⟩ := Tr.own_form HROW2.out
            go_wp2_with (at_builtin; refine wpList_append_lies _ rfl _ _ 29 rfl W.heap.size 3 i0 (.int .i64 0) 1 8 Try.underlying29 hi hz0 hz1 hz2 rfl (by decide) _ k9 _ rfl (HROW2.out.alloc _) ⟨wr.heap.size, 0, none⟩ 1 1 [.int .i64 i] rfl rfl (one_newT2 _ _ _) (by simp [Value.oneCell']) (by omega) (by unfold maxLen; omega) (by omega) (by simp; omega) _ rfl ?_; intro gg cc w5 hown hgrow hat _; have HOWN := Lib.hid hown; have HG := Lib.hid hgrow; clear hown hgrow hat)
            go_roundw
            case rel =>
              refine ⟨i + 1, by omega, by go_num, ?_, HB2.out.grown (grown_trans2 HG.out) hsz (fun j e => (HROW2.out.lt j e).1)⟩
              rw [HS.out, List.length_append, List.length_singleton, HNE.out, show nd + (ne + 1) = k9 + 1 by have := HK9.out; omega, ← List.append_assoc, ints_app (D ++ E) [i], List.map_append]
              exact HOWN.out
            case measure => simp [intOf]; omega
          · have hs := HLS.out
            rw [if_neg hmd] at hs
            have HS := Lib.hid hs
            have heq : ((m : Int) == z) = false := by rw [beq_eq_false_iff_ne, ← HZ.out]; omega
            clear hs HLS hmd
            obtain ⟨v3, c3, rfl⟩ := Tr.own_form HROW2.out
            go_wp2_with fail
            go_roundw
            case rel =>
              refine ⟨i + 1, by omega, by go_num, ?_, HB2.out⟩
              rw [HS.out, HNE.out, HK9.out]
              exact HROW2.out
            case measure => simp [intOf]; omega
        · obtain rfl : i = ln := by omega
          have hiI : ¬ (i : Int) < (i : Int) := by omega
          have HF : Hid (D ++ levN L (d + 1) i = levs L (d + 1)) := Lib.hid (by
            rw [← HD.out, levs]
            congr 1
            unfold levN lev
            rw [HRL.out])
          obtain ⟨v3, c3, rfl⟩ := Tr.own_form HROW2.out
          clear hrow2 hb2
          go_wp2_with fail
          go_roundw
          case rel =>
            refine ⟨d + 1, by have := HDL.out; omega, by rw [← HZ.out]; go_num, ?_, HB2.out⟩
            have h9 := HROW2.out
            have hl9 : (levs L (d + 1)).length = nd + (levN L (d + 1) i).length := by rw [← HF.out, List.length_append, HND.out]
            rw [hl9, ← HF.out]
            exact h9
          case measure => rw [← HZ.out]; simp [intOf]; omega
    · have hltI : ¬ (nd : Int) < (l1 : Int) := by omega
      have hfull : levs L d = order L := levs_full HI.out (by rw [HRL.out]; exact hd) (by rw [hD, hnd, HRL.out]; omega)
      have HF := Lib.hid hfull
      obtain ⟨ad, cp, e1, hown, _⟩ := ownK_row (show (ints D).length = nd by rw [ints_len2', hnd]) HROW.out
      injection e1 with e1 _ _
      subst e1
      have HOW := Lib.hid hown
      clear hrow hb hD hnd hz hl1 hfull hown
      go_wp2_with fail
      go_ret
      have e9 : (order L).length = nd := by rw [← HF.out, HD.out, HND.out]
      have e8 : ints (order L) = ints D := by rw [← HF.out, HD.out]
      exact ⟨ra, _, by rw [e9]; rfl, by rw [e8]; exact HOW.out.mono HB.out.size, bel_step HB.out HBr.out⟩
end Go.Proofs.Ytehmbnloplamaaa
