/- A node's words: by the document's tree. Condition: few words, of few numbers. -/
import Derived.Test.YtehmbnloplamaaaTrX
import Derived.Test.YtehmbnloplamaaaTrQ
import Derived.Test.YtehmbnloplamaaaTrE
namespace Go.Proofs.Ytehmbnloplamaaa
open Go.RowKit
set_option linter.unusedVariables false
open Tr
/-- the words among the first i that end at k -/
def Tr.wdsN (L W : LL) (k : Int) (i : Nat) : List Int := ((List.range i).filter fun j => decide (findV L (W.getD j []) = k)).map fun (j : Nat) => (j : Int)
theorem Tr.wdsN_succ (L W : LL) (k : Int) (i : Nat) : Tr.wdsN L W k (i + 1) = if findV L (W.getD i []) = k then Tr.wdsN L W k i ++ [(i : Int)] else Tr.wdsN L W k i := by
  unfold Tr.wdsN
  rw [List.range_succ, List.filter_append, List.map_append]
  by_cases e : findV L (W.getD i []) = k
  · rw [if_pos e, show List.filter (fun j => decide (findV L (W.getD j []) = k)) [i] = [i] by simp only [List.filter, decide_eq_true e]]; rfl
  · rw [if_neg e, show List.filter (fun j => decide (findV L (W.getD j []) = k)) [i] = [] by simp only [List.filter, decide_eq_false e]]; simp only [List.map_nil, List.append_nil]
theorem Tr.wdsN_len (L W : LL) (k : Int) (i : Nat) : (Tr.wdsN L W k i).length ≤ i := by
  unfold Tr.wdsN; rw [List.length_map]
  exact Nat.le_trans (List.length_filter_le _ _) (by simp)
set_option maxRecDepth 100000 in
set_option maxHeartbeats 2000000 in
theorem refWords_tr {w : World} {la wa : Option Addr} {ln lc wn wc : Nat} {vs us : List Value} {L V : LL} (h : Rv w la ln vs L) (hw : Rv w wa wn us V) (hn : ln ≤ 9223372036854775807) (hwn : wn ≤ 1000) (k : Int) :
    Calls Try.prog 36 #[.agg #[.slice la ln lc, .slice wa wn wc], .int .i64 k] w fun e w' => ∃ v, e = .returned v ∧ w'.ownsRow w.heap.size 3 1 v (wordsV L V k).length ((wordsV L V k).map (Value.int .i64)) ∧ Below w.heap.size w w' := by
  obtain ⟨i0, hi, hz0, hz1, hz2⟩ := info_parts Try.info_int
  have hb := box1T w (.cells #[.slice la ln lc, .slice wa wn wc] 25)
  have HB := Lib.hid hb
  have HT := Lib.hid (Tv.new w (.slice la ln lc) (.slice wa wn wc))
  have HR := Lib.hid (h.later hb)
  have HRW := Lib.hid (hw.later hb)
  have HVL := Lib.hid hw.rl
  obtain ⟨W, hW⟩ : ∃ W, w.alloc (.cells #[.slice la ln lc, .slice wa wn wc] 25) = W := ⟨_, rfl⟩
  rw [hW] at HB HT HR HRW
  have HO0 := Lib.hid (World.ownsRow_nil W W.heap.size 3 1)
  have HWE : Hid (wordsV L V k = Tr.wdsN L V k wn) := Lib.hid (by unfold wordsV Tr.wdsN; rw [HVL.out])
  rw [HWE.out]
  clear h hw hb
  go_enter Try.func36, Try.ntmps36
  go_upto_region 1 with fail
  try rw [hW]
  clear hW
  go_wp2_with fail
  go_loopw [5, 6] (fun s5 s6 wr => ∃ i : Nat, i ≤ wn ∧ s6 = .int .i64 i ∧ wr.ownsRow W.heap.size 3 1 s5 (Tr.wdsN L V k i).length ((Tr.wdsN L V k i).map (Value.int .i64)) ∧ Below W.heap.size W wr) (fun _ s6 _ => wn - (intOf s6).toNat)
  case atStart => exact ⟨0, Nat.zero_le _, rfl, HO0.out, Below.refl _ _⟩
  case round =>
    obtain ⟨i, hi', rfl, hrow, hb⟩ := hrel
    have HROW := Lib.hid hrow
    have HBr := Lib.hid hb
    have HSZ := Lib.hid hb.size
    obtain ⟨x0, x1⟩ := (HT.out.later hb).cells
    have ld := load_tv (HT.out.later hb)
    by_cases hlt : i < wn
    · have hltI : (i : Int) < (wn : Int) := by omega
      have hi0 : (0 : Int) ≤ (i : Int) := Int.natCast_nonneg _
      have hRr := HRW.out.later hb
      obtain ⟨ai, ci, e1, e2, e3, e4⟩ := hRr.each i hlt
      have hcl : ∃ b o, wa = some ⟨b, o, none⟩ ∧ wr.cell? ⟨b, o + i, none⟩ = some (.slice ai (V.getD i []).length ci) := by
        rcases hRr.cells with h0 | ⟨b, o, e, hc⟩
        · omega
        · exact ⟨b, o, e, by rw [hc i hlt, e1]⟩
      obtain ⟨b, o, rfl, hc⟩ := hcl
      have HFI := Lib.hid (fun W' (hb : Below wr.heap.size wr W') => find_tr (wa := some ⟨b, o, none⟩) (wn := wn) (wc := wc) (lc := lc) (pc := ci) (HR.out.later (bel_step HBr.out hb)) hn (e2.below hb) (by omega))
      have HSU := Lib.hid (Tr.wdsN_succ L V k i)
      have hdl := Tr.wdsN_len L V k i
      obtain ⟨m, hm⟩ : ∃ m, (V.getD i []).length = m := ⟨_, rfl⟩
      obtain ⟨x, hx⟩ : ∃ x, findV L (V.getD i []) = x := ⟨_, rfl⟩
      rw [hm] at HFI hc
      rw [hx] at HFI HSU
      obtain ⟨D, hD⟩ : ∃ D, Tr.wdsN L V k i = D := ⟨_, rfl⟩
      rw [hD] at HROW HSU hdl
      obtain ⟨nd, hnd⟩ : ∃ nd, D.length = nd := ⟨_, rfl⟩
      rw [hnd] at HROW hdl
      have HND := Lib.hid hnd
      clear hrow hb hRr e1 e2 e3 e4 hm hx hD hnd
      by_cases hxk : x = k
      · have hs := HSU.out
        rw [if_pos hxk] at hs
        have HS := Lib.hid hs
        subst hxk
        have e0 : (x == x) = true := by simp
        clear hs HSU
        go_wp2_with fail
        go_region_law (go_simp; go_at_call 48; refine (HFI.out _ ((Below.refl _ _).drew)).mono ?_; rintro e w9 ⟨rfl, hb9⟩; have HB9 := Lib.hid (bel_und hb9); clear hb9)
        all_goals
          have HROW9 := Lib.hid (own_of_block HROW.out fun g hg => HB9.out.block g (HROW.out.lt g hg).2)
          have hsz9 := Nat.le_trans HSZ.out HB9.out.size
          go_wp2_with (at_builtin; refine wpList_append_lies _ rfl _ _ 29 rfl W.heap.size 3 i0 (.int .i64 0) 1 8 Try.underlying29 hi hz0 hz1 hz2 rfl (by decide) _ nd _ rfl (HROW9.out.alloc _) ⟨w9.heap.size, 0, none⟩ 1 1 [.int .i64 i] rfl rfl (one_newT2 _ _ _) (by simp [Value.oneCell']) (by omega) (by unfold maxLen; omega) (by omega) (by simp; omega) _ rfl ?_; intro gg cc w5 hown hgrow hat _; have HOWN := Lib.hid hown; have HG := Lib.hid hgrow; clear hown hgrow hat)
          go_roundw
          case rel =>
            refine ⟨i + 1, by omega, by go_num, ?_, (bel_step HBr.out HB9.out).grown (grown_trans2 HG.out) hsz9 (fun j e => (HROW9.out.lt j e).1)⟩
            rw [HS.out, List.length_append, List.length_singleton, HND.out, List.map_append]
            exact HOWN.out
          case measure => simp [intOf]; omega
      · have hs := HSU.out
        rw [if_neg hxk] at hs
        have HS := Lib.hid hs
        have e0 : (x == k) = false := by simpa using hxk
        clear hs HSU
        go_wp2_with fail
        go_region_law (go_simp; go_at_call 48; refine (HFI.out _ ((Below.refl _ _).drew)).mono ?_; rintro e w9 ⟨rfl, hb9⟩; have HB9 := Lib.hid (bel_und hb9); clear hb9)
        all_goals
          have HROW9 := Lib.hid (own_of_block HROW.out fun g hg => HB9.out.block g (HROW.out.lt g hg).2)
          go_wp2_with fail
          go_roundw
          case rel =>
            refine ⟨i + 1, by omega, by go_num, ?_, bel_step HBr.out HB9.out⟩
            rw [HS.out, HND.out]
            exact HROW9.out
          case measure => simp [intOf]; omega
    · obtain rfl : i = wn := by omega
      have hltI : ¬ (i : Int) < (i : Int) := by omega
      clear hrow hb
      go_wp2
      go_ret
      exact ⟨_, rfl, ownsRow_base HROW.out HB.out.size, bel_step HB.out HBr.out⟩
end Go.Proofs.Ytehmbnloplamaaa
