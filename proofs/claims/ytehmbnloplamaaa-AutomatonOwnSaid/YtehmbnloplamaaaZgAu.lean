/- Layer 13: runs, ends, the document's automaton. Condition: as each theorem says: an automaton, a tree in memory. -/
import Derived.Test.YtehmbnloplamaaaAuC
import Derived.Test.YtehmbnloplamaaaAuLay
import Derived.Test.YtehmbnloplamaaaApp
import Derived.Shelf.Slices.In.SortNone
import Derived.Test.YtehmbnloplamaaaAuMath
import Derived.Test.YtehmbnloplamaaaTrX
import Derived.Test.YtehmbnloplamaaaTrQ
import Derived.Test.YtehmbnloplamaaaTrH
import Derived.Test.YtehmbnloplamaaaTrWr
import Derived.Test.YtehmbnloplamaaaAuA
import Derived.Deep.RegionHeld3
import Derived.Test.YtehmbnloplamaaaTrN
namespace Go.Proofs.Ytehmbnloplamaaa
open Go.RowKit Go.Shelf Go.Sort
set_option linter.unusedVariables false
open Tr Au
namespace Au
/-- the state behind the first i numbers -/
def st (L : LL) (k : Int) (l : List Int) : Nat → Int
  | 0 => k
  | i + 1 => nextV L (st L k l i) (l.getD i 0)
def runs (L : LL) (k : Int) (l : List Int) (i : Nat) : List Int := (List.range i).map fun j => st L k l (j + 1)
theorem runs_len (L : LL) (k : Int) (l : List Int) (i : Nat) : (runs L k l i).length = i := by simp [runs]
theorem runs_succ (L : LL) (k : Int) (l : List Int) (i : Nat) : runs L k l (i + 1) = runs L k l i ++ [st L k l (i + 1)] := by unfold runs; rw [List.range_succ, List.map_append, List.map_singleton]
theorem st_in {L : LL} (hI : Inv L) {k : Nat} (hk : k < L.length) (l : List Int) : ∀ i, ∃ m : Nat, st L k l i = (m : Int) ∧ m < L.length
  | 0 => ⟨k, rfl, hk⟩
  | i + 1 => by
    obtain ⟨m, e, hm⟩ := st_in hI hk l i
    refine ⟨_, ?_, deep_lt hI (L.getD m [] ++ [l.getD i 0])⟩
    show nextV L (st L k l i) _ = _
    rw [e, next_at hm]
def RunR (L : LL) (k : Int) (l : List Int) (w : World) (e : Ending) (w' : World) : Prop := ∃ a c, e = .returned (.slice a (if k < 0 ∨ (L.length : Int) ≤ k then 0 else l.length) c) ∧ OwnK .i64 w.heap.size w' a (if k < 0 ∨ (L.length : Int) ≤ k then [] else runs L k l l.length) ∧ Below w.heap.size w w'
end Au
set_option maxRecDepth 100000 in
set_option maxHeartbeats 2000000 in
theorem run_P {w : World} {B ab sb : Nat} {rv : Nat → Value} {L V : LL} (h : AuP w B ab sb rv L V) (hI : Iw L V) (k : Int) {a : Option Addr} {m c : Nat} {l : List Int} (hs : SlK .u64 w a m l) (hm9 : m ≤ 1000) :
    Calls Try.prog 24 #[.pointer (some ⟨ab, 0, none⟩), .int .i64 k, .slice a m c] w (RunR L k l w) := by
  by_cases hk : k < 0 ∨ (L.length : Int) ≤ k
  · have hc := has_no ab sb L.length k w hk (AuX.len9 h) (AuX.boxes h)
    have hR : ∀ e w', (∃ a c, e = Ending.returned (.slice a 0 c) ∧ OwnK .i64 w.heap.size w' a [] ∧ Below w.heap.size w w') → RunR L k l w e w' := fun e w' h => by unfold RunR; rw [if_pos hk, if_pos hk]; exact h
    refine Calls.mono ?_ hR
    clear h hI hk hs hR
    go_enter Try.func24, Try.ntmps24
    go_wp2_with (go_at_call 46; refine hc.mono ?_; rintro e w1 ⟨rfl, rfl⟩)
    go_ret
    exact ⟨none, 0, rfl, .inl rfl, Below.refl _ _⟩
  · obtain ⟨k', rfl, hk'⟩ := in_nat hk
    have hc := has_yes ab sb L.length k' w hk' (AuX.len9 h) (AuX.boxes h)
    obtain ⟨i0, hi, hz0, hz1, hz2⟩ := info_parts Try.info_int
    have hll := hs.1
    have hR : ∀ e w', (∃ a c, e = Ending.returned (.slice a m c) ∧ OwnK .i64 w.heap.size w' a (runs L k' l m) ∧ Below w.heap.size w w') → RunR L k' l w e w' := fun e w' h => by unfold RunR; rw [if_neg hk, if_neg hk, hll]; exact h
    refine Calls.mono ?_ hR
    have HP := Lib.hid h
    have HI := Lib.hid hI
    have HS := Lib.hid hs
    have HST := Lib.hid (st_in hI.inv hk' l)
    clear h hI hk hs hR hll hk'
    go_enter Try.func24, Try.ntmps24
    go_wp2_with (first
      | (go_at_call 46; refine hc.mono ?_; rintro e w1 ⟨rfl, rfl⟩)
      | (at_make; refine wpList_make_own _ rfl _ _ 29 rfl w.heap.size 3 i0 (.int .i64 0) 1 Try.underlying29 hi hz0 hz1 .i64 .i64 (m : Int) m rfl rfl rfl (by rw [hz2]; omega) (by unfold maxLen; omega) (Nat.le_refl _) ?_; intro w1 hown hgrow; have hb1 : Below w.heap.size w w1 := (Below.refl _ w).grown hgrow (Nat.le_refl _) (by simp); have HO := Lib.hid hown; have HB1 := Lib.hid hb1; clear hown hgrow hb1))
    go_loopw [19, 1, 7] (fun s19 s1 s7 wr => ∃ i : Nat, i ≤ m ∧ s19 = .int .i64 i ∧ s1 = .int .i64 (st L k' l i) ∧ wr.ownsRow w.heap.size 3 1 s7 i ((runs L k' l i).map (Value.int .i64)) ∧ Below w.heap.size w wr) (fun s19 _ _ _ => m - (intOf s19).toNat)
    case atStart => exact ⟨0, Nat.zero_le _, rfl, rfl, HO.out, HB1.out⟩
    case round =>
      obtain ⟨i, him, rfl, rfl, hrow, hb⟩ := hrel
      have HROW := Lib.hid hrow
      have HB := Lib.hid hb
      have hsz := hb.size
      by_cases hlt : i < m
      · have hltI : (i : Int) < (m : Int) := by omega
        have hi0 : (0 : Int) ≤ (i : Int) := Int.natCast_nonneg _
        obtain ⟨b, o, rfl, hcell⟩ := slk_at (HS.out.below hb) (by omega)
        have hcl := hcell i hlt
        obtain ⟨j, hj, hjl⟩ := HST.out i
        have HBE := Lib.hid (behind_P (HP.out.later hb) HI.out hjl (l.getD i 0))
        have HRS := Lib.hid (runs_succ L k' l i)
        have HNX : Hid (nextV L j (l.getD i 0) = st L k' l (i + 1)) := Lib.hid (by rw [← hj]; rfl)
        rw [HNX.out] at HBE
        rw [hj]
        obtain ⟨z, hz⟩ : ∃ z, st L k' l (i + 1) = z := ⟨_, rfl⟩
        rw [hz] at HBE HRS
        have HZ := Lib.hid hz
        obtain ⟨p, hp⟩ : ∃ p, l.getD i 0 = p := ⟨_, rfl⟩
        rw [hp] at hcl HBE
        clear hrow hb hcell hj hjl hz hp HNX
        go_wp2_with (first
          | (go_at_call 47; refine HBE.out.mono ?_; rintro e w5 ⟨rfl, hb5⟩; have HB5 := Lib.hid (bel_step HB.out hb5); have HROW5 := Lib.hid (own_of_block HROW.out fun g hg => hb5.block g (HROW.out.lt g hg).2); have hsz5 := HB5.out.size; clear hb5)
          | (at_builtin; refine wpList_append_lies _ rfl _ _ 29 rfl w.heap.size 3 i0 (.int .i64 0) 1 8 Try.underlying29 hi hz0 hz1 hz2 rfl (by decide) _ i _ rfl (HROW5.out.alloc _) ⟨w5.heap.size, 0, none⟩ 1 1 [.int .i64 z] rfl rfl (one_newT2 _ _ _) (by simp [Value.oneCell']) (by omega) (by unfold maxLen; omega) (by omega) (by simp; omega) _ rfl ?_; intro gg cc w6 hown hgrow hat _; have HOWN := Lib.hid hown; have HG := Lib.hid hgrow; clear hown hgrow hat))
        go_roundw
        case rel =>
          refine ⟨i + 1, by omega, by go_num, by rw [HZ.out], ?_, HB5.out.grown (grown_trans2 HG.out) hsz5 (fun j e => (HROW5.out.lt j e).1)⟩
          rw [HRS.out, List.map_append]
          exact HOWN.out
        case measure => simp [intOf]; omega
      · obtain rfl : i = m := by omega
        have hltI : ¬ (i : Int) < (i : Int) := by omega
        obtain ⟨ra, rc, rfl, hown, _⟩ := ownK_row (runs_len L k' l i) HROW.out
        have HOW := Lib.hid hown
        clear hrow hb hown
        go_wp2
        go_ret
        exact ⟨ra, ⟨rc, rfl⟩, HOW.out, HB.out⟩
theorem sort_int (blk off cap : Nat) (zs : List Int) (w : World) (hH : Holds (Value.int .i64) w blk off zs.toArray) (hblk : blk < w.heap.size) (hsz : zs.length < 4611686018427387904) :
    Calls Try.prog 45 #[.slice (some ⟨blk, off, none⟩) zs.length cap] w fun e w' =>
      e = .returned (.tuple #[]) ∧ ∃ n os, w' = grow (putRow (Value.int .i64) (Go.Sort.ahead w n) blk off (zs.mergeSort fun x y => decide (x ≤ y)).toArray) os :=
  Any.slices_Sort_int Ly.lays189 blk off cap zs w hH hblk hsz
theorem sort_int_none (a : Option Addr) (cap : Nat) (w : World) : Calls Try.prog 45 #[.slice a 0 cap] w fun e w' => e = .returned (.tuple #[]) ∧ w' = w :=
  Any.slices_Sort_int_none Ly.lays189 a cap w
/-- a row of numbers of the call's own, sorted -/
theorem sort_own {w0 w : World} {a : Option Addr} {n cap : Nat} {zs : List Int} (ho : w.ownsRow w0.heap.size 3 1 (.slice a n cap) n (zs.map (Value.int .i64))) (hb : Below w0.heap.size w0 w) (hn : n ≤ 1000) :
    Calls Try.prog 45 #[.slice a n cap] w fun e w' => e = .returned (.tuple #[]) ∧ OwnK .i64 w0.heap.size w' a (zs.mergeSort fun x y => decide (x ≤ y)) ∧ Below w0.heap.size w0 w' := by
  have hzl := ho.1
  rw [List.length_map, Nat.mul_one] at hzl
  by_cases h0 : n = 0
  · have hz : zs = [] := List.eq_nil_of_length_eq_zero (by omega)
    subst hz
    rw [h0]
    refine (sort_int_none a cap w).mono ?_
    rintro e w' ⟨he, rfl⟩
    exact ⟨he, .inl (by simp), hb⟩
  · obtain ⟨g, c', ev, hg1, hg2⟩ := ho.form (by omega)
    injection ev with e1 e2 e3
    subst e1
    have hcell := fun i (hi : i < n) => ints_cell ho hi
    have hfr := fun i => ho.frozenAt i
    obtain ⟨hl1, hl2⟩ := ho.lt g rfl
    have hH : Holds (Value.int .i64) w g 0 zs.toArray := fun j hj => by
      have hj' : j < zs.length := by simpa using hj
      rw [getElem!_pos _ j hj, Nat.zero_add]
      refine ⟨?_, hfr j⟩
      rw [hcell j (by omega), gD hj']; simp
    have := sort_int g 0 cap zs w hH hl2 (by omega)
    rw [hzl] at this
    refine this.mono ?_
    rintro e w' ⟨he, q, os, hw⟩
    have hw2 : w' = sortWorld (Value.int .i64) w g 0 q (zs.mergeSort fun x y => decide (x ≤ y)).toArray os := hw
    have hml : (zs.mergeSort fun x y => decide (x ≤ y)).length = n := by rw [List.length_mergeSort]; exact hzl
    have hSW : SW (Value.int .i64) w g 0 (zs.mergeSort fun x y => decide (x ≤ y)).toArray w' := ⟨q, os, hw2⟩
    refine ⟨he, .inr ⟨g, rfl, hl1, ?_, fun i hi => ?_, fun i => ?_⟩, ?_⟩
    · rw [hw2]; exact Nat.lt_of_lt_of_le hl2 (sw_size _ _ _ _ _ _)
    · have h9 := (hSW.holds hl2 hH (by simp [hml, hzl]) i (by simpa using hi)).1
      rw [Nat.zero_add] at h9
      rw [h9, getElem!_pos _ i (by simpa using hi), gD hi]; simp
    · rw [hw2, sw_frozen hl2]; exact hfr i
    · rw [hw2]; exact sw_below hb hl1
end Go.Proofs.Ytehmbnloplamaaa

namespace Go.Proofs.Ytehmbnloplamaaa
open Go.RowKit Go.Shelf
set_option linter.unusedVariables false
open Tr Au
namespace Au
/-- what is still to be told from a state on -/
def restV (L V : LL) (z : Int) : List Int := if z < 0 then [] else chain V (L.getD z.toNat [])
theorem rest_node {L V : LL} (hI : Iw L V) (l : List Int) : restV L V (nodeV L (lnk V l)) = chain V l := by
  rcases node_in (fun x hx => (hI.ws x hx).1) l with h | ⟨e, h, _, he, _, _⟩
  · have hn : lnk V l = [] := by
      apply Classical.byContradiction
      intro hn
      unfold nodeV at h
      rw [if_neg hn] at h
      omega
    rw [h, chain_lnk, hn]; rfl
  · rw [h]
    unfold restV
    rw [if_neg (by omega), Int.toNat_natCast, he, ← chain_lnk]
/-- where a state is that something ends at -/
def Zs (L : LL) (z : Int) : Prop := z = -1 ∨ ∃ e : Nat, z = (e : Int) ∧ e < L.length ∧ L.getD e [] ≠ []
theorem node_zs {L V : LL} (hI : Iw L V) (l : List Int) : Zs L (nodeV L (lnk V l)) := by
  rcases node_in (fun x hx => (hI.ws x hx).1) l with h | ⟨e, h, h1, he, _, h2⟩
  · exact .inl h
  · exact .inr ⟨e, h, h1, by rw [he]; exact h2⟩
theorem node_dep {L V : LL} (hI : Iw L V) (l : List Int) {m : Nat} (h : l.length < m) : depM L (nodeV L (lnk V l)) < m + 1 := by
  rcases node_in (fun x hx => (hI.ws x hx).1) l with h1 | ⟨e, h1, _, he, _, _⟩
  · rw [h1, depM_neg]; omega
  · rw [h1, depM_nat]
    unfold dep
    rw [he]
    have := (lnk_suffix V l).length_le
    omega
def EndsR (L V : LL) (k : Int) (w : World) (e : Ending) (w' : World) : Prop := ∃ a c, e = .returned (.slice a (finV L V k).length c) ∧ OwnK .i64 w.heap.size w' a (finV L V k) ∧ Below w.heap.size w w'
end Au
set_option maxRecDepth 100000 in
set_option maxHeartbeats 2000000 in
theorem ends_P {w : World} {B ab sb : Nat} {rv : Nat → Value} {L V : LL} (h : AuP w B ab sb rv L V) (hI : Iw L V) (hVl : V.length ≤ 1000) (k : Int) :
    Calls Try.prog 18 #[.pointer (some ⟨ab, 0, none⟩), .int .i64 k] w (EndsR L V k w) := by
  obtain ⟨i0, hi, hz0, hz1, hz2⟩ := info_parts Try.info_int
  have hV0 : [] ∉ V := fun h0 => (hI.ws [] h0).2 rfl
  obtain ⟨P, hP⟩ : ∃ P, (if k < 0 ∨ (L.length : Int) ≤ k then [] else L.getD k.toNat []) = P := ⟨_, rfl⟩
  have hfin : (chain V P).mergeSort (fun x y => decide (x ≤ y)) = finV L V k := by
    rw [← hP]
    unfold finV
    by_cases hk : k < 0 ∨ (L.length : Int) ≤ k
    · rw [if_pos hk, if_pos hk]; simp [chain]
    · rw [if_neg hk, if_neg hk, sort_chain hV0]
  have hstart : Zs L (endV L V k) ∧ restV L V (endV L V k) = chain V P := by
    rw [← hP]
    unfold endV
    by_cases hk : k < 0 ∨ (L.length : Int) ≤ k
    · rw [if_pos hk, if_pos hk]; exact ⟨.inl rfl, rfl⟩
    · rw [if_neg hk, if_neg hk]; exact ⟨node_zs hI _, rest_node hI _⟩
  have hcl : (chain V P).length ≤ 1000 := Nat.le_trans (chain_len hV0 P) hVl
  have HF := Lib.hid hfin
  have HST := Lib.hid hstart
  have HCL := Lib.hid hcl
  have HP := Lib.hid h
  have HI := Lib.hid hI
  have HE := Lib.hid (end_P h hI k)
  have HO0 := Lib.hid (fun W : World => World.ownsRow_nil W w.heap.size 3 1)
  have hL9 := AuX.len9 h
  obtain ⟨C, hC⟩ : ∃ C, chain V P = C := ⟨_, rfl⟩
  rw [hC] at HF HST HCL
  obtain ⟨z0, hz⟩ : ∃ z, endV L V k = z := ⟨_, rfl⟩
  rw [hz] at HE HST
  clear h hI hV0 hP hfin hstart hcl hC hz hVl
  go_enter Try.func18, Try.ntmps18
  go_wp2_with (go_at_call 44; refine HE.out.mono ?_; rintro e w1 ⟨rfl, hb⟩; have HB1 := Lib.hid hb; clear hb)
  go_loopw [6, 5] (fun s6 s5 wr => ∃ (z : Int) (acc : List Int), s6 = .int .i64 z ∧ Zs L z ∧ acc ++ restV L V z = C ∧ wr.ownsRow w.heap.size 3 1 s5 acc.length (acc.map (Value.int .i64)) ∧ Below w.heap.size w wr) (fun s6 _ _ => depM L (intOf s6))
  case atStart => exact ⟨z0, [], rfl, HST.out.1, HST.out.2, HO0.out _, HB1.out⟩
  case round =>
    obtain ⟨z, acc, rfl, hzs, hac, hrow, hb⟩ := hrel
    have HROW := Lib.hid hrow
    have HB := Lib.hid hb
    have hsz := hb.size
    have hacl : acc.length ≤ 1000 := by have := congrArg List.length hac; rw [List.length_append] at this; have := HCL.out; omega
    have HAC := Lib.hid hac
    rcases hzs with rfl | ⟨e, rfl, he, hne⟩
    · have hCa : acc = C := by have := hac; unfold restV at this; rwa [if_pos (by omega), List.append_nil] at this
      obtain ⟨n, hn⟩ : ∃ n, acc.length = n := ⟨_, rfl⟩
      rw [hn] at HROW hacl
      obtain ⟨a, c, rfl⟩ := Tr.own_form HROW.out
      have HSO := Lib.hid (sort_own HROW.out hb hacl)
      have HCA := Lib.hid hCa
      have HNL : Hid (n = (finV L V k).length) := Lib.hid (by rw [← hn, hCa, ← HF.out, List.length_mergeSort])
      clear hrow hb hac hCa hn
      go_wp2_with (go_at_call 45; refine HSO.out.mono ?_; rintro e w5 ⟨rfl, hown, hb5⟩; have HOW := Lib.hid hown; have HB5 := Lib.hid hb5; clear hown hb5)
      go_ret
      have h9 := HOW.out
      rw [HCA.out, HF.out] at h9
      exact ⟨a, c, by rw [← HNL.out]; rfl, h9, HB5.out⟩
    · have hA := AuX.later HP.out hb
      have b0 := hA.boxes
      obtain ⟨c0, c1, c2, c3, c4⟩ := hA.cells he
      obtain ⟨wa, wc, ev⟩ := hA.form (i := 2 * e + 2) (by omega) (by omega)
      have hwr := hA.rows (2 * e + 2) (by omega) (by omega)
      rw [ev, data_words] at hwr
      rw [ev, data_words] at c4
      have hss : SlK .i64 wr wa (wordsV L V e).length (wordsV L V e) := by
        obtain ⟨ad, cp, e1, hO, _⟩ := ownK_row rfl hwr
        injection e1 with e1 _ _
        subst e1
        exact hO.sl
      have hsame := same_words HI.out.inv he (W := V)
      have hch := chain_step (W := V) hne
      have hnl : restV L V (linkV L V e) = chain V (L.getD e []).tail := by rw [link_at he, rest_node HI.out]
      have hac2 : (acc ++ wordsV L V e) ++ restV L V (linkV L V e) = C := by
        rw [← hac, hnl, hsame, List.append_assoc, ← hch]
        unfold restV
        rw [if_neg (by omega), Int.toNat_natCast]
      have hwl : acc.length + (wordsV L V e).length ≤ 1000 := by have := congrArg List.length hac2; rw [List.length_append, List.length_append] at this; have := HCL.out; omega
      have hzs2 : Zs L (linkV L V e) := by rw [link_at he]; exact node_zs HI.out _
      have hdm : depM L (linkV L V e) < depM L (e : Int) := by
        rw [link_at he, depM_nat]
        refine node_dep HI.out _ ?_
        have := List.length_pos_iff.2 hne
        unfold dep
        rw [List.length_tail]; omega
      have HLK := Lib.hid (fun w' (hb' : Below w.heap.size w w') => link_P (HP.out.later hb') HI.out (e : Int))
      have HAC2 := Lib.hid hac2
      have HZS2 := Lib.hid hzs2
      have HDM := Lib.hid hdm
      have HSS := Lib.hid hss
      have HA := Lib.hid hA
      obtain ⟨ws, hws⟩ : ∃ ws, wordsV L V e = ws := ⟨_, rfl⟩
      rw [hws] at HAC2 HSS c4 hwl
      obtain ⟨y, hy⟩ : ∃ y, linkV L V e = y := ⟨_, rfl⟩
      rw [hy] at HAC2 HZS2 HDM HLK
      obtain ⟨na, hna⟩ : ∃ na, acc.length = na := ⟨_, rfl⟩
      obtain ⟨nw, hnw⟩ : ∃ nw, ws.length = nw := ⟨_, rfl⟩
      rw [hna] at HROW hwl
      rw [hnw] at HSS c4 hwl
      have HNA := Lib.hid (show (acc ++ ws).length = na + nw by rw [List.length_append, hna, hnw])
      have heI : (e : Int) < (L.length : Int) := by omega
      have he0 : (0 : Int) ≤ (e : Int) := Int.natCast_nonneg _
      have hne1 : ((e : Int) != -1) = true := by rw [bne_iff_ne]; omega
      clear hrow hb hac hA c0 c1 c2 c3 ev hwr hss hsame hch hnl hac2 hzs2 hdm hws hy hna hnw hne
      go_wp2_with (first
        | (at_builtin; refine wpList_app rfl _ _ 29 rfl w.heap.size 3 i0 .i64 8 Try.underlying29 hi hz0 hz1 hz2 _ na _ rfl HROW.out wa nw wc ws rfl HSS.out (by unfold maxLen; omega) (by omega) hsz ?_; intro v5 w5 hown hgrow _; have HOWN := Lib.hid hown; have HB5 := Lib.hid (HB.out.grown hgrow hsz (fun j e => (HROW.out.lt j e).1)); have HG5 := Lib.hid hgrow; clear hown hgrow)
        | (go_at_call 15; refine (HLK.out _ HB5.out).mono ?_; rintro e w6 ⟨rfl, hb6⟩; have HB6 := Lib.hid hb6; clear hb6))
      go_roundw
      case rel =>
        refine ⟨y, acc ++ ws, rfl, HZS2.out, HAC2.out, ?_, bel_step HB5.out HB6.out⟩
        rw [HNA.out, List.map_append]
        exact own_of_block HOWN.out fun g hg => HB6.out.block g (HOWN.out.lt g hg).2
      case measure => exact HDM.out
end Go.Proofs.Ytehmbnloplamaaa

namespace Go.Proofs.Ytehmbnloplamaaa
open Go.RowKit
set_option linter.unusedVariables false
open Tr Au
namespace Au
theorem suf_drop {L : LL} {l : List Int} {n : Nat} : ∀ d, n + d ≤ l.length → (∀ j, n < j → j ≤ n + d → l.drop (l.length - j) ∉ L) → suf L (l.drop (l.length - (n + d))) = suf L (l.drop (l.length - n))
  | 0, _, _ => rfl
  | d + 1, h, ha => by
    rw [← suf_drop d (by omega) (fun j h1 h2 => ha j h1 (by omega))]
    have hlt : l.length - (n + (d + 1)) < l.length := by omega
    have hn := ha (n + (d + 1)) (by omega) (Nat.le_refl _)
    rw [List.drop_eq_getElem_cons hlt] at hn ⊢
    rw [suf_out hn, show l.length - (n + (d + 1)) + 1 = l.length - (n + d) by omega]
theorem deep_hit {L : LL} {l : List Int} {n m : Nat} (hm : m ≤ l.length) (hn : n ≤ m) (hin : l.drop (l.length - n) ∈ L) (ha : ∀ j, n < j → j ≤ m → l.drop (l.length - j) ∉ L) : (deep L (l.drop (l.length - m)) : Int) = findV L (l.drop (l.length - n)) := by
  have := suf_drop (L := L) (l := l) (n := n) (m - n) (by omega) (fun j h1 h2 => ha j h1 (by omega))
  rw [show n + (m - n) = m by omega] at this
  unfold deep
  rw [this, suf_self hin, findV_mem hin]
end Au
theorem slk_drop {w : World} {b o n k : Nat} {l : List Int} (h : SlK .u64 w (some ⟨b, o, none⟩) n l) (hk : k < n) : SlK .u64 w (some ⟨b, o + k, none⟩) (n - k) (l.drop k) := by
  have hl := h.1
  refine ⟨by rw [List.length_drop]; omega, .inr ⟨b, o + k, rfl, fun i hi => ?_⟩⟩
  rcases h.2 with h2 | ⟨b', o', e, hc⟩
  · omega
  · cases e
    rw [Nat.add_assoc, hc (k + i) (by omega), gD (by omega), gD (by rw [List.length_drop]; omega), List.getElem_drop]
set_option maxRecDepth 100000 in
set_option maxHeartbeats 1000000 in
theorem deepest_tr {w : World} {la wa pa : Option Addr} {ln lc wn wc pn pc : Nat} {vs : List Value} {L : LL} {p : List Int} (h : Rv w la ln vs L) (hI : Inv L) (hn : ln ≤ 9223372036854775807) (hp : SlK .u64 w pa pn p) (hpc : pn ≤ pc) (hpc9 : pc ≤ 9223372036854775807) {m : Nat} (hm : m ≤ pn) :
    Calls Try.prog 25 #[.agg #[.slice la ln lc, .slice wa wn wc], .slice pa pn pc, .int .i64 m] w fun e w' => e = .returned (.int .i64 (deep L (p.drop (p.length - m)) : Nat)) ∧ Below w.heap.size w w' := by
  have hpl := hp.1
  have HF : Hid (∀ (w' : World) (hb : Below w.heap.size w w') (k : Nat), 0 < k → k ≤ pn → ∃ b o, pa = some ⟨b, o, none⟩ ∧ Calls Try.prog 48 #[.agg #[.slice la ln lc, .slice wa wn wc], .slice (some ⟨b, o + (pn - k), none⟩) k (pc - (pn - k))] w' fun e w'' => e = .returned (.int .i64 (findV L (p.drop (p.length - k)))) ∧ Below w'.heap.size w' w'') := Lib.hid fun w' hb k h0 hk => by
    obtain ⟨b, o, rfl, _⟩ := slk_at hp (by omega)
    refine ⟨b, o, rfl, ?_⟩
    have hd := slk_drop (k := pn - k) hp (by omega)
    rw [show pn - (pn - k) = k by omega] at hd
    rw [hpl]
    exact find_tr (wa := wa) (wn := wn) (wc := wc) (lc := lc) (pc := pc - (pn - k)) (h.later hb) hn (hd.below hb) (by omega)
  have HHIT := Lib.hid (fun (k : Nat) (hk : k ≤ m) (hin : p.drop (p.length - k) ∈ L) (ha : ∀ j, k < j → j ≤ m → p.drop (p.length - j) ∉ L) => deep_hit (L := L) (l := p) (n := k) (m := m) (by omega) hk hin ha)
  have HPL := Lib.hid hpl
  have HI := Lib.hid hI
  have hb := box1T w (.cells #[.slice la ln lc, .slice wa wn wc] 25)
  have HB0 := Lib.hid hb
  have HT := Lib.hid (Tv.new w (.slice la ln lc) (.slice wa wn wc))
  obtain ⟨W, hW⟩ : ∃ W, w.alloc (.cells #[.slice la ln lc, .slice wa wn wc] 25) = W := ⟨_, rfl⟩
  rw [hW] at HB0 HT
  obtain ⟨T, hTT⟩ : ∃ T : Int, ((deep L (p.drop (p.length - m)) : Nat) : Int) = T := ⟨_, rfl⟩
  rw [hTT] at HHIT ⊢
  have hmI : (m : Int) ≤ (pn : Int) := by omega
  have hmI2 : ¬ (pn : Int) < (m : Int) := by omega
  have hmin : min (pn : Int) (m : Int) = (m : Int) := by omega
  clear h hI hp hb hpl hTT
  go_enter Try.func25, Try.ntmps25
  go_upto_region 1 with fail
  try rw [hW]
  clear hW
  go_wp2_with fail
  go_loopw [7] (fun s7 wr => ∃ k : Nat, k ≤ m ∧ s7 = .int .i64 k ∧ (∀ j, k < j → j ≤ m → p.drop (p.length - j) ∉ L) ∧ Below W.heap.size W wr) (fun s7 _ => (intOf s7).toNat)
  case atStart => exact ⟨m, Nat.le_refl _, rfl, fun j h1 h2 => by omega, Below.refl _ _⟩
  case round =>
    obtain ⟨k, hk, rfl, hno, hb⟩ := hrel
    have HNO := Lib.hid hno
    have HB := Lib.hid ((HB0.out.trans (hb.mono HB0.out.size)))
    have HBW := Lib.hid hb
    obtain ⟨x0, x1⟩ := (HT.out.later hb).cells
    have hbl := load_tv (HT.out.later hb)
    by_cases hlt : 0 < k
    · have hltI : (0 : Int) < (k : Int) := by omega
      have hk0 : (0 : Int) ≤ (k : Int) := Int.natCast_nonneg _
      obtain ⟨b, o, rfl, _⟩ := HF.out w (Below.refl _ _) k hlt (by omega)
      have hfi : ∀ W', Below wr.heap.size wr W' → Calls Try.prog 48 #[.agg #[.slice la ln lc, .slice wa wn wc], .slice (some ⟨b, o + (pn - k), none⟩) k (pc - (pn - k))] W' fun e w'' => e = .returned (.int .i64 (findV L (p.drop (p.length - k)))) ∧ Below W'.heap.size W' w'' := fun W' hb' => by
        obtain ⟨b', o', e, hc⟩ := HF.out W' (bel_step HB.out hb') k hlt (by omega)
        cases e
        exact hc
      obtain ⟨q, hq⟩ : ∃ q, pn - k = q := ⟨_, rfl⟩
      have hq1 : (pn : Int) - (k : Int) = (q : Int) := by omega
      have hq2 : IntKind.i64.wrap (q : Int) = (q : Int) := by simp [IntKind.wrap, IntKind.bits, IntKind.signed]; omega
      have hq3 : pn - q = k := by omega
      have hq4 : ¬ pc = q := by omega
      have hq5 : (q : Int) ≤ (pn : Int) := by omega
      have hq6 : (0 : Int) ≤ (q : Int) := Int.natCast_nonneg _
      have hq7 : (q : Int) ≤ (pc : Int) := by omega
      have hq8 : q ≤ pn := by omega
      rw [hq] at hfi
      have HNE : Hid (p.drop (p.length - k) ∉ L → findV L (p.drop (p.length - k)) = -1) := Lib.hid findV_not
      have HPO : Hid (p.drop (p.length - k) ∈ L → 0 ≤ findV L (p.drop (p.length - k))) := Lib.hid findV_pos.2
      have HH := Lib.hid (HHIT.out k hk)
      obtain ⟨x, hx⟩ : ∃ x, findV L (p.drop (p.length - k)) = x := ⟨_, rfl⟩
      rw [hx] at hfi HNE HPO HH
      have HX := Lib.hid hx
      have HFI := Lib.hid hfi
      clear hfi hx hno hb hq
      by_cases hm' : p.drop (p.length - k) ∈ L
      · have h0 := HPO.out hm'
        have hkn := HH.out hm' (fun j h1 h2 => HNO.out j h1 h2)
        have HKN := Lib.hid hkn
        clear hm' hkn
        go_wp2_with fail
        go_region_law (go_simp; go_at_call 48; refine (HFI.out _ ((Below.refl _ _).drew)).mono ?_; rintro e w9 ⟨rfl, hb9⟩; have HB9 := Lib.hid (bel_step HB.out (bel_und hb9)); clear hb9)
        all_goals
          go_wp2_with fail
          go_ret
          exact ⟨congrArg (fun z : Int => Ending.returned (.int .i64 z)) HKN.out.symm, HB9.out⟩
      · have hx1 := HNE.out hm'
        have h0 : ¬ (0 : Int) ≤ x := by omega
        have HM := Lib.hid hm'
        clear hm' hx1
        go_wp2_with fail
        go_region_law (go_simp; go_at_call 48; refine (HFI.out _ ((Below.refl _ _).drew)).mono ?_; rintro e w9 ⟨rfl, hb9⟩; have HB9 := Lib.hid (bel_step HBW.out (bel_und hb9)); clear hb9)
        all_goals
          go_wp2_with fail
          go_roundw
          case rel =>
            refine ⟨k - 1, by omega, ?_, fun j h1 h2 => ?_, HB9.out⟩
            · exact congrArg (Value.int IntKind.i64) (by omega)
            · by_cases e : j = k
              · subst e; exact HM.out
              · exact HNO.out j (by omega) h2
          case measure => simp only [intOf]; omega
    · obtain rfl : k = 0 := by omega
      have hltI : ¬ (0 : Int) < ((0 : Nat) : Int) := by omega
      have hd0 : p.drop (p.length - 0) = [] := by rw [Nat.sub_zero]; exact List.drop_length
      have hkn := HHIT.out 0 (Nat.zero_le _) (by rw [hd0]; exact HI.out.nil) (fun j h1 h2 => hno j h1 h2)
      rw [hd0] at hkn
      have e : findV L [] = 0 := findV_hit (k := 0) HI.out.pos HI.out.root (fun j hj => by omega)
      rw [e] at hkn
      have HE := Lib.hid hkn
      clear hno hb hkn e
      go_wp2
      go_ret
      exact ⟨congrArg (fun z : Int => Ending.returned (.int .i64 z)) HE.out.symm, HB.out⟩
end Go.Proofs.Ytehmbnloplamaaa

namespace Go.Proofs.Ytehmbnloplamaaa
open Go.RowKit
set_option linter.unusedVariables false
open Tr Au
theorem refIn_tr {w : World} {la wa : Option Addr} {ln lc wn wc : Nat} (hn : ln ≤ 9223372036854775807) (k : Int) :
    Calls Try.prog 42 #[.agg #[.slice la ln lc, .slice wa wn wc], .int .i64 k] w fun e w' => e = .returned (.bool (decide (0 ≤ k ∧ k < ln))) ∧ Below w.heap.size w w' := by
  have hb := box1T w (.cells #[.slice la ln lc, .slice wa wn wc] 25)
  have HB := Lib.hid hb
  have HT := Lib.hid (Tv.new w (.slice la ln lc) (.slice wa wn wc))
  obtain ⟨W, hW⟩ : ∃ W, w.alloc (.cells #[.slice la ln lc, .slice wa wn wc] 25) = W := ⟨_, rfl⟩
  rw [hW] at HB HT
  obtain ⟨x0, x1⟩ := HT.out.cells
  clear hb
  by_cases h1 : k < 0
  · have e : decide (0 ≤ k ∧ k < (ln : Int)) = false := by rw [decide_eq_false_iff_not]; omega
    rw [e]
    clear e
    have h1' : ¬ 0 ≤ k := by omega
    go_enter Try.func42, Try.ntmps42
    go_upto_region 1 with fail
    try rw [hW]
    clear hW
    go_wp2
    go_ret
    refine ⟨?_, HB.out⟩
    simp
  · by_cases h2 : (ln : Int) ≤ k
    · have e : decide (0 ≤ k ∧ k < (ln : Int)) = false := by rw [decide_eq_false_iff_not]; omega
      rw [e]
      clear e
      have h2' : ¬ k < (ln : Int) := by omega
      go_enter Try.func42, Try.ntmps42
      go_upto_region 1 with fail
      try rw [hW]
      clear hW
      go_wp2
      go_ret
      refine ⟨?_, HB.out⟩
      simp
    · have e : decide (0 ≤ k ∧ k < (ln : Int)) = true := by rw [decide_eq_true_iff]; omega
      rw [e]
      clear e
      have h2' : k < (ln : Int) := by omega
      have h1' : 0 ≤ k := by omega
      go_enter Try.func42, Try.ntmps42
      go_upto_region 1 with fail
      try rw [hW]
      clear hW
      go_wp2
      go_ret
      refine ⟨?_, HB.out⟩
      simp
set_option maxRecDepth 100000 in
set_option maxHeartbeats 1000000 in
theorem refLast_tr {w : World} {a b : Option Addr} {n m ca cb : Nat} {l p : List Int} (hl : SlK .u64 w a n l) (hp : SlK .u64 w b m p) (hm : 0 < m) (hn : n ≤ ca) (hca : ca ≤ 9223372036854775807) (hcb : m ≤ 9223372036854775807) :
    Calls Try.prog 26 #[.slice a n ca, .slice b m cb] w fun e w' => e = .returned (.bool (decide (p <:+ l))) ∧ Below w.heap.size w w' := by
  have hll := hl.1
  have hpl := hp.1
  by_cases h1 : m ≤ n
  · obtain ⟨g, o, rfl, _⟩ := slk_at hl (by omega)
    obtain ⟨q, hq⟩ : ∃ q, n - m = q := ⟨_, rfl⟩
    have hd := slk_drop (k := q) hl (by omega)
    rw [show n - q = m by omega] at hd
    have hSR := Su.sameRow_any (some ⟨g, o + q, none⟩) b m m (ca - q) cb (l.drop q) p w (by omega) hd hp
    have e : decide (l.drop q = p) = decide (p <:+ l) := by
      rw [decide_eq_decide, List.suffix_iff_eq_drop, hll, hpl, hq]
      exact ⟨fun h => h.symm, fun h => h.symm⟩
    rw [e] at hSR
    have HSR := Lib.hid hSR
    have hq1 : (n : Int) - (m : Int) = (q : Int) := by omega
    have hq2 : IntKind.i64.wrap (q : Int) = (q : Int) := by simp [IntKind.wrap, IntKind.bits, IntKind.signed]; omega
    have hq3 : n - q = m := by omega
    have hq4 : ¬ ca = q := by omega
    have hq5 : (q : Int) ≤ (n : Int) := by omega
    have hq6 : (0 : Int) ≤ (q : Int) := Int.natCast_nonneg _
    have hmax : max (q : Int) 0 = (q : Int) := by omega
    have hmI : (m : Int) ≤ (n : Int) := by omega
    have hmI2 : ¬ (n : Int) < (m : Int) := by omega
    generalize decide (p <:+ l) = z at *
    clear hl hp hd e hll hpl hq hSR
    go_enter Try.func26, Try.ntmps26
    go_wp2_with (go_at_call 49; refine HSR.out.mono ?_; rintro e w1 ⟨rfl, hb⟩; have HB := Lib.hid hb; clear hb)
    go_ret
    refine ⟨?_, HB.out⟩
    simp
  · have e : decide (p <:+ l) = false := by
      rw [decide_eq_false_iff_not]
      intro h
      have := h.length_le
      omega
    rw [e]
    have hmI : ¬ (m : Int) ≤ (n : Int) := by omega
    clear e hl hp hll hpl
    go_enter Try.func26, Try.ntmps26
    go_wp2
    go_ret
    refine ⟨?_, Below.refl _ _⟩
    simp
end Go.Proofs.Ytehmbnloplamaaa

namespace Go.Proofs.Ytehmbnloplamaaa
open Go.RowKit
set_option linter.unusedVariables false
open Tr Au
set_option maxRecDepth 100000 in
set_option maxHeartbeats 1000000 in
theorem refFall_tr {w : World} {la wa : Option Addr} {ln lc wn wc : Nat} {vs : List Value} {L : LL} (h : Rv w la ln vs L) (hI : Inv L) (hn : ln ≤ 9223372036854775807) (k : Int) :
    Calls Try.prog 14 #[.agg #[.slice la ln lc, .slice wa wn wc], .int .i64 k] w fun e w' => e = .returned (.int .i64 (fallV L k)) ∧ Below w.heap.size w w' := by
  have hb := box1T w (.cells #[.slice la ln lc, .slice wa wn wc] 25)
  have HB := Lib.hid hb
  have HT := Lib.hid (Tv.new w (.slice la ln lc) (.slice wa wn wc))
  have HR := Lib.hid (h.later hb)
  have hrl := h.rl
  obtain ⟨W, hW⟩ : ∃ W, w.alloc (.cells #[.slice la ln lc, .slice wa wn wc] 25) = W := ⟨_, rfl⟩
  rw [hW] at HB HT HR
  obtain ⟨x0, x1⟩ := HT.out.cells
  have hld := load_tv HT.out
  clear h hb
  by_cases h1 : k < 1
  · have e : fallV L k = -1 := by unfold fallV; rw [if_pos (.inl h1)]
    rw [e]
    clear e
    go_enter Try.func14, Try.ntmps14
    go_upto_region 1 with fail
    try rw [hW]
    clear hW
    go_wp2
    go_ret
    exact ⟨rfl, HB.out⟩
  · by_cases h2 : (ln : Int) ≤ k
    · have e : fallV L k = -1 := by unfold fallV; rw [if_pos (.inr (by omega))]
      rw [e]
      clear e
      go_enter Try.func14, Try.ntmps14
      go_upto_region 1 with fail
      try rw [hW]
      clear hW
      go_wp2
      go_ret
      exact ⟨rfl, HB.out⟩
    · obtain ⟨i, rfl⟩ : ∃ i : Nat, k = (i : Int) := ⟨k.toNat, by omega⟩
      have hi1 : 1 ≤ i := by omega
      have hil : i < ln := by omega
      have e := fall_at hi1 (show i < L.length by omega)
      have hne := (hI.up i hi1 (by omega)).1
      obtain ⟨ai, ci, e1, e2, e3, e4⟩ := HR.out.each i hil
      have hcl : ∃ b o, la = some ⟨b, o, none⟩ ∧ W.cell? ⟨b, o + i, none⟩ = some (.slice ai (L.getD i []).length ci) := by
        rcases HR.out.cells with h0 | ⟨b, o, ee, hc⟩
        · omega
        · exact ⟨b, o, ee, by rw [hc i hil, e1]⟩
      obtain ⟨b, o, rfl, hc⟩ := hcl
      rw [e]
      obtain ⟨p, hp⟩ : ∃ p, L.getD i [] = p := ⟨_, rfl⟩
      rw [hp] at e2 e3 hc hne ⊢
      obtain ⟨j, hj⟩ : ∃ j, p.length = j + 1 := by
        rcases Nat.eq_zero_or_pos p.length with e0 | e0
        · exact absurd (List.length_eq_zero_iff.1 e0) hne
        · exact ⟨p.length - 1, by omega⟩
      have hdl : p.tail = p.drop (p.length - j) := by rw [hj, show j + 1 - j = 1 by omega, List.drop_one]
      rw [hdl]
      rw [hj] at e2 e3 hc
      have HFI := Lib.hid (fun W' (hb : Below W.heap.size W W') => deepest_tr (wa := wa) (wn := wn) (wc := wc) (lc := lc) (pc := ci) (HR.out.later hb) hI hn (e2.below hb) e3 e4 (show j ≤ j + 1 by omega))
      obtain ⟨r, hr⟩ : ∃ r : Int, ((deep L (p.drop (p.length - j)) : Nat) : Int) = r := ⟨_, rfl⟩
      rw [hr] at HFI ⊢
      have hj0 : (0 : Int) ≤ (j : Int) := Int.natCast_nonneg _
      have hjm : ((j + 1 : Nat) : Int) - 1 = (j : Int) := by omega
      have hjw : IntKind.i64.wrap (j : Int) = (j : Int) := by simp [IntKind.wrap, IntKind.bits, IntKind.signed]; omega
      have hiI : (i : Int) < (ln : Int) := by omega
      have hi0 : (0 : Int) ≤ (i : Int) := Int.natCast_nonneg _
      clear e hne e1 e2 hp hdl hr hj hrl hI
      go_enter Try.func14, Try.ntmps14
      go_upto_region 1 with fail
      try rw [hW]
      clear hW
      go_wp2_with fail
      go_region_held3 (fun w' => w'.cell? ⟨w.heap.size, 0, none⟩ = some (.slice (some ⟨b, o, none⟩) ln lc) ∧ w'.cell? ⟨w.heap.size, 1, none⟩ = some (.slice wa wn wc) ∧ w'.cell? ⟨b, o + i, none⟩ = some (.slice ai (j + 1) ci))
        (first | (with_reducible exact ⟨x0, x1, hc⟩) | exact ⟨x0, x1, hc⟩ | exact ⟨cell_later HBZ.out x0, cell_later HBZ.out x1, cell_later HBZ.out hc⟩)
        (first | (go_at_call 25; refine (HFI.out _ ((Below.refl _ _).drew)).mono ?_; rintro e w9 ⟨rfl, hb9⟩; have HBZ := Lib.hid (bel_und hb9); have HB9 := Lib.hid (bel_step HB.out HBZ.out); clear hb9))
      all_goals
        go_wp2_with fail
        go_ret
        exact ⟨rfl, HB9.out⟩
end Go.Proofs.Ytehmbnloplamaaa

namespace Go.Proofs.Ytehmbnloplamaaa
open Go.RowKit
set_option linter.unusedVariables false
open Tr Au
theorem pix_own2 {w : World} {B g m c : Nat} {p : List Int} {q : Int} (hm : p.length = m) (h : w.ownsRow B 39 1 (.slice (some ⟨g, 0, none⟩) (m + 1) c) (m + 1) (p.map (Value.int .u64) ++ [.int .u64 q])) : SlK .u64 w (some ⟨g, 0, none⟩) (m + 1) (p ++ [q]) ∧ m + 1 ≤ c ∧ c ≤ 9223372036854775807 := by
  have hl : (p ++ [q]).length = m + 1 := by rw [List.length_append, List.length_singleton, hm]
  have h' : w.ownsRow B 39 1 (.slice (some ⟨g, 0, none⟩) (m + 1) c) (m + 1) ((p ++ [q]).map (Value.int .u64)) := by rw [List.map_append]; exact h
  obtain ⟨ad, cap, e1, ho, _⟩ := ownK_row hl h'
  injection e1 with e1 e2 e3
  subst e1
  have := ho.sl
  rw [hl] at this
  refine ⟨this, ?_⟩
  rcases h.2 with ⟨e, _⟩ | ⟨_, _, _, e, _, _, k1, k2, _⟩
  · cases e
  · cases e; unfold maxLen at k2; exact ⟨k1, by omega⟩
set_option maxRecDepth 100000 in
set_option maxHeartbeats 1000000 in
theorem refNext_tr {w : World} {la wa : Option Addr} {ln lc wn wc : Nat} {vs : List Value} {L : LL} (h : Rv w la ln vs L) (hI : Inv L) (hn : ln ≤ 9223372036854775807) (hd : ∀ p ∈ L, p.length ≤ 1000) (k q : Int) :
    Calls Try.prog 22 #[.agg #[.slice la ln lc, .slice wa wn wc], .int .i64 k, .int .u64 q] w fun e w' => e = .returned (.int .i64 (nextV L k q)) ∧ Below w.heap.size w w' := by
  obtain ⟨i0, hi, hz0, hz1, hz2⟩ := info_parts Try.info_pxT
  have hb := box1T w (.cells #[.slice la ln lc, .slice wa wn wc] 25)
  have HB := Lib.hid hb
  have HT := Lib.hid (Tv.new w (.slice la ln lc) (.slice wa wn wc))
  have HR := Lib.hid (h.later hb)
  have hrl := h.rl
  obtain ⟨W, hW⟩ : ∃ W, w.alloc (.cells #[.slice la ln lc, .slice wa wn wc] 25) = W := ⟨_, rfl⟩
  rw [hW] at HB HT HR
  obtain ⟨x0, x1⟩ := HT.out.cells
  have hld := load_tv HT.out
  have HIN := Lib.hid (fun W' => refIn_tr (w := W') (la := la) (wa := wa) (lc := lc) (wn := wn) (wc := wc) hn k)
  clear h hb
  by_cases h0 : k < 0 ∨ (L.length : Int) ≤ k
  · have e1 : decide (0 ≤ k ∧ k < (ln : Int)) = false := by rw [decide_eq_false_iff_not]; omega
    rw [next_out h0]
    simp only [e1] at HIN
    clear e1 h0
    go_enter Try.func22, Try.ntmps22
    go_upto_region 1 with fail
    try rw [hW]
    clear hW
    go_wp2_with (go_at_call 42; refine (HIN.out _).mono ?_; rintro e w1 ⟨rfl, hb⟩; have HB1 := Lib.hid hb; clear hb)
    go_ret
    exact ⟨rfl, bel_step HB.out HB1.out⟩
  · obtain ⟨i, rfl⟩ : ∃ i : Nat, k = (i : Int) := ⟨k.toNat, by omega⟩
    have hil : i < ln := by omega
    have e1 : decide ((0 : Int) ≤ (i : Int) ∧ (i : Int) < (ln : Int)) = true := by rw [decide_eq_true_iff]; omega
    simp only [e1] at HIN
    have e := next_at (show i < L.length by omega) q
    have hdp := hd _ (gD_mem (d := []) (show i < L.length by omega))
    obtain ⟨ai, ci, e2, e3, e4, e5⟩ := HR.out.each i hil
    have hcl : ∃ b o, la = some ⟨b, o, none⟩ ∧ W.cell? ⟨b, o + i, none⟩ = some (.slice ai (L.getD i []).length ci) := by
      rcases HR.out.cells with h0 | ⟨b, o, ee, hc⟩
      · omega
      · exact ⟨b, o, ee, by rw [hc i hil, e2]⟩
    obtain ⟨b, o, rfl, hc⟩ := hcl
    rw [e]
    obtain ⟨p, hp⟩ : ∃ p, L.getD i [] = p := ⟨_, rfl⟩
    rw [hp] at e3 hc hdp ⊢
    obtain ⟨m, hm⟩ : ∃ m, p.length = m := ⟨_, rfl⟩
    rw [hm] at e3 hc hdp
    have HSL := Lib.hid e3
    have HML := Lib.hid hm
    have hiI : (i : Int) < (ln : Int) := by omega
    have hi0 : (0 : Int) ≤ (i : Int) := Int.natCast_nonneg _
    have hdl : deep L (p ++ [q]) = deep L ((p ++ [q]).drop ((p ++ [q]).length - (m + 1))) := by
      rw [List.length_append, List.length_singleton, hm, Nat.sub_self, List.drop_zero]
    rw [hdl]
    have HFI := Lib.hid (fun W' (hb : Below W.heap.size W W') (pa : Option Addr) (pc : Nat) (hs : SlK .u64 W' pa (m + 1) (p ++ [q]) ∧ m + 1 ≤ pc ∧ pc ≤ 9223372036854775807) => deepest_tr (wa := wa) (wn := wn) (wc := wc) (lc := lc) (pc := pc) (HR.out.later hb) hI hn hs.1 hs.2.1 hs.2.2 (Nat.le_refl (m + 1)))
    obtain ⟨r, hr⟩ : ∃ r : Int, ((deep L ((p ++ [q]).drop ((p ++ [q]).length - (m + 1))) : Nat) : Int) = r := ⟨_, rfl⟩
    rw [hr] at HFI ⊢
    have HO0 := Lib.hid (fun W' : World => World.ownsRow_nil W' W.heap.size 39 1)
    have HLE := Lib.hid (Nat.le_refl W.heap.size)
    clear e e1 e2 e3 e4 e5 hp hr hrl hd hm hdl hI h0
    go_enter Try.func22, Try.ntmps22
    go_upto_region 1 with fail
    try rw [hW]
    clear hW
    go_upto_region 4 with (go_at_call 42; refine (HIN.out _).mono ?_; rintro e w1 ⟨rfl, hb⟩; have HB1 := Lib.hid hb; have x01 := cell_later hb x0; have x11 := cell_later hb x1; have hc1 := cell_later hb hc; have hld1 := load_tv (HT.out.later hb); have HSL1 := Lib.hid (HSL.out.below hb); have hs1 := hb.size; clear hb)
    go_upto_region 5 with (at_builtin; refine wpList_app rfl _ _ 43 rfl W.heap.size 39 i0 .u64 8 Try.underlying43 hi hz0 hz1 hz2 (.slice none 0 0) 0 [] rfl (HO0.out _) _ m ci p rfl HSL1.out (by unfold maxLen; omega) (by omega) hs1 ?_; intro v2 w7 hown hgrow _; have H1 := Lib.hid hown; have H2 := Lib.hid hgrow; clear hown hgrow)
    have hown := H1.out
    rw [Nat.zero_add, List.nil_append] at hown
    obtain ⟨av, cv, rfl⟩ := Tr.own_form hown
    have HROW := Lib.hid hown
    have hT1 := HT.out.later HB1.out
    have hT7 := tv_grown hT1 H2.out (fun k e => by cases e)
    have HT7 := Lib.hid hT7
    have HB7 := Lib.hid (bel_step HB1.out ((Below.refl _ _).grown H2.out (Nat.le_refl _) (fun j e => by cases e)))
    have hs7 := HB7.out.size
    obtain ⟨y0, y1⟩ := hT7.cells
    have ld7 := load_tv hT7
    clear hown H1 H2 hT7 hT1 hld hld1 x0 x1 x01 x11 hc hc1
    go_upto_region 6 with (at_builtin; refine wpList_append_lies _ rfl _ _ 43 rfl W.heap.size 39 i0 (.int .u64 0) 1 8 Try.underlying43 hi hz0 hz1 hz2 rfl (by decide) (.slice av m cv) m _ rfl (HROW.out.alloc _) ⟨w7.heap.size, 0, none⟩ 1 1 [.int .u64 q] rfl rfl (one_newT2 _ _ _) (by simp [Value.oneCell']) (by omega) (by unfold maxLen; omega) (by omega) (by simp; omega) _ rfl ?_; intro gg cc w5 hown hgrow hat _; have HO5 := Lib.hid hown; have hg5 := grown_trans2 hgrow; have T5 := tv_grown HT7.out hg5 (fun k e => by have := (HROW.out.lt k e).1; have := HT.out.lt; omega); obtain ⟨u0, u1⟩ := T5.cells; have ld5 := load_tv T5; have HB5 := Lib.hid (HB7.out.grown hg5 HB7.out.size (fun j e => (HROW.out.lt j e).1)); clear hown hgrow hat hg5 T5)
    go_wp2_with (go_at_call 25; refine (HFI.out _ HB5.out _ _ (pix_own2 HML.out HO5.out)).mono ?_; rintro e w9 ⟨rfl, hb9⟩; have HB9 := Lib.hid (bel_step HB5.out hb9); clear hb9)
    go_ret
    exact ⟨rfl, bel_step HB.out HB9.out⟩
end Go.Proofs.Ytehmbnloplamaaa

namespace Go.Proofs.Ytehmbnloplamaaa
open Go.RowKit
set_option linter.unusedVariables false
open Tr Au
namespace Au
def depM2 (L : LL) (z : Int) : Nat := if z < 0 then 0 else dep L z.toNat + 1
theorem depM2_nat (L : LL) (j : Nat) : depM2 L j = dep L j + 1 := by unfold depM2; rw [if_neg (by omega), Int.toNat_natCast]
theorem fall_node {L : LL} (hI : Inv L) (k : Int) : fallV L k = -1 ∨ ∃ e : Nat, fallV L k = (e : Int) ∧ e < L.length := by
  by_cases h : k < 1 ∨ (L.length : Int) ≤ k
  · left; unfold fallV; rw [if_pos h]
  · right; unfold fallV; rw [if_neg h]; exact ⟨_, rfl, deep_lt hI _⟩
theorem end_fall {L V : LL} (hI : Iw L V) (k : Int) : endV L V (fallV L k) = linkV L V k := by
  by_cases h : k < 1 ∨ (L.length : Int) ≤ k
  · rw [show fallV L k = -1 by unfold fallV; rw [if_pos h], end_out (.inl (by omega))]
    by_cases h0 : k = 0
    · subst h0; exact (link_zero hI.inv V).symm
    · rw [link_out (by unfold out; omega)]
  · obtain ⟨e, rfl⟩ : ∃ e : Nat, k = (e : Int) := ⟨k.toNat, by omega⟩
    rw [fall_at (by omega) (by omega), link_fall hI.inv (fun x hx => (hI.ws x hx).1) (by omega)]
theorem end_root {L V : LL} (hI : Iw L V) : endV L V 0 = -1 := by
  have h := end_at (W := V) hI.inv.pos
  rw [hI.inv.root] at h
  exact h
theorem fall_depM {L : LL} (hI : Inv L) {e : Nat} (h1 : 1 ≤ e) (he : e < L.length) : depM2 L (fallV L e) < depM2 L e := by
  rw [fall_at h1 he, depM2_nat, depM2_nat]
  have := fall_less hI h1 he
  unfold dep
  omega
end Au
set_option maxRecDepth 100000 in
set_option maxHeartbeats 1000000 in
theorem refLink_tr {w : World} {la wa : Option Addr} {ln lc wn wc : Nat} {vs us : List Value} {L V : LL} (h : Rv w la ln vs L) (hw : Rv w wa wn us V) (hI : Iw L V) (hn : ln ≤ 9223372036854775807) (hwn : wn ≤ 1000) (k : Int) :
    Calls Try.prog 16 #[.agg #[.slice la ln lc, .slice wa wn wc], .int .i64 k] w fun e w' => e = .returned (.int .i64 (linkV L V k)) ∧ Below w.heap.size w w' := by
  have hb := box1T w (.cells #[.slice la ln lc, .slice wa wn wc] 25)
  have HB := Lib.hid hb
  have HT := Lib.hid (Tv.new w (.slice la ln lc) (.slice wa wn wc))
  have HR := Lib.hid (h.later hb)
  have HRW := Lib.hid (hw.later hb)
  obtain ⟨W, hW⟩ : ∃ W, w.alloc (.cells #[.slice la ln lc, .slice wa wn wc] 25) = W := ⟨_, rfl⟩
  rw [hW] at HB HT HR HRW
  have hld := load_tv HT.out
  obtain ⟨x0, x1⟩ := HT.out.cells
  have HFA := Lib.hid (fun W' (hb : Below W.heap.size W W') (z : Int) => refFall_tr (wa := wa) (wn := wn) (wc := wc) (lc := lc) (HR.out.later hb) hI.inv hn z)
  have HWD := Lib.hid (fun W' (hb : Below W.heap.size W W') (z : Int) => refWords_tr (lc := lc) (wc := wc) (HR.out.later hb) (HRW.out.later hb) hn hwn z)
  have HI := Lib.hid hI
  have HT0 := Lib.hid (end_fall hI k)
  have HFN := Lib.hid (fall_node hI.inv k)
  obtain ⟨T, hT⟩ : ∃ T, linkV L V k = T := ⟨_, rfl⟩
  rw [hT] at HT0 ⊢
  obtain ⟨z0, hz0⟩ : ∃ z, fallV L k = z := ⟨_, rfl⟩
  have HF0 := Lib.hid (HFA.out W (Below.refl _ _) k)
  rw [hz0] at HT0 HFN HF0
  clear h hw hb hI hT hz0
  go_enter Try.func16, Try.ntmps16
  go_upto_region 1 with fail
  try rw [hW]
  clear hW
  go_wp2_with (go_at_call 14; refine HF0.out.mono ?_; rintro e w1 ⟨rfl, hb1⟩; have HB1 := Lib.hid hb1; clear hb1)
  go_loopw [5] (fun s5 wr => ∃ z : Int, s5 = .int .i64 z ∧ (z = -1 ∨ ∃ e : Nat, z = (e : Int) ∧ e < L.length) ∧ endV L V z = T ∧ Below W.heap.size W wr) (fun s5 _ => depM2 L (intOf s5))
  case atStart => exact ⟨z0, rfl, HFN.out, HT0.out, HB1.out⟩
  case round =>
    obtain ⟨z, rfl, hzs, hzT, hb⟩ := hrel
    have HB2 := Lib.hid hb
    have hld2 := load_tv (HT.out.later hb)
    obtain ⟨y0, y1⟩ := (HT.out.later hb).cells
    by_cases hz : 0 < z
    · obtain ⟨e, rfl, he⟩ : ∃ e : Nat, z = (e : Int) ∧ e < L.length := by
        rcases hzs with h | h
        · omega
        · exact h
      have HWD2 := Lib.hid (HWD.out wr hb (e : Int))
      have HFA2 := Lib.hid (fun W' (hb' : Below wr.heap.size wr W') => HFA.out W' (bel_step hb hb') (e : Int))
      have HFN2 := Lib.hid (fall_node HI.out.inv (e : Int))
      have HEF := Lib.hid (end_fall HI.out (e : Int))
      have HDM := Lib.hid (fall_depM HI.out.inv (show 1 ≤ e by omega) he)
      have HZT := Lib.hid hzT
      by_cases hws : wordsV L V e = []
      · have hel := end_link HI.out.inv he hws
        have HEL := Lib.hid hel
        have hl0 : (wordsV L V e).length = 0 := by rw [hws]; rfl
        rw [hl0] at HWD2
        obtain ⟨y, hy⟩ : ∃ y, fallV L e = y := ⟨_, rfl⟩
        rw [hy] at HFA2 HFN2 HEF HDM
        clear hb hzs hzT hel hl0 hy hws
        go_wp2_with (first
          | (go_at_call 36; refine HWD2.out.mono ?_; rintro e w5 ⟨v, rfl, hown, hb5⟩; obtain ⟨va, vc, rfl⟩ := Tr.own_form hown; have HB5 := Lib.hid hb5; have hld5 := load_tv ((HT.out.later HB2.out).later hb5); obtain ⟨u0, u1⟩ := ((HT.out.later HB2.out).later hb5).cells; clear hown hb5)
          | (go_at_call 14; refine (HFA2.out _ HB5.out).mono ?_; rintro e w6 ⟨rfl, hb6⟩; have HB6 := Lib.hid hb6; clear hb6))
        go_roundw
        case rel => exact ⟨y, rfl, HFN2.out, by rw [HEF.out, ← HEL.out, HZT.out], bel_step (bel_step HB2.out HB5.out) HB6.out⟩
        case measure => exact HDM.out
      · have hee := end_words HI.out.inv he hws (fun h0 => (HI.out.ws [] h0).2 rfl)
        have HEE := Lib.hid hee
        have hl0 : 0 < (wordsV L V e).length := List.length_pos_iff.2 hws
        obtain ⟨nw, hnw⟩ : ∃ nw, (wordsV L V e).length = nw := ⟨_, rfl⟩
        rw [hnw] at HWD2 hl0
        have hlI : (0 : Int) < (nw : Int) := by omega
        clear hb hzs hzT hee hl0 hnw hws
        go_wp2_with (go_at_call 36; refine HWD2.out.mono ?_; rintro e w5 ⟨v, rfl, hown, hb5⟩; obtain ⟨va, vc, rfl⟩ := Tr.own_form hown; have HB5 := Lib.hid hb5; clear hown hb5)
        go_ret
        exact ⟨by rw [← HZT.out, HEE.out]; rfl, bel_step HB.out (bel_step HB2.out HB5.out)⟩
    · have hT1 : T = -1 := by
        rw [← hzT]
        rcases hzs with rfl | ⟨e, rfl, _⟩
        · exact end_out (.inl (by omega))
        · have : e = 0 := by omega
          subst this
          exact end_root HI.out
      have HT1 := Lib.hid hT1
      clear hb hzs hzT hT1
      go_wp2
      go_ret
      exact ⟨congrArg (fun z : Int => Ending.returned (.int .i64 z)) HT1.out.symm, bel_step HB.out HB2.out⟩
end Go.Proofs.Ytehmbnloplamaaa

namespace Go.Proofs.Ytehmbnloplamaaa
set_option linter.unusedVariables false
open Tr Au
namespace Au
theorem nodeV_neg {L : LL} {l : List Int} : nodeV L l = -1 ↔ l = [] := by
  unfold nodeV
  by_cases h : l = []
  · rw [if_pos h]; simp [h]
  · rw [if_neg h]
    constructor
    · intro e; omega
    · intro e; exact absurd e h
theorem end_fin {L V : LL} (hI : Iw L V) (k : Int) : endV L V k = -1 ↔ finV L V k = [] := by
  have hV0 : [] ∉ V := fun h0 => (hI.ws [] h0).2 rfl
  unfold endV finV
  by_cases hk : out L k
  · rw [if_pos hk, if_pos hk]; simp
  · rw [if_neg hk, if_neg hk, nodeV_neg, lnk_nil_iff hV0]
theorem any_fin {L V : LL} (hI : Iw L V) (k : Int) : (endV L V k != -1) = decide ((0 : Int) < ((finV L V k).length : Int)) := by
  have h := end_fin hI k
  by_cases e : endV L V k = -1
  · rw [e, h.1 e]; rfl
  · have hp : 0 < (finV L V k).length := List.length_pos_iff.2 (fun e2 => e (h.2 e2))
    rw [decide_eq_true (by omega), bne_iff_ne]; exact e
theorem same_fin {L V : LL} (hI : Iw L V) (k m : Int) : sameV L V k m = decide (0 ≤ k ∧ k < L.length ∧ 0 ≤ m ∧ m < L.length ∧ finV L V k = finV L V m) := by
  have hV0 : [] ∉ V := fun h0 => (hI.ws [] h0).2 rfl
  unfold sameV
  by_cases hk : out L k
  · rw [decide_eq_false, decide_eq_false]
    · unfold out at hk; omega
    · unfold out at hk; omega
  · by_cases hm : out L m
    · rw [decide_eq_false, decide_eq_false]
      · unfold out at hm; omega
      · unfold out at hm; omega
    · have : endV L V k = endV L V m ↔ finV L V k = finV L V m := by
        unfold endV finV
        rw [if_neg hk, if_neg hm, if_neg hk, if_neg hm, node_eq_iff hI.inv (fun x hx => (hI.ws x hx).1), lnk_eq_iff hV0]
      rw [decide_eq_decide, this]
end Au
end Go.Proofs.Ytehmbnloplamaaa

namespace Go.Proofs.Ytehmbnloplamaaa
set_option linter.unusedVariables false
open Tr Au
namespace Au
theorem fin_chain_len {W : LL} (h0 : [] ∉ W) (q : List Int) : (fin W q).length = (chain W q).length := (chain_perm h0 q).length_eq.symm
theorem up_le {l : List Int} (h : l.Pairwise (· < ·)) : l.Pairwise (· ≤ ·) := h.imp (fun h => Int.le_of_lt h)
theorem dep_facts {L V : LL} (hI : Iw L V) {i : Nat} (h1 : 1 ≤ i) (hi : i < L.length) : ∃ f : Nat, fallV L i = (f : Int) ∧ f < L.length ∧ (L.getD f []).length < (L.getD i []).length ∧
    ((linkV L V i = -1 ∧ finV L V i = wordsV L V i) ∨ ∃ e : Nat, linkV L V i = (e : Int) ∧ 1 ≤ e ∧ e < L.length ∧ (L.getD e []).length ≤ (L.getD f []).length ∧ (finV L V i).length = (wordsV L V i).length + (finV L V e).length) := by
  have h0 : [] ∉ V := fun h0 => (hI.ws [] h0).2 rfl
  have hV : ∀ x ∈ V, x ∈ L := fun x hx => (hI.ws x hx).1
  have hne := path_ne hI.inv h1 hi
  obtain ⟨q, hq⟩ : ∃ q, L.getD i [] = q := ⟨_, rfl⟩
  have hfl := fall_less hI.inv h1 hi
  have hfin : finV L V i = fin V q := by rw [fin_at hi, hq]
  have hws : wordsV L V i = same V q := by rw [same_words hI.inv hi, hq]
  have hst := chain_step (W := V) (q := q) (by rw [← hq]; exact hne)
  refine ⟨deep L q.tail, by rw [fall_at h1 hi, hq], deep_lt hI.inv _, by rw [← hq]; exact hfl, ?_⟩
  rw [link_at hi, hq, hfin, hws]
  rcases node_in hV q.tail with h | ⟨e, h, h2, h3, h4, h5⟩
  · refine .inl ⟨h, ?_⟩
    have hn : lnk V q.tail = [] := by
      apply Classical.byContradiction
      intro hn
      unfold nodeV at h
      rw [if_neg hn] at h
      omega
    have hc : chain V q = same V q := by rw [hst, chain_lnk V q.tail, hn]; simp [chain]
    exact sorted_eq ((chain_perm h0 q).symm.trans (by rw [hc])) (up_le (fin_up _ _)) (up_le (same_up _ _))
  · refine .inr ⟨e, h, ?_, h2, ?_, ?_⟩
    · rcases Nat.eq_zero_or_pos e with rfl | h6
      · rw [hI.inv.root] at h3; exact absurd h3.symm h5
      · exact h6
    · rw [h3, deep_at hI.inv]
      exact (suf_long (lnk_suffix V q.tail) (hV _ h4)).length_le
    · rw [fin_at h2, h3, fin_chain_len h0, fin_chain_len h0, hst, List.length_append, ← chain_lnk]
end Au
end Go.Proofs.Ytehmbnloplamaaa

namespace Go.Proofs.Ytehmbnloplamaaa
open Go.RowKit
set_option linter.unusedVariables false
open Tr Au
namespace Au
def finN (V : LL) (q : List Int) (i : Nat) : List Int := ((List.range i).filter fun j => decide (V.getD j [] <:+ q)).map fun (j : Nat) => (j : Int)
theorem finN_succ (V : LL) (q : List Int) (i : Nat) : finN V q (i + 1) = if V.getD i [] <:+ q then finN V q i ++ [(i : Int)] else finN V q i := by
  unfold finN
  rw [List.range_succ, List.filter_append, List.map_append]
  by_cases e : V.getD i [] <:+ q
  · rw [if_pos e, show List.filter (fun j => decide (V.getD j [] <:+ q)) [i] = [i] by simp only [List.filter, decide_eq_true e]]; rfl
  · rw [if_neg e, show List.filter (fun j => decide (V.getD j [] <:+ q)) [i] = [] by simp only [List.filter, decide_eq_false e]]; simp only [List.map_nil, List.append_nil]
theorem finN_len (V : LL) (q : List Int) (i : Nat) : (finN V q i).length ≤ i := by
  unfold finN; rw [List.length_map]; exact Nat.le_trans (List.length_filter_le _ _) (by simp)
def REndsR (L V : LL) (k : Int) (w : World) (e : Ending) (w' : World) : Prop := ∃ a c, e = .returned (.slice a (finV L V k).length c) ∧ OwnK .i64 w.heap.size w' a (finV L V k) ∧ Below w.heap.size w w'
end Au
set_option maxRecDepth 100000 in
set_option maxHeartbeats 2000000 in
theorem refEnds_tr {w : World} {la wa : Option Addr} {ln lc wn wc : Nat} {vs us : List Value} {L V : LL} (h : Rv w la ln vs L) (hw : Rv w wa wn us V) (hne : ∀ x ∈ V, x ≠ []) (hn : ln ≤ 9223372036854775807) (hwn : wn ≤ 1000) (k : Int) :
    Calls Try.prog 12 #[.agg #[.slice la ln lc, .slice wa wn wc], .int .i64 k] w (REndsR L V k w) := by
  obtain ⟨i0, hi, hz0, hz1, hz2⟩ := info_parts Try.info_int
  have hb := box1T w (.cells #[.slice la ln lc, .slice wa wn wc] 25)
  have HB := Lib.hid hb
  have HT := Lib.hid (Tv.new w (.slice la ln lc) (.slice wa wn wc))
  have HR := Lib.hid (h.later hb)
  have HRW := Lib.hid (hw.later hb)
  have HRL := Lib.hid h.rl
  have HWL := Lib.hid hw.rl
  obtain ⟨W, hW⟩ : ∃ W, w.alloc (.cells #[.slice la ln lc, .slice wa wn wc] 25) = W := ⟨_, rfl⟩
  rw [hW] at HB HT HR HRW
  have HNE := Lib.hid hne
  have HO0 := Lib.hid (World.ownsRow_nil W W.heap.size 3 1)
  have HIN := Lib.hid (fun W' => refIn_tr (w := W') (la := la) (wa := wa) (lc := lc) (wn := wn) (wc := wc) hn k)
  clear h hw hb hne
  by_cases hk : k < 0 ∨ (L.length : Int) ≤ k
  · have e1 : decide (0 ≤ k ∧ k < (ln : Int)) = false := by rw [decide_eq_false_iff_not]; have := HRL.out; omega
    simp only [e1] at HIN
    have hfin : finV L V k = [] := by unfold finV; exact if_pos hk
    have hR : ∀ e w', (∃ a c, e = Ending.returned (.slice a 0 c) ∧ OwnK .i64 w.heap.size w' a [] ∧ Below w.heap.size w w') → REndsR L V k w e w' := fun e w' h => by unfold REndsR; rw [hfin]; exact h
    refine Calls.mono ?_ hR
    clear e1 hfin hk hR
    go_enter Try.func12, Try.ntmps12
    go_upto_region 1 with fail
    try rw [hW]
    clear hW
    go_wp2_with fail
    go_loopw [5, 6] (fun s5 s6 wr => ∃ i : Nat, i ≤ wn ∧ s6 = .int .i64 i ∧ s5 = .slice none 0 0 ∧ Below W.heap.size W wr) (fun _ s6 _ => wn - (intOf s6).toNat)
    case atStart => exact ⟨0, Nat.zero_le _, rfl, rfl, Below.refl _ _⟩
    case round =>
      obtain ⟨i, hi', rfl, rfl, hb⟩ := hrel
      have HBr := Lib.hid hb
      obtain ⟨x0, x1⟩ := (HT.out.later hb).cells
      have ld := load_tv (HT.out.later hb)
      by_cases hlt : i < wn
      · have hltI : (i : Int) < (wn : Int) := by omega
        have hi0 : (0 : Int) ≤ (i : Int) := Int.natCast_nonneg _
        clear hb
        go_wp2_with fail
        have hS : wr.drew.cell? ⟨w.heap.size, 0, none⟩ = some (.slice la ln lc) ∧ wr.drew.cell? ⟨w.heap.size, 1, none⟩ = some (.slice wa wn wc) := ⟨x0, x1⟩
        refine wp_region_held_drew (S := fun w' => w'.cell? ⟨w.heap.size, 0, none⟩ = some (.slice la ln lc) ∧ w'.cell? ⟨w.heap.size, 1, none⟩ = some (.slice wa wn wc)) (by kernel_rfl) hS (fun _ => ?_)
        refine wpAnyH_take (i := 0) (v := .agg #[.slice la ln lc, .slice wa wn wc]) rfl (by kernel_rfl) (by kernel_rfl) (by kernel_rfl) (fun _ _ _ h => h) (Or.inl ⟨by kernel_rfl, fun w9 hSw => ?_⟩) hS ?_
        · obtain ⟨s1, s2⟩ := hSw
          go_simp
        change wpAnyH _ _ _ _ _ _ _ (Act.put _ (some 14) (.agg #[.slice la ln lc, .slice wa wn wc])) _
        (try simp only [Act.put, List.setIfInBounds_toArray, List.set_cons_zero, List.set_cons_succ])
        refine wpAnyH_take (i := 1) (v := .int .i64 k) rfl (by kernel_rfl) (by kernel_rfl) (by kernel_rfl) (fun _ _ _ h => h) (Or.inl ⟨by kernel_rfl, fun w9 hSw => ?_⟩) hS ?_
        · obtain ⟨s1, s2⟩ := hSw
          go_simp
        change wpAnyH _ _ _ _ _ _ _ (Act.put _ (some 15) (.int .i64 k)) _
        (try simp only [Act.put, List.setIfInBounds_toArray, List.set_cons_zero, List.set_cons_succ])
        refine wpAnyH_ready (rs := [2]) (by kernel_rfl) (by simp) ?_
        refine AllReadyH.cons rfl (fun K hK => ?_) AllReadyH.nil
        go_simp
        refine (HIN.out _).mono ?_
        rintro e w9 ⟨rfl, hb9⟩
        have HB9 := Lib.hid (bel_und hb9)
        have hS2 := And.intro (cell_later hb9 hS.1) (cell_later hb9 hS.2)
        refine hK.out _ _ hS2 (fun _ => ?_)
        clear hK K
        (try simp only [Act.put, List.setIfInBounds_toArray, List.set_cons_zero, List.set_cons_succ])
        clear hS hb9
        have hS := hS2
        clear hS2
        refine wpAnyH_take (i := 3) (v := .bool false) rfl (by kernel_rfl) (by kernel_rfl) (by kernel_rfl) (fun _ _ _ h => h) (Or.inl ⟨by kernel_rfl, fun w9 hSw => ?_⟩) hS ?_
        · obtain ⟨s1, s2⟩ := hSw
          go_simp
        change wpAnyH _ _ _ _ _ _ _ (Act.put _ (some 17) (.bool false)) _
        (try simp only [Act.put, List.setIfInBounds_toArray, List.set_cons_zero, List.set_cons_succ])
        refine wpAnyH_take (i := 4) (v := undef) rfl (by kernel_rfl) (by kernel_rfl) (by kernel_rfl) (fun _ _ _ h => h) (Or.inr ⟨by kernel_rfl, rfl⟩) hS ?_
        change wpAnyH _ _ _ _ _ _ _ (Act.put _ (some 18) (undef)) _
        (try simp only [Act.put, List.setIfInBounds_toArray, List.set_cons_zero, List.set_cons_succ])
        refine wpAnyH_take (i := 5) (v := undef) rfl (by kernel_rfl) (by kernel_rfl) (by kernel_rfl) (fun _ _ _ h => h) (Or.inr ⟨by kernel_rfl, rfl⟩) hS ?_
        change wpAnyH _ _ _ _ _ _ _ (Act.put _ (some 19) (undef)) _
        (try simp only [Act.put, List.setIfInBounds_toArray, List.set_cons_zero, List.set_cons_succ])
        refine wpAnyH_take (i := 6) (v := undef) rfl (by kernel_rfl) (by kernel_rfl) (by kernel_rfl) (fun _ _ _ h => h) (Or.inr ⟨by kernel_rfl, rfl⟩) hS ?_
        change wpAnyH _ _ _ _ _ _ _ (Act.put _ (some 20) (undef)) _
        (try simp only [Act.put, List.setIfInBounds_toArray, List.set_cons_zero, List.set_cons_succ])
        refine wpAnyH_take (i := 7) (v := undef) rfl (by kernel_rfl) (by kernel_rfl) (by kernel_rfl) (fun _ _ _ h => h) (Or.inr ⟨by kernel_rfl, rfl⟩) hS ?_
        change wpAnyH _ _ _ _ _ _ _ (Act.put _ (some 21) (undef)) _
        (try simp only [Act.put, List.setIfInBounds_toArray, List.set_cons_zero, List.set_cons_succ])
        refine wpAnyH_take (i := 8) (v := undef) rfl (by kernel_rfl) (by kernel_rfl) (by kernel_rfl) (fun _ _ _ h => h) (Or.inr ⟨by kernel_rfl, rfl⟩) hS ?_
        change wpAnyH _ _ _ _ _ _ _ (Act.put _ (some 22) (undef)) _
        (try simp only [Act.put, List.setIfInBounds_toArray, List.set_cons_zero, List.set_cons_succ])
        refine wpAnyH_take (i := 9) (v := undef) rfl (by kernel_rfl) (by kernel_rfl) (by kernel_rfl) (fun _ _ _ h => h) (Or.inr ⟨by kernel_rfl, rfl⟩) hS ?_
        change wpAnyH _ _ _ _ _ _ _ (Act.put _ (some 23) (undef)) _
        (try simp only [Act.put, List.setIfInBounds_toArray, List.set_cons_zero, List.set_cons_succ])
        refine wpAnyH_take (i := 10) (v := undef) rfl (by kernel_rfl) (by kernel_rfl) (by kernel_rfl) (fun _ _ _ h => h) (Or.inr ⟨by kernel_rfl, rfl⟩) hS ?_
        change wpAnyH _ _ _ _ _ _ _ (Act.put _ (some 24) (undef)) _
        (try simp only [Act.put, List.setIfInBounds_toArray, List.set_cons_zero, List.set_cons_succ])
        refine wpAnyH_take (i := 11) (v := undef) rfl (by kernel_rfl) (by kernel_rfl) (by kernel_rfl) (fun _ _ _ h => h) (Or.inr ⟨by kernel_rfl, rfl⟩) hS ?_
        change wpAnyH _ _ _ _ _ _ _ (Act.put _ (some 25) (undef)) _
        (try simp only [Act.put, List.setIfInBounds_toArray, List.set_cons_zero, List.set_cons_succ])
        refine wpAnyH_take (i := 12) (v := undef) rfl (by kernel_rfl) (by kernel_rfl) (by kernel_rfl) (fun _ _ _ h => h) (Or.inr ⟨by kernel_rfl, rfl⟩) hS ?_
        change wpAnyH _ _ _ _ _ _ _ (Act.put _ (some 26) (undef)) _
        (try simp only [Act.put, List.setIfInBounds_toArray, List.set_cons_zero, List.set_cons_succ])
        refine wpAnyH_take (i := 13) (v := undef) rfl (by kernel_rfl) (by kernel_rfl) (by kernel_rfl) (fun _ _ _ h => h) (Or.inr ⟨by kernel_rfl, rfl⟩) hS ?_
        change wpAnyH _ _ _ _ _ _ _ (Act.put _ (some 27) (undef)) _
        (try simp only [Act.put, List.setIfInBounds_toArray, List.set_cons_zero, List.set_cons_succ])
        refine wpAnyH_take (i := 14) (v := undef) rfl (by kernel_rfl) (by kernel_rfl) (by kernel_rfl) (fun _ _ _ h => h) (Or.inr ⟨by kernel_rfl, rfl⟩) hS ?_
        change wpAnyH _ _ _ _ _ _ _ (Act.put _ (some 28) (undef)) _
        (try simp only [Act.put, List.setIfInBounds_toArray, List.set_cons_zero, List.set_cons_succ])
        refine wpAnyH_take (i := 15) (v := undef) rfl (by kernel_rfl) (by kernel_rfl) (by kernel_rfl) (fun _ _ _ h => h) (Or.inr ⟨by kernel_rfl, rfl⟩) hS ?_
        change wpAnyH _ _ _ _ _ _ _ (Act.put _ (some 29) (undef)) _
        (try simp only [Act.put, List.setIfInBounds_toArray, List.set_cons_zero, List.set_cons_succ])
        refine wpAnyH_take (i := 16) (v := undef) rfl (by kernel_rfl) (by kernel_rfl) (by kernel_rfl) (fun _ _ _ h => h) (Or.inr ⟨by kernel_rfl, rfl⟩) hS ?_
        change wpAnyH _ _ _ _ _ _ _ (Act.put _ (some 30) (undef)) _
        (try simp only [Act.put, List.setIfInBounds_toArray, List.set_cons_zero, List.set_cons_succ])
        refine wpAnyH_take (i := 17) (v := undef) rfl (by kernel_rfl) (by kernel_rfl) (by kernel_rfl) (fun _ _ _ h => h) (Or.inr ⟨by kernel_rfl, rfl⟩) hS ?_
        change wpAnyH _ _ _ _ _ _ _ (Act.put _ (some 31) (undef)) _
        (try simp only [Act.put, List.setIfInBounds_toArray, List.set_cons_zero, List.set_cons_succ])
        refine wpAnyH_take (i := 18) (v := undef) rfl (by kernel_rfl) (by kernel_rfl) (by kernel_rfl) (fun _ _ _ h => h) (Or.inr ⟨by kernel_rfl, rfl⟩) hS ?_
        change wpAnyH _ _ _ _ _ _ _ (Act.put _ (some 32) (undef)) _
        (try simp only [Act.put, List.setIfInBounds_toArray, List.set_cons_zero, List.set_cons_succ])
        refine wpAnyH_take (i := 19) (v := undef) rfl (by kernel_rfl) (by kernel_rfl) (by kernel_rfl) (fun _ _ _ h => h) (Or.inr ⟨by kernel_rfl, rfl⟩) hS ?_
        change wpAnyH _ _ _ _ _ _ _ (Act.put _ (some 33) (undef)) _
        (try simp only [Act.put, List.setIfInBounds_toArray, List.set_cons_zero, List.set_cons_succ])
        refine wpAnyH_take (i := 20) (v := undef) rfl (by kernel_rfl) (by kernel_rfl) (by kernel_rfl) (fun _ _ _ h => h) (Or.inr ⟨by kernel_rfl, rfl⟩) hS ?_
        change wpAnyH _ _ _ _ _ _ _ (Act.put _ (some 34) (undef)) _
        (try simp only [Act.put, List.setIfInBounds_toArray, List.set_cons_zero, List.set_cons_succ])
        refine wpAnyH_take (i := 21) (v := .bool false) rfl (by kernel_rfl) (by kernel_rfl) (by kernel_rfl) (fun _ _ _ h => h) (Or.inl ⟨by kernel_rfl, fun w9 hSw => ?_⟩) hS ?_
        · obtain ⟨s1, s2⟩ := hSw
          go_simp
        change wpAnyH _ _ _ _ _ _ _ (Act.put _ (some 35) (.bool false)) _
        (try simp only [Act.put, List.setIfInBounds_toArray, List.set_cons_zero, List.set_cons_succ])
        refine wpAnyH_done (by kernel_rfl) ?_ _
        (try simp only [Act.put, List.setIfInBounds_toArray, List.set_cons_zero, List.set_cons_succ])
        all_goals
          go_wp2_with fail
          go_roundw
          case rel => exact ⟨i + 1, by omega, by go_num, rfl, bel_step HBr.out HB9.out⟩
          case measure => simp [intOf]; omega
      · obtain rfl : i = wn := by omega
        have hltI : ¬ (i : Int) < (i : Int) := by omega
        clear hb
        go_wp2_with fail
        go_ret
        exact ⟨none, ⟨0, rfl⟩, .inl rfl, bel_step HB.out HBr.out⟩
  · obtain ⟨kk, rfl, hkl⟩ : ∃ m : Nat, k = (m : Int) ∧ m < L.length := ⟨k.toNat, by omega, by omega⟩
    have hkn : kk < ln := by have := HRL.out; omega
    have e1 : decide ((0 : Int) ≤ (kk : Int) ∧ (kk : Int) < (ln : Int)) = true := by rw [decide_eq_true_iff]; omega
    simp only [e1] at HIN
    obtain ⟨q, hq⟩ : ∃ q, L.getD kk [] = q := ⟨_, rfl⟩
    have hfin : finV L V kk = finN V q wn := by
      unfold finV fin finN
      rw [if_neg hk, Int.toNat_natCast, hq, HWL.out]
    have hR : ∀ e w', (∃ a c, e = Ending.returned (.slice a (finN V q wn).length c) ∧ OwnK .i64 w.heap.size w' a (finN V q wn) ∧ Below w.heap.size w w') → REndsR L V kk w e w' := fun e w' h => by unfold REndsR; rw [hfin]; exact h
    refine Calls.mono ?_ hR
    obtain ⟨ai, ci, ea, sa, ea3, ea4⟩ := HR.out.each kk hkn
    obtain ⟨b, o, rfl, hc⟩ : ∃ b o, la = some ⟨b, o, none⟩ ∧ W.cell? ⟨b, o + kk, none⟩ = some (.slice ai (L.getD kk []).length ci) := by
      rcases HR.out.cells with h0 | ⟨b, o, ee, hc⟩
      · omega
      · exact ⟨b, o, ee, by rw [hc kk hkn, ea]⟩
    rw [hq] at hc sa ea3
    obtain ⟨m, hm⟩ : ∃ m, q.length = m := ⟨_, rfl⟩
    rw [hm] at hc sa ea3
    have HSA := Lib.hid sa
    have HHC := Lib.hid hc
    have hmax : max (kk : Int) 0 = (kk : Int) := by omega
    obtain ⟨l1, hl1⟩ : ∃ l1, ln - 1 = l1 := ⟨_, rfl⟩
    have hlm : (ln : Int) - 1 = (l1 : Int) := by omega
    have hmin : min (kk : Int) (l1 : Int) = (kk : Int) := by omega
    have hl1w : IntKind.i64.wrap (l1 : Int) = (l1 : Int) := by simp [IntKind.wrap, IntKind.bits, IntKind.signed]; omega
    have hkI : (kk : Int) < (ln : Int) := by omega
    have hk0 : (0 : Int) ≤ (kk : Int) := Int.natCast_nonneg _
    have HMX := Lib.hid (And.intro hmax (And.intro hlm (And.intro hmin hl1w)))
    clear e1 hfin hk hR ea sa hc hq hm hl1 hkl hmax hlm hmin hl1w
    go_enter Try.func12, Try.ntmps12
    go_upto_region 1 with fail
    try rw [hW]
    clear hW
    go_wp2_with fail
    go_loopw [5, 6] (fun s5 s6 wr => ∃ i : Nat, i ≤ wn ∧ s6 = .int .i64 i ∧ wr.ownsRow W.heap.size 3 1 s5 (finN V q i).length ((finN V q i).map (Value.int .i64)) ∧ Below W.heap.size W wr) (fun _ s6 _ => wn - (intOf s6).toNat)
    case atStart => exact ⟨0, Nat.zero_le _, rfl, HO0.out, Below.refl _ _⟩
    case round =>
      obtain ⟨i, hi', rfl, hrow, hb⟩ := hrel
      have HROW := Lib.hid hrow
      have HBr := Lib.hid hb
      obtain ⟨x0, x1⟩ := (HT.out.later hb).cells
      by_cases hlt : i < wn
      · have hltI : (i : Int) < (wn : Int) := by omega
        have hi0 : (0 : Int) ≤ (i : Int) := Int.natCast_nonneg _
        have hRr := HRW.out.later hb
        obtain ⟨aj, cj, e1, e2, e3, e4⟩ := hRr.each i hlt
        obtain ⟨b2, o2, rfl, hc2⟩ : ∃ b o, wa = some ⟨b, o, none⟩ ∧ wr.cell? ⟨b, o + i, none⟩ = some (.slice aj (V.getD i []).length cj) := by
          rcases hRr.cells with h0 | ⟨b, o, e, hc⟩
          · omega
          · exact ⟨b, o, e, by rw [hc i hlt, e1]⟩
        have hpos : 0 < (V.getD i []).length := List.length_pos_iff.2 (HNE.out _ (gD_mem (d := []) (by rw [HWL.out]; exact hlt)))
        have hc := cell_later hb HHC.out
        have HLA := Lib.hid (fun W' (hb' : Below wr.heap.size wr W') => refLast_tr (ca := ci) (cb := cj) ((HSA.out.below hb).below hb') (e2.below hb') hpos ea3 ea4 (by omega))
        have HSU := Lib.hid (finN_succ V q i)
        have hdl := finN_len V q i
        obtain ⟨mj, hmj⟩ : ∃ m, (V.getD i []).length = m := ⟨_, rfl⟩
        rw [hmj] at HLA hc2
        obtain ⟨z, hz⟩ : ∃ z, decide (V.getD i [] <:+ q) = z := ⟨_, rfl⟩
        rw [hz] at HLA
        have HZ := Lib.hid hz
        obtain ⟨D, hD⟩ : ∃ D, finN V q i = D := ⟨_, rfl⟩
        rw [hD] at HROW HSU hdl
        obtain ⟨nd, hnd⟩ : ∃ nd, D.length = nd := ⟨_, rfl⟩
        rw [hnd] at HROW hdl
        have HND := Lib.hid hnd
        clear hrow hb hRr e1 e2 e3 e4 hmj hz hD hnd hpos
        go_wp2_with fail
        obtain ⟨hmax, hlm, hmin, hl1w⟩ := HMX.out
        have hS : wr.drew.cell? ⟨w.heap.size, 0, none⟩ = some (.slice (some ⟨b, o, none⟩) ln lc) ∧ wr.drew.cell? ⟨w.heap.size, 1, none⟩ = some (.slice (some ⟨b2, o2, none⟩) wn wc) ∧ wr.drew.cell? ⟨b, o + kk, none⟩ = some (.slice ai m ci) ∧ wr.drew.cell? ⟨b2, o2 + i, none⟩ = some (.slice aj mj cj) := ⟨x0, x1, hc, hc2⟩
        refine wp_region_held_drew (S := fun w' => w'.cell? ⟨w.heap.size, 0, none⟩ = some (.slice (some ⟨b, o, none⟩) ln lc) ∧ w'.cell? ⟨w.heap.size, 1, none⟩ = some (.slice (some ⟨b2, o2, none⟩) wn wc) ∧ w'.cell? ⟨b, o + kk, none⟩ = some (.slice ai m ci) ∧ w'.cell? ⟨b2, o2 + i, none⟩ = some (.slice aj mj cj)) (by kernel_rfl) hS (fun _ => ?_)
        refine wpAnyH_take (i := 0) (v := .agg #[.slice (some ⟨b, o, none⟩) ln lc, .slice (some ⟨b2, o2, none⟩) wn wc]) rfl (by kernel_rfl) (by kernel_rfl) (by kernel_rfl) (fun _ _ _ h => h) (Or.inl ⟨by kernel_rfl, fun w9 hSw => ?_⟩) hS ?_
        · obtain ⟨s1, s2, s3, s4⟩ := hSw
          go_simp
        change wpAnyH _ _ _ _ _ _ _ (Act.put _ (some 14) (.agg #[.slice (some ⟨b, o, none⟩) ln lc, .slice (some ⟨b2, o2, none⟩) wn wc])) _
        (try simp only [Act.put, List.setIfInBounds_toArray, List.set_cons_zero, List.set_cons_succ])
        refine wpAnyH_take (i := 1) (v := .int .i64 (kk : Int)) rfl (by kernel_rfl) (by kernel_rfl) (by kernel_rfl) (fun _ _ _ h => h) (Or.inl ⟨by kernel_rfl, fun w9 hSw => ?_⟩) hS ?_
        · obtain ⟨s1, s2, s3, s4⟩ := hSw
          go_simp
        change wpAnyH _ _ _ _ _ _ _ (Act.put _ (some 15) (.int .i64 (kk : Int))) _
        (try simp only [Act.put, List.setIfInBounds_toArray, List.set_cons_zero, List.set_cons_succ])
        refine wpAnyH_ready (rs := [2]) (by kernel_rfl) (by simp) ?_
        refine AllReadyH.cons rfl (fun K hK => ?_) AllReadyH.nil
        go_simp
        refine (HIN.out _).mono ?_
        rintro e w9 ⟨rfl, hb9⟩
        have HB9 := Lib.hid (bel_und hb9)
        have hS2 := And.intro (cell_later hb9 hS.1) (And.intro (cell_later hb9 hS.2.1) (And.intro (cell_later hb9 hS.2.2.1) (cell_later hb9 hS.2.2.2)))
        refine hK.out _ _ hS2 (fun _ => ?_)
        clear hK K
        (try simp only [Act.put, List.setIfInBounds_toArray, List.set_cons_zero, List.set_cons_succ])
        clear hS hb9
        have hS := hS2
        clear hS2
        refine wpAnyH_take (i := 3) (v := .bool true) rfl (by kernel_rfl) (by kernel_rfl) (by kernel_rfl) (fun _ _ _ h => h) (Or.inl ⟨by kernel_rfl, fun w9 hSw => ?_⟩) hS ?_
        · obtain ⟨s1, s2, s3, s4⟩ := hSw
          go_simp
        change wpAnyH _ _ _ _ _ _ _ (Act.put _ (some 17) (.bool true)) _
        (try simp only [Act.put, List.setIfInBounds_toArray, List.set_cons_zero, List.set_cons_succ])
        refine wpAnyH_take (i := 4) (v := .pointer (some ⟨w.heap.size, 0, none⟩)) rfl (by kernel_rfl) (by kernel_rfl) (by kernel_rfl) (fun _ _ _ h => h) (Or.inl ⟨by kernel_rfl, fun w9 hSw => ?_⟩) hS ?_
        · obtain ⟨s1, s2, s3, s4⟩ := hSw
          go_simp
        change wpAnyH _ _ _ _ _ _ _ (Act.put _ (some 18) (.pointer (some ⟨w.heap.size, 0, none⟩))) _
        (try simp only [Act.put, List.setIfInBounds_toArray, List.set_cons_zero, List.set_cons_succ])
        refine wpAnyH_take (i := 5) (v := .slice (some ⟨b, o, none⟩) ln lc) rfl (by kernel_rfl) (by kernel_rfl) (by kernel_rfl) (fun _ _ _ h => h) (Or.inl ⟨by kernel_rfl, fun w9 hSw => ?_⟩) hS ?_
        · obtain ⟨s1, s2, s3, s4⟩ := hSw
          go_simp
        change wpAnyH _ _ _ _ _ _ _ (Act.put _ (some 19) (.slice (some ⟨b, o, none⟩) ln lc)) _
        (try simp only [Act.put, List.setIfInBounds_toArray, List.set_cons_zero, List.set_cons_succ])
        refine wpAnyH_take (i := 6) (v := .int .i64 (kk : Int)) rfl (by kernel_rfl) (by kernel_rfl) (by kernel_rfl) (fun _ _ _ h => h) (Or.inl ⟨by kernel_rfl, fun w9 hSw => ?_⟩) hS ?_
        · obtain ⟨s1, s2, s3, s4⟩ := hSw
          go_simp
        change wpAnyH _ _ _ _ _ _ _ (Act.put _ (some 20) (.int .i64 (kk : Int))) _
        (try simp only [Act.put, List.setIfInBounds_toArray, List.set_cons_zero, List.set_cons_succ])
        refine wpAnyH_take (i := 7) (v := .int .i64 (kk : Int)) rfl (by kernel_rfl) (by kernel_rfl) (by kernel_rfl) (fun _ _ _ h => h) (Or.inl ⟨by kernel_rfl, fun w9 hSw => ?_⟩) hS ?_
        · obtain ⟨s1, s2, s3, s4⟩ := hSw
          go_simp
        change wpAnyH _ _ _ _ _ _ _ (Act.put _ (some 21) (.int .i64 (kk : Int))) _
        (try simp only [Act.put, List.setIfInBounds_toArray, List.set_cons_zero, List.set_cons_succ])
        refine wpAnyH_take (i := 8) (v := .pointer (some ⟨w.heap.size, 0, none⟩)) rfl (by kernel_rfl) (by kernel_rfl) (by kernel_rfl) (fun _ _ _ h => h) (Or.inl ⟨by kernel_rfl, fun w9 hSw => ?_⟩) hS ?_
        · obtain ⟨s1, s2, s3, s4⟩ := hSw
          go_simp
        change wpAnyH _ _ _ _ _ _ _ (Act.put _ (some 22) (.pointer (some ⟨w.heap.size, 0, none⟩))) _
        (try simp only [Act.put, List.setIfInBounds_toArray, List.set_cons_zero, List.set_cons_succ])
        refine wpAnyH_take (i := 9) (v := .slice (some ⟨b, o, none⟩) ln lc) rfl (by kernel_rfl) (by kernel_rfl) (by kernel_rfl) (fun _ _ _ h => h) (Or.inl ⟨by kernel_rfl, fun w9 hSw => ?_⟩) hS ?_
        · obtain ⟨s1, s2, s3, s4⟩ := hSw
          go_simp
        change wpAnyH _ _ _ _ _ _ _ (Act.put _ (some 23) (.slice (some ⟨b, o, none⟩) ln lc)) _
        (try simp only [Act.put, List.setIfInBounds_toArray, List.set_cons_zero, List.set_cons_succ])
        refine wpAnyH_take (i := 10) (v := .int .i64 (ln : Int)) rfl (by kernel_rfl) (by kernel_rfl) (by kernel_rfl) (fun _ _ _ h => h) (Or.inl ⟨by kernel_rfl, fun w9 hSw => ?_⟩) hS ?_
        · obtain ⟨s1, s2, s3, s4⟩ := hSw
          go_simp
        change wpAnyH _ _ _ _ _ _ _ (Act.put _ (some 24) (.int .i64 (ln : Int))) _
        (try simp only [Act.put, List.setIfInBounds_toArray, List.set_cons_zero, List.set_cons_succ])
        refine wpAnyH_take (i := 11) (v := .int .i64 (l1 : Int)) rfl (by kernel_rfl) (by kernel_rfl) (by kernel_rfl) (fun _ _ _ h => h) (Or.inl ⟨by kernel_rfl, fun w9 hSw => ?_⟩) hS ?_
        · obtain ⟨s1, s2, s3, s4⟩ := hSw
          go_simp
        change wpAnyH _ _ _ _ _ _ _ (Act.put _ (some 25) (.int .i64 (l1 : Int))) _
        (try simp only [Act.put, List.setIfInBounds_toArray, List.set_cons_zero, List.set_cons_succ])
        refine wpAnyH_take (i := 12) (v := .int .i64 (kk : Int)) rfl (by kernel_rfl) (by kernel_rfl) (by kernel_rfl) (fun _ _ _ h => h) (Or.inl ⟨by kernel_rfl, fun w9 hSw => ?_⟩) hS ?_
        · obtain ⟨s1, s2, s3, s4⟩ := hSw
          go_simp
        change wpAnyH _ _ _ _ _ _ _ (Act.put _ (some 26) (.int .i64 (kk : Int))) _
        (try simp only [Act.put, List.setIfInBounds_toArray, List.set_cons_zero, List.set_cons_succ])
        refine wpAnyH_take (i := 13) (v := .pointer (some ⟨b, o + kk, none⟩)) rfl (by kernel_rfl) (by kernel_rfl) (by kernel_rfl) (fun _ _ _ h => h) (Or.inl ⟨by kernel_rfl, fun w9 hSw => ?_⟩) hS ?_
        · obtain ⟨s1, s2, s3, s4⟩ := hSw
          go_simp
        change wpAnyH _ _ _ _ _ _ _ (Act.put _ (some 27) (.pointer (some ⟨b, o + kk, none⟩))) _
        (try simp only [Act.put, List.setIfInBounds_toArray, List.set_cons_zero, List.set_cons_succ])
        refine wpAnyH_take (i := 14) (v := .slice ai m ci) rfl (by kernel_rfl) (by kernel_rfl) (by kernel_rfl) (fun _ _ _ h => h) (Or.inl ⟨by kernel_rfl, fun w9 hSw => ?_⟩) hS ?_
        · obtain ⟨s1, s2, s3, s4⟩ := hSw
          go_simp
        change wpAnyH _ _ _ _ _ _ _ (Act.put _ (some 28) (.slice ai m ci)) _
        (try simp only [Act.put, List.setIfInBounds_toArray, List.set_cons_zero, List.set_cons_succ])
        refine wpAnyH_take (i := 15) (v := .pointer (some ⟨w.heap.size, 1, none⟩)) rfl (by kernel_rfl) (by kernel_rfl) (by kernel_rfl) (fun _ _ _ h => h) (Or.inl ⟨by kernel_rfl, fun w9 hSw => ?_⟩) hS ?_
        · obtain ⟨s1, s2, s3, s4⟩ := hSw
          go_simp
        change wpAnyH _ _ _ _ _ _ _ (Act.put _ (some 29) (.pointer (some ⟨w.heap.size, 1, none⟩))) _
        (try simp only [Act.put, List.setIfInBounds_toArray, List.set_cons_zero, List.set_cons_succ])
        refine wpAnyH_take (i := 16) (v := .slice (some ⟨b2, o2, none⟩) wn wc) rfl (by kernel_rfl) (by kernel_rfl) (by kernel_rfl) (fun _ _ _ h => h) (Or.inl ⟨by kernel_rfl, fun w9 hSw => ?_⟩) hS ?_
        · obtain ⟨s1, s2, s3, s4⟩ := hSw
          go_simp
        change wpAnyH _ _ _ _ _ _ _ (Act.put _ (some 30) (.slice (some ⟨b2, o2, none⟩) wn wc)) _
        (try simp only [Act.put, List.setIfInBounds_toArray, List.set_cons_zero, List.set_cons_succ])
        refine wpAnyH_take (i := 17) (v := .int .i64 (i : Int)) rfl (by kernel_rfl) (by kernel_rfl) (by kernel_rfl) (fun _ _ _ h => h) (Or.inl ⟨by kernel_rfl, fun w9 hSw => ?_⟩) hS ?_
        · obtain ⟨s1, s2, s3, s4⟩ := hSw
          go_simp
        change wpAnyH _ _ _ _ _ _ _ (Act.put _ (some 31) (.int .i64 (i : Int))) _
        (try simp only [Act.put, List.setIfInBounds_toArray, List.set_cons_zero, List.set_cons_succ])
        refine wpAnyH_take (i := 18) (v := .pointer (some ⟨b2, o2 + i, none⟩)) rfl (by kernel_rfl) (by kernel_rfl) (by kernel_rfl) (fun _ _ _ h => h) (Or.inl ⟨by kernel_rfl, fun w9 hSw => ?_⟩) hS ?_
        · obtain ⟨s1, s2, s3, s4⟩ := hSw
          go_simp
        change wpAnyH _ _ _ _ _ _ _ (Act.put _ (some 32) (.pointer (some ⟨b2, o2 + i, none⟩))) _
        (try simp only [Act.put, List.setIfInBounds_toArray, List.set_cons_zero, List.set_cons_succ])
        refine wpAnyH_take (i := 19) (v := .slice aj mj cj) rfl (by kernel_rfl) (by kernel_rfl) (by kernel_rfl) (fun _ _ _ h => h) (Or.inl ⟨by kernel_rfl, fun w9 hSw => ?_⟩) hS ?_
        · obtain ⟨s1, s2, s3, s4⟩ := hSw
          go_simp
        change wpAnyH _ _ _ _ _ _ _ (Act.put _ (some 33) (.slice aj mj cj)) _
        (try simp only [Act.put, List.setIfInBounds_toArray, List.set_cons_zero, List.set_cons_succ])
        refine wpAnyH_ready (rs := [20]) (by kernel_rfl) (by simp) ?_
        refine AllReadyH.cons rfl (fun K hK => ?_) AllReadyH.nil
        go_simp
        refine (HLA.out _ HB9.out).mono ?_
        rintro e w10 ⟨rfl, hb10⟩
        have HB10 := Lib.hid (bel_step HB9.out hb10)
        have hS2 := And.intro (cell_later hb10 hS.1) (And.intro (cell_later hb10 hS.2.1) (And.intro (cell_later hb10 hS.2.2.1) (cell_later hb10 hS.2.2.2)))
        refine hK.out _ _ hS2 (fun _ => ?_)
        clear hK K
        (try simp only [Act.put, List.setIfInBounds_toArray, List.set_cons_zero, List.set_cons_succ])
        clear hS hb10
        have hS := hS2
        clear hS2
        refine wpAnyH_take (i := 21) (v := .bool z) rfl (by kernel_rfl) (by kernel_rfl) (by kernel_rfl) (fun _ _ _ h => h) (Or.inl ⟨by kernel_rfl, fun w9 hSw => ?_⟩) hS ?_
        · obtain ⟨s1, s2, s3, s4⟩ := hSw
          go_simp
        change wpAnyH _ _ _ _ _ _ _ (Act.put _ (some 35) (.bool z)) _
        (try simp only [Act.put, List.setIfInBounds_toArray, List.set_cons_zero, List.set_cons_succ])
        refine wpAnyH_done (by kernel_rfl) ?_ _
        (try simp only [Act.put, List.setIfInBounds_toArray, List.set_cons_zero, List.set_cons_succ])
        have HROW9 := Lib.hid (own_of_block HROW.out fun g hg => HB10.out.block g (HROW.out.lt g hg).2)
        have HBX := Lib.hid (bel_step HBr.out HB10.out)
        have hsz10 := HBX.out.size
        clear hS hmax hlm hmin hl1w
        cases z with
        | true =>
          have hs := HSU.out
          rw [if_pos (of_decide_eq_true HZ.out)] at hs
          have HS := Lib.hid hs
          clear hs HSU
          obtain ⟨v3, c3, rfl⟩ := Tr.own_form HROW9.out
          go_wp2_with (at_builtin; refine wpList_append_lies _ rfl _ _ 29 rfl W.heap.size 3 i0 (.int .i64 0) 1 8 Try.underlying29 hi hz0 hz1 hz2 rfl (by decide) _ nd _ rfl (HROW9.out.alloc _) ⟨w10.heap.size, 0, none⟩ 1 1 [.int .i64 i] rfl rfl (one_newT2 _ _ _) (by simp [Value.oneCell']) (by omega) (by unfold maxLen; omega) (by omega) (by simp; omega) _ rfl ?_; intro gg cc w5 hown hgrow hat _; have HOWN := Lib.hid hown; have HG := Lib.hid hgrow; clear hown hgrow hat)
          go_roundw
          case rel =>
            refine ⟨i + 1, by omega, by go_num, ?_, HBX.out.grown (grown_trans2 HG.out) hsz10 (fun j e => (HROW9.out.lt j e).1)⟩
            rw [HS.out, List.length_append, List.length_singleton, HND.out, List.map_append]
            exact HOWN.out
          case measure => simp [intOf]; omega
        | false =>
          have hs := HSU.out
          rw [if_neg (of_decide_eq_false HZ.out)] at hs
          have HS := Lib.hid hs
          clear hs HSU
          obtain ⟨v3, c3, rfl⟩ := Tr.own_form HROW9.out
          go_wp2_with fail
          go_roundw
          case rel =>
            refine ⟨i + 1, by omega, by go_num, ?_, HBX.out⟩
            rw [HS.out, HND.out]
            exact HROW9.out
          case measure => simp [intOf]; omega
      · obtain rfl : i = wn := by omega
        have hltI : ¬ (i : Int) < (i : Int) := by omega
        obtain ⟨ad, cp, rfl, hown, _⟩ := ownK_row rfl HROW.out
        have HOW := Lib.hid hown
        clear hrow hb hown
        go_wp2_with fail
        go_ret
        exact ⟨ad, ⟨cp, rfl⟩, HOW.out.mono HB.out.size, bel_step HB.out HBr.out⟩
end Go.Proofs.Ytehmbnloplamaaa

namespace Go.Proofs.Ytehmbnloplamaaa
set_option linter.unusedVariables false
open Tr Au
namespace Au
theorem st_zero {L : LL} (hI : Inv L) (l : List Int) : ∀ i, i ≤ l.length → st L 0 l i = (deep L (l.take i) : Nat)
  | 0, _ => by
    show (0 : Int) = _
    rw [List.take_zero, deep_nil hI]; rfl
  | i + 1, h => by
    show nextV L (st L 0 l i) (l.getD i 0) = _
    rw [st_zero hI l i (by omega), next_run hI, gD (show i < l.length by omega), ← List.take_succ_eq_append_getElem (by omega)]
theorem runs_at {L : LL} {k : Int} {l : List Int} {n i : Nat} (h : i < n) : (runs L k l n).getD i 0 = st L k l (i + 1) := by
  unfold runs
  rw [gD (by simpa using h), List.getElem_map, List.getElem_range]
theorem runs_deep {L : LL} (hI : Inv L) {l : List Int} {i : Nat} (h : i < l.length) : (runs L 0 l l.length).getD i 0 = (deep L (l.take (i + 1)) : Nat) := by
  rw [runs_at h, st_zero hI l (i + 1) h]
theorem fin_deep {L V : LL} (hI : Iw L V) (x : List Int) : finV L V (deep L x : Nat) = fin V x := by
  rw [fin_at (deep_lt hI.inv x), deep_at hI.inv, fin_suf (fun y hy => (hI.ws y hy).1)]
theorem fin_has {V : LL} {q : List Int} {j : Nat} (h : j < V.length) : decide ((j : Int) ∈ fin V q) = decide (V.getD j [] <:+ q) := by
  rw [decide_eq_decide, mem_fin]
  constructor
  · rintro ⟨i, e, _, h2⟩
    obtain rfl : j = i := by omega
    exact h2
  · intro h2
    exact ⟨j, rfl, h, h2⟩
/-- one more looked at -/
theorem any_succ {e : List Int} {m : Nat} (h : m < e.length) (j : Int) : (decide (j ∈ e.take m) || (e.getD m 0 == j)) = decide (j ∈ e.take (m + 1)) := by
  have hm : j ∈ e.take (m + 1) ↔ j ∈ e.take m ∨ j = e[m] := by rw [List.take_succ_eq_append_getElem h, List.mem_append, List.mem_singleton]
  rw [gD h, show decide (j ∈ e.take (m + 1)) = decide (j ∈ e.take m ∨ j = e[m]) from decide_eq_decide.2 hm]
  by_cases h2 : e[m] = j
  · rw [decide_eq_true (Or.inr h2.symm), h2, beq_self_eq_true, Bool.or_true]
  · rw [beq_false_of_ne h2, Bool.or_false, decide_eq_decide]
    exact ⟨.inl, fun h => h.resolve_right fun e => h2 e.symm⟩
end Au
end Go.Proofs.Ytehmbnloplamaaa

namespace Go.Proofs.Ytehmbnloplamaaa
open Go.RowKit
set_option linter.unusedVariables false
open Tr Au
theorem rv_each {w : World} {la : Option Addr} {ln : Nat} {vs : List Value} {L : LL} (h : Rv w la ln vs L) (h0 : 0 < ln) : ∃ b o, la = some ⟨b, o, none⟩ ∧ ∀ i, i < ln → ∃ ai ci, (∀ w', Below w.heap.size w w' → w'.cell? ⟨b, o + i, none⟩ = some (.slice ai (L.getD i []).length ci)) ∧ (∀ w', Below w.heap.size w w' → SlK .u64 w' ai (L.getD i []).length (L.getD i [])) ∧ (L.getD i []).length ≤ ci ∧ ci ≤ 9223372036854775807 := by
  obtain ⟨b, o, e, hc⟩ : ∃ b o, la = some ⟨b, o, none⟩ ∧ ∀ i, i < ln → w.cell? ⟨b, o + i, none⟩ = some (vs.getD i (.bool false)) := by
    rcases h.cells with h1 | ⟨b, o, e, hc⟩
    · omega
    · exact ⟨b, o, e, hc⟩
  refine ⟨b, o, e, fun i hi => ?_⟩
  obtain ⟨ai, ci, ea, h2, h3, h4⟩ := h.each i hi
  exact ⟨ai, ci, fun w' hb => cell_later hb (by rw [hc i hi, ea]), fun w' hb => h2.below hb, h3, h4⟩
theorem run_in {w : World} {B ab sb : Nat} {rv : Nat → Value} {L V : LL} (h : AuP w B ab sb rv L V) (hI : Iw L V) {k : Int} (h0 : 0 ≤ k) (hk : k < (L.length : Int)) {a : Option Addr} {m c : Nat} {l : List Int} (hs : SlK .u64 w a m l) (hm9 : m ≤ 1000) :
    Calls Try.prog 24 #[.pointer (some ⟨ab, 0, none⟩), .int .i64 k, .slice a m c] w fun e w' => ∃ ra rc, e = .returned (.slice ra m rc) ∧ (∀ w'', Below w'.heap.size w' w'' → SlK .i64 w'' ra m (runs L k l m)) ∧ Below w.heap.size w w' := by
  refine (run_P h hI k hs hm9).mono ?_
  intro e w' hr
  unfold RunR at hr
  rw [if_neg (by omega), if_neg (by omega)] at hr
  obtain ⟨ra, rc, e1, e2, e3⟩ := hr
  rw [hs.1] at e1 e2
  have := e2.sl
  rw [runs_len] at this
  exact ⟨ra, rc, e1, fun w'' hb => this.below hb, e3⟩
theorem run_out {w : World} {B ab sb : Nat} {rv : Nat → Value} {L V : LL} (h : AuP w B ab sb rv L V) (hI : Iw L V) {k : Int} (hk : k < 0 ∨ (L.length : Int) ≤ k) {a : Option Addr} {m c : Nat} {l : List Int} (hs : SlK .u64 w a m l) (hm9 : m ≤ 1000) :
    Calls Try.prog 24 #[.pointer (some ⟨ab, 0, none⟩), .int .i64 k, .slice a m c] w fun e w' => ∃ ra rc, e = .returned (.slice ra 0 rc) ∧ Below w.heap.size w w' := by
  refine (run_P h hI k hs hm9).mono ?_
  intro e w' hr
  unfold RunR at hr
  rw [if_pos hk, if_pos hk] at hr
  obtain ⟨ra, rc, e1, e2, e3⟩ := hr
  exact ⟨ra, rc, e1, e3⟩
theorem deepest_all {w : World} {la wa pa : Option Addr} {ln lc wn wc pn pc : Nat} {vs : List Value} {L : LL} {p : List Int} (h : Rv w la ln vs L) (hI : Inv L) (hn : ln ≤ 9223372036854775807) (hp : SlK .u64 w pa pn p) (hpc : pn ≤ pc) (hpc9 : pc ≤ 9223372036854775807) :
    Calls Try.prog 25 #[.agg #[.slice la ln lc, .slice wa wn wc], .slice pa pn pc, .int .i64 pn] w fun e w' => e = .returned (.int .i64 (deep L p : Nat)) ∧ Below w.heap.size w w' := by
  have := deepest_tr (wa := wa) (wn := wn) (wc := wc) (lc := lc) h hI hn hp hpc hpc9 (m := pn) (Nat.le_refl _)
  rwa [hp.1, Nat.sub_self, List.drop_zero] at this
/-- what a run reads, and what ends at each of its states -/
theorem run_facts {L V : LL} (hI : Iw L V) {X : List Int} {q k : Nat} (hq : X.length = q) (hk : k < q) : (runs L 0 X q).getD k 0 = (deep L (X.take (k + 1)) : Nat) ∧ finV L V (deep L (X.take (k + 1)) : Nat) = fin V (X.take (k + 1)) := by
  subst hq
  exact ⟨runs_deep hI.inv hk, fin_deep hI _⟩
theorem st_next {L : LL} (k : Int) (l : List Int) (i : Nat) : nextV L (st L k l i) (l.getD i 0) = st L k l (i + 1) := rfl
end Go.Proofs.Ytehmbnloplamaaa
