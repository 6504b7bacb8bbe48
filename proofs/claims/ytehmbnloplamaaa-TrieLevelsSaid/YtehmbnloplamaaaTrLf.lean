/- byDepth, Levels, and the iterator that Levels hands back. Condition: a tree of at most 1000 nodes that stands. -/
import Derived.Test.YtehmbnloplamaaaTrLe
import Derived.Test.YtehmbnloplamaaaTrQ
import Derived.Shelf.SlSortCmp.NoneTotal
namespace Go.Proofs.Ytehmbnloplamaaa
open Go.RowKit Go.Shelf
attribute [local go_sem] Oper.semAt_some
set_option linter.unusedVariables false
open Tr
def upL (k : Nat) : List Int := (List.range k).map fun i => ((i + 1 : Nat) : Int)
theorem upL_len (k : Nat) : (upL k).length = k := by simp [upL]
theorem upL_succ (k : Nat) : upL (k + 1) = upL k ++ [((k + 1 : Nat) : Int)] := by unfold upL; rw [List.range_succ, List.map_append, List.map_singleton]
def ByR (L : LL) (w : World) (e : Ending) (w' : World) : Prop := ∃ a c, e = .returned (.slice a (Au.order L).length c) ∧ OwnK .i64 w.heap.size w' a (Au.ints (Au.order L)) ∧ Below w.heap.size w w' ∧ ∀ g, a = some ⟨g, 0, none⟩ → w.heap.size ≤ g ∧ g < w'.heap.size
theorem ints_lenL (l : List Nat) : (Au.ints l).length = l.length := by simp [Au.ints]
theorem sort_none (a : Option Addr) (cap : Nat) (fv : Value) (w : World) : Calls Try.prog 66 #[.slice a 0 cap, fv] w fun e w' => e = .returned (.tuple #[]) ∧ w' = w :=
  AnyF.slices_SortFunc_none { Ly.sortF with } a cap fv w
set_option maxRecDepth 100000 in
set_option maxHeartbeats 1000000 in
theorem byDepth_tr {w : World} {B tb nb nc : Nat} {rv : Nat → Value} {L V : LL} (h : TrP w B tb nb nc rv L V) (hI : Inv L) (hlen : L.length ≤ 1000) :
    Calls Try.prog 54 #[.pointer (some ⟨tb, 0, none⟩)] w (ByR L w) := by
  obtain ⟨i0, hi, hz0, hz1, hz2⟩ := info_parts Try.info_int
  have HS := Lib.hid (Boxed.new w 53 (.pointer (some ⟨tb, 0, none⟩)))
  have HB := Lib.hid (box1T w (.cells #[.pointer (some ⟨tb, 0, none⟩)] 53))
  have HT := Lib.hid (h.later HB.out)
  obtain ⟨W, hW⟩ : ∃ W, w.alloc (.cells #[.pointer (some ⟨tb, 0, none⟩)] 53) = W := ⟨_, rfl⟩
  rw [hW] at HS HB HT
  obtain ⟨p, hp⟩ : ∃ p, w.heap.size = p := ⟨_, rfl⟩
  have HPE := Lib.hid hp
  rw [hp] at HS
  have HPL : Hid (p < W.heap.size) := Lib.hid (block_lt_of_cell HS.out.cell)
  have HFP : Hid (∀ g, Fp tb nb L.length rv g → g < p) := Lib.hid fun g hg => by rw [← hp]; exact (TrX.lt h hg).2
  have HO0 := Lib.hid (World.ownsRow_nil W W.heap.size 3 1)
  have hpos := hI.pos
  have HOL := Lib.hid (Au.order_len hI)
  obtain ⟨m, hm⟩ : ∃ m, L.length = m := ⟨_, rfl⟩
  have HM := Lib.hid hm
  have hm9 : m ≤ 1000 := by omega
  have hm1 : 1 ≤ m := by omega
  clear h hlen hpos hm
  go_enter Try.func54, Try.ntmps54
  go_upto_region 1 with fail
  try rw [hW]
  try rw [hp]
  clear hW hp
  go_wp2_with fail
  go_loopw [3, 4] (fun s3 s4 wr => ∃ q : Nat, q + 1 ≤ m ∧ s4 = .int .i64 ((q + 1 : Nat) : Int) ∧ wr.ownsRow W.heap.size 3 1 s3 q ((upL q).map (Value.int .i64)) ∧ Below W.heap.size W wr) (fun _ s4 _ => m + 1 - (intOf s4).toNat)
  case atStart => exact ⟨0, hm1, rfl, HO0.out, Below.refl _ _⟩
  case round =>
    obtain ⟨q, hq, rfl, hrow, hb⟩ := hrel
    have HROW := Lib.hid hrow
    have HBr := Lib.hid hb
    have hsz := hb.size
    have HSZ := Lib.hid hsz
    have hTr := HT.out.later hb
    obtain ⟨b0, _⟩ := TrX.boxes hTr
    rw [HM.out] at b0
    have cp := cell_later hb HS.out.cell
    have HTr := Lib.hid hTr
    clear hrow hb hTr
    by_cases hlt : q + 1 < m
    · have hltI : ((q + 1 : Nat) : Int) < (m : Int) := by omega
      have HUP := Lib.hid (upL_succ q)
      obtain ⟨z, hz⟩ : ∃ z : Int, ((q + 1 : Nat) : Int) = z := ⟨_, rfl⟩
      have hz1' : z + 1 = ((q + 1 + 1 : Nat) : Int) := by omega
      have hz9 : 0 ≤ z ∧ z ≤ 1000 := by omega
      have HZ := Lib.hid hz1'
      rw [hz] at HUP hltI
      rw [hz]
      have HZ0 := Lib.hid hz
      clear hz hz1'
      go_wp2_with (at_builtin; refine wpList_append_lies _ rfl _ _ 29 rfl W.heap.size 3 i0 (.int .i64 0) 1 8 Try.underlying29 hi hz0 hz1 hz2 rfl (by decide) _ q _ rfl (HROW.out.alloc _) ⟨wr.heap.size, 0, none⟩ 1 1 [.int .i64 z] rfl rfl (one_newT2 _ _ _) (by simp [Value.oneCell']) (by omega) (by unfold maxLen; omega) (by omega) (by simp; omega) _ rfl ?_; intro gg cc w5 hown hgrow hat _; have HOWN := Lib.hid hown; have HG := Lib.hid hgrow; clear hown hgrow hat)
      go_roundw
      case rel =>
        refine ⟨q + 1, by omega, by rw [← HZ.out], ?_, HBr.out.grown (grown_trans2 HG.out) HSZ.out (fun j e => (HROW.out.lt j e).1)⟩
        rw [HUP.out, List.map_append]
        exact HOWN.out
      case measure => rw [← HZ0.out]; simp [intOf]; omega
    · have hqm : q + 1 = m := by omega
      have HQM := Lib.hid hqm
      have hq9 : q ≤ 1000 := by omega
      have hltI : ¬ (m : Int) < (m : Int) := by omega
      rw [hqm]
      clear hqm hlt hq
      obtain ⟨a, c, rfl, hown, _⟩ := ownK_row (upL_len q) HROW.out
      have HOW := Lib.hid hown
      clear hown
      by_cases h0 : q = 0
      · have HSN : Hid (∀ fv, Calls Try.prog 66 #[.slice a q c, fv] wr fun e w' => e = .returned (.tuple #[]) ∧ w' = wr) := Lib.hid fun fv => by rw [h0]; exact sort_none a c fv wr
        have HOE : Hid ((Au.order L).length = q) := Lib.hid (by rw [HOL.out, HM.out]; have := HQM.out; omega)
        have HO2 : Hid (Au.ints (Au.order L) = []) := Lib.hid (List.eq_nil_of_length_eq_zero (by rw [ints_lenL, HOE.out]; exact h0))
        clear h0
        go_wp2_with (go_at_call 66; refine (HSN.out _).mono ?_; rintro e w5 ⟨rfl, rfl⟩)
        go_ret
        exact ⟨a, c, by rw [HOE.out]; rfl, .inl HO2.out, bel_step HB.out HBr.out, fun g eg => by
          have := HROW.out.lt g (by rw [eg]; rfl)
          have := HB.out.size
          omega⟩
      · obtain ⟨g, rfl, hg1, hg2, hcell, hfr⟩ : ∃ g, a = some ⟨g, 0, none⟩ ∧ W.heap.size ≤ g ∧ g < wr.heap.size ∧ (∀ i, i < q → wr.cell? ⟨g, i, none⟩ = some (.int .i64 ((upL q).getD i 0))) ∧ (∀ i, wr.frozen? ⟨g, i, none⟩ = false) := by
          rcases HOW.out with e | ⟨g, h1, h2, h3, h4, h5⟩
          · have := congrArg List.length e; rw [upL_len] at this; exact absurd this h0
          · exact ⟨g, h1, h2, h3, fun i hi => h4 i (by rw [upL_len]; exact hi), h5⟩
        have HSN := Lib.hid (sort_nodes HTr.out hI cp (by have := HPL.out; omega) (fun hF => by have := HFP.out g hF; have := HPL.out; omega) c (l := upL q) (n := q) (by rw [HM.out, show m - 1 = q by have := HQM.out; omega]; exact List.Perm.refl _) (upL_len q) hg2 (by omega) hcell hfr)
        have HG1 := Lib.hid hg1
        have HG2 := Lib.hid hg2
        have HOE : Hid ((Au.order L).length = q) := Lib.hid (by rw [HOL.out, HM.out]; have := HQM.out; omega)
        clear hcell hfr hg1 hg2 h0
        go_wp2_with (go_at_call 66; refine HSN.out.mono ?_; rintro e w5 ⟨rfl, mm, dd, os, hw5, hc5, hf5⟩; have HC5 := Lib.hid hc5; have HF5 := Lib.hid hf5; have HW5 := Lib.hid hw5; clear hw5 hc5 hf5)
        go_ret
        have hb5 : Below w.heap.size w w5 := by
          rw [HW5.out]
          exact sw_below (bel_step HB.out HBr.out) (by have := HG1.out; have := HPL.out; have := HPE.out; omega)
        refine ⟨some ⟨g, 0, none⟩, c, by rw [HOE.out]; rfl, .inr ⟨g, rfl, by have := HG1.out; have := HPL.out; have := HPE.out; omega, ?_, fun i hi => ?_, fun i => ?_⟩, hb5, fun g' eg => ?_⟩
        · rw [HW5.out]; exact Nat.lt_of_lt_of_le HG2.out (sw_size _ _ _ _ _ _)
        · rw [ints_lenL, HOE.out] at hi
          exact HC5.out i hi
        · exact HF5.out i
        · injection eg with eg; injection eg with eg; subst eg
          refine ⟨by have := HG1.out; have := HPL.out; have := HPE.out; omega, ?_⟩
          rw [HW5.out]; exact Nat.lt_of_lt_of_le HG2.out (sw_size _ _ _ _ _ _)
end Go.Proofs.Ytehmbnloplamaaa
