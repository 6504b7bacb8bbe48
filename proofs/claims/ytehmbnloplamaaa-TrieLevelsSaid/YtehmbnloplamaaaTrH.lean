/- The numbers of a node's children, by a tree. No condition. -/
import Derived.Test.YtehmbnloplamaaaTrG
namespace Go.Proofs.Ytehmbnloplamaaa
open Go.RowKit Go.Shelf
attribute [local go_sem] Oper.semAt_some
set_option linter.unusedVariables false
open Tr
theorem Try.info_pxT : (Try.prog.info? 39).map (fun i => (i.zero, i.size, i.bytes)) = some (some (.int .u64 0), 1, 8) := by kernel_rfl
theorem opIn_append {n l : Nat} {P : Program} {ops : Array Oper} {Q : Exit → Act → World → Prop} {K : Act → World → Prop} {a : Act} {w : World} {o : Oper} {E : Prop} (hgd : o.guard = none) (s x : Operand) (t : TypeId) (ho : o.op = .call { callee := .builtin .append, args := #[s, x], argTypes := #[t, t] })
    (v u v' : Value) (w' : World) (hs : a.eval s = v) (hx : a.eval x = u) (hr : (Builtin.append_ #[t, t] o.type #[v, u]).run P w = .ok v' w') (hK : K (a.put o.dst v') w') :
    if Region.wanted o (yielded ops a.tmps) = true then Oper.wpIn (Fence.wide.inRound l) n P o a w K Q else E := by
  have hw : Region.wanted o (yielded ops a.tmps) = true := by simp [Region.wanted, hgd]
  rw [if_pos hw]
  unfold Oper.wpIn
  refine ⟨fun _ _ => trivial, ?_⟩
  rw [Oper.semAt_eq _ _ _ (fun c => by rw [ho]; exact fun h => by cases h)]
  have e : (execOp a.eval o).run P w = .ok (.value v') w' := by
    simp [execOp, ho, resolve, invoke, builtin, hs, hx, hr, Result.andThen]
  rw [e]
  exact hK
theorem bel_undrew {m : Nat} {A B : World} (h : Below m A.drew B) : Below m A B := ⟨h.os, h.tape, h.output, h.size, h.block⟩
def KidsR (xs : List Int) (w : World) (e : Ending) (w' : World) : Prop := ∃ v, e = .returned v ∧ w'.ownsRow w.heap.size 39 1 v xs.length (xs.map (Value.int .u64)) ∧ Below w.heap.size w w'
set_option maxRecDepth 100000 in
set_option maxHeartbeats 2000000 in
theorem kids_tr {w : World} {B tb nb nc : Nat} {rv : Nat → Value} {L W : LL} (h : TrP w B tb nb nc rv L W) (k : Int) (hlen : L.length ≤ 1000) :
    Calls Try.prog 64 #[.pointer (some ⟨tb, 0, none⟩), .int .i64 k] w (KidsR (kidsV L k) w) := by
  obtain ⟨i0, hi, hz0, hz1, hz2⟩ := info_parts Try.info_pxT
  have HB1 := (box1T w (.cells #[.pointer (some ⟨tb, 0, none⟩)] 53))
  have HT := Lib.hid h
  refine calls_of_marks Try.func64 rfl ?_
  simp only [Try.ntmps64, List.size_toArray, List.length_cons, List.length_nil, Nat.reduceAdd, Nat.reduceSub, Array.replicate_succ, Array.replicate_zero, List.push_toArray, List.append_toArray, List.nil_append, List.cons_append]
  go_wp2_with (go_at_call 86; refine (children_made _ _ _).mono ?_; rintro e w2 ⟨x, y, rfl, hne, l1, l2, cx, cy, hb⟩)
  simp only [World.size_alloc] at l1 l2
  have lx : x < w2.heap.size := block_lt_of_cell cx
  have ly : y < w2.heap.size := block_lt_of_cell cy
  have hs2 := hb.size
  simp only [World.size_alloc] at hs2
  have hbel : Below w.heap.size w w2 := (((Below.refl _ _).alloc (Nat.le_refl _) _).alloc (by simp) _).trans (hb.mono (by simp; omega))
  have hT2 : TrP w2 B tb nb nc rv L W := HT.out.later hbel
  have hv0 : Boxed w2 (w.heap.size + 1) 43 (.slice none 0 0) := (hb.block _ (by simp)).trans (by have := Boxed.new (w.alloc (.cells #[.pointer (some ⟨tb, 0, none⟩)] 53)) 43 (.slice none 0 0); rwa [World.size_alloc] at this)
  have ht0 : Boxed w2 w.heap.size 53 (.pointer (some ⟨tb, 0, none⟩)) := (hb.block _ (by simp; omega)).trans (heap_old2 (Boxed.new w 53 (.pointer (some ⟨tb, 0, none⟩))) _)
  have hxs : ∃ xs : List Nat, GivesN Fence.wide 2 Try.prog 95 #[.pointer (some ⟨x, 0, none⟩), .pointer (some ⟨y, 0, none⟩)] (fun j : Nat => #[.int .i64 (j : Int)]) (Zq x y tb nb L.length rv w2) (Zy w2) xs w2 ∧ xs.map (num L) = kidsV L k ∧ xs.length ≤ 1000 ∧ ∀ j ∈ xs, j < L.length := by
    by_cases hk : out L k
    · exact ⟨[], children_none hT2 k hk cx cy 2 (by omega), by unfold kidsV; rw [if_pos hk]; rfl, by simp, fun j hj => by cases hj⟩
    · obtain ⟨n, rfl⟩ : ∃ n : Nat, k = (n : Int) := ⟨k.toNat, by omega⟩
      refine ⟨kids L n, children_gives hT2 n (by omega) cx cy 2 (by omega), ?_, Nat.le_trans (kids_len L n) hlen, fun j hj => (kids_mem.1 hj).1⟩
      unfold kidsV; rw [if_neg hk]; simp
  obtain ⟨xs, hGV, hxm, hxl, hxj⟩ := hxs
  have HXM := Lib.hid hxm
  have HXJ := Lib.hid hxj
  have hFl : ∀ g, Fp tb nb L.length rv g → g < w.heap.size := fun g hg => (TrX.lt HT.out hg).2
  have HFl := Lib.hid hFl
  have hzL : ¬ (Zq x y tb nb L.length rv w2 (w.heap.size + 1)) := by
    rintro (e | e | e)
    · omega
    · omega
    · have := hFl _ e; omega
  have hbase : ∀ j, w2.heap.size + 2 ≤ j → ¬ (Zq x y tb nb L.length rv w2 j ∨ j = w2.heap.size ∨ j = w2.heap.size + 1) := by
    rintro j hj (e | e | e)
    · rcases e with e | e | e
      · omega
      · omega
      · have := hFl _ e; omega
    · omega
    · omega
  have HBase := Lib.hid hbase
  have HZL := Lib.hid hzL
  clear hb cx cy hxm hxj hFl hT2 h hbase hzL
  refine range_wpN (gf := 95) (lb := #[.pointer (some ⟨x, 0, none⟩), .pointer (some ⟨y, 0, none⟩)]) rfl (enters_of Try.func95 (by kernel_rfl) rfl)
    hGV (fun k e => e.elim) (by rintro (e | e | e) <;> first | omega | (have := HFl.out _ e; omega)) (by rintro (e | e | e) <;> first | omega | (have := HFl.out _ e; omega)) (fun _ => rfl)
    (fun pre W' => ∃ v, Boxed W' (w.heap.size + 1) 43 v ∧ Boxed W' w.heap.size 53 (.pointer (some ⟨tb, 0, none⟩)) ∧ W'.ownsRow (w2.heap.size + 2) 39 1 v pre.length ((pre.map (num L)).map (Value.int .u64)) ∧ TrP W' B tb nb nc rv L W ∧ Below w.heap.size w W')
    (fun _ _ _ => False) ?hI (fun _ _ _ _ hh _ => hh) ⟨_, hv0, ht0, World.ownsRow_nil _ _ _ _, HT.out.later hbel, hbel⟩ ?_ ?assign ?body ?done ?stop
  case hI =>
    rintro pre A B' ⟨v, h1, h2, h3, h4, h5⟩ hs
    have hlow : ∀ j, j < w2.heap.size → ¬ (Zy w2 j ∨ j = w2.heap.size ∨ j = w2.heap.size + 1) := by rintro j hj (e | e | e) <;> first | exact e.elim | omega
    have h5s := h5.size
    refine ⟨v, boxed_sep h1 hs (hlow _ (by omega)), boxed_sep h2 hs (hlow _ (by omega)), ownsRow_sep h3 hs (fun k hk => by rintro (e | e | e) <;> first | exact e.elim | omega), TrX.of_blocks h4 fun g hg => ?_, h5.trans (hs.below h5s fun j hj => hlow j (by omega))⟩
    have := HFl.out g hg
    exact hs.block g (by omega) (hlow g (by omega))
  case assign =>
    intro l x W K hK
    gi_wp2
    exact hK
  case body =>
    rintro ll pre j rest W' hx hlt ⟨v, hv, ht, hrow, hT, hB⟩
    have hj : j < L.length := HXJ.out j (by rw [hx]; simp)
    have hpl : pre.length < 1000 := by have := congrArg List.length hx; simp at this; omega
    have HX := Lib.hid hx
    have hW := hB.size
    have hTd : TrP W'.drew B tb nb nc rv L W := hT.later ((Below.refl _ _).drew)
    have HNUM := Lib.hid (number_tr hTd hj)
    obtain ⟨xn, hxe⟩ : ∃ xn, num L j = xn := ⟨_, rfl⟩
    have HXE := Lib.hid hxe
    rw [hxe] at HNUM
    have hsl : SlK .u64 (W'.drew.alloc (.cells #[.int .u64 xn] 39)) (some ⟨W'.drew.heap.size, 0, none⟩) 1 [xn] := by
      refine ⟨rfl, .inr ⟨_, _, rfl, fun i hi => ?_⟩⟩
      obtain rfl : i = 0 := by omega
      exact (Boxed.new W'.drew 39 (.int .u64 xn)).cell
    obtain ⟨v', w5, hrun, hown', hgrow, hat⟩ := run_app (P := Try.prog) (w := W'.drew.alloc (.cells #[.int .u64 xn] 39)) (w2.heap.size + 2) 43 43 39 i0 .u64 8 Try.underlying43 hi hz0 hz1 hz2 v pre.length _ (World.ownsRow.alloc (show W'.drew.ownsRow _ _ _ _ _ _ from hrow) _) (some ⟨W'.drew.heap.size, 0, none⟩) 1 1 [xn] hsl (by unfold maxLen; omega) (by omega) (by rw [World.size_alloc]; show w2.heap.size + 2 ≤ W'.heap.size + 1; omega)
    obtain ⟨g', cap', rfl, _, _⟩ := hown'.form (by omega)
    obtain ⟨hv1, hv2, hr2, hh2, hb2⟩ := pushed (W := W'.drew) (show Boxed W'.drew (w.heap.size + 1) 43 v from hv) (by decide) (show W'.drew.ownsRow _ _ _ _ _ _ from hrow) hown' hgrow
    have hvc := hv.cell
    have htc := ht.cell
    have hvc2 := cell_later (box1T W' (.cells #[.int .u64 xn] 39)) hvc
    have hc1 := hv1.cell
    have hf1 := hv1.frozen
    have hHold := hh2 (fun k => Zq x y tb nb L.length rv w2 k ∨ k = w2.heap.size ∨ k = w2.heap.size + 1) (by rintro (e | e | e) <;> first | exact HZL.out e | omega) (fun k hk => HBase.out k hk)
    have hbz : Below w.heap.size W' (w5.setCell ⟨w.heap.size + 1, 0, none⟩ (.slice (some ⟨g', 0, none⟩) (pre.length + 1) cap')) := bel_undrew (hb2 w.heap.size (by omega) (by omega) hW)
    have htn : Boxed (w5.setCell ⟨w.heap.size + 1, 0, none⟩ (.slice (some ⟨g', 0, none⟩) (pre.length + 1) cap')) w.heap.size 53 (.pointer (some ⟨tb, 0, none⟩)) := (hb2 (w.heap.size + 1) (by omega) (by omega) (Nat.le_of_lt hv.lt) |>.block _ (by omega)).trans ht
    have hTn : TrP (w5.setCell ⟨w.heap.size + 1, 0, none⟩ (.slice (some ⟨g', 0, none⟩) (pre.length + 1) cap')) B tb nb nc rv L W := TrX.of_blocks hT fun g hg => hbz.block g (HFl.out g hg)
    have hleaf : Hold (fun k => Zq x y tb nb L.length rv w2 k ∨ k = w2.heap.size ∨ k = w2.heap.size + 1) W' (w5.setCell ⟨w.heap.size + 1, 0, none⟩ (.slice (some ⟨g', 0, none⟩) (pre.length + 1) cap')) ∧ ∃ v, Boxed (w5.setCell ⟨w.heap.size + 1, 0, none⟩ (.slice (some ⟨g', 0, none⟩) (pre.length + 1) cap')) (w.heap.size + 1) 43 v ∧ Boxed (w5.setCell ⟨w.heap.size + 1, 0, none⟩ (.slice (some ⟨g', 0, none⟩) (pre.length + 1) cap')) w.heap.size 53 (.pointer (some ⟨tb, 0, none⟩)) ∧ (w5.setCell ⟨w.heap.size + 1, 0, none⟩ (.slice (some ⟨g', 0, none⟩) (pre.length + 1) cap')).ownsRow (w2.heap.size + 2) 39 1 v (pre ++ [j]).length (((pre ++ [j]).map (num L)).map (Value.int .u64)) ∧ TrP (w5.setCell ⟨w.heap.size + 1, 0, none⟩ (.slice (some ⟨g', 0, none⟩) (pre.length + 1) cap')) B tb nb nc rv L W ∧ Below w.heap.size w (w5.setCell ⟨w.heap.size + 1, 0, none⟩ (.slice (some ⟨g', 0, none⟩) (pre.length + 1) cap')) := by
      refine ⟨⟨hHold.size, hHold.block⟩, _, hv2, htn, ?_, hTn, hB.trans hbz⟩
      rw [List.length_append, List.length_singleton, List.map_append, List.map_append, List.map_singleton, List.map_singleton, HXE.out]
      exact hr2
    have HLEAF := Lib.hid hleaf
    have HRUN := Lib.hid hrun
    clear hx hv ht hrow hT hB hTd hsl hrun hown' hgrow hat hv1 hv2 hr2 hh2 hb2 hHold hbz htn hTn hleaf hxe hGV hv0 ht0 hbel
    gi_wp2
    refine wpIn_region_any (by kernel_rfl) ?_
    (try (change wpAnyIn _ _ _ _ _ _ _ _ _ (World.drew _)))
    refine wpAnyIn_ready (rs := [0, 1, 2]) (by kernel_rfl) (by simp) ?_
    refine AllReadyIn.cons rfl (fun K hK => ?_) ?_
    · go_simp
      refine hK _ _ ?_
      clear hK K
      refine wpAnyIn_ready (rs := [1, 2]) (by kernel_rfl) (by simp) ?_
      refine AllReadyIn.cons rfl (fun K hK => ?_) ?_
      · go_simp
        refine hK _ _ ?_
        clear hK K
        refine wpAnyIn_ready (rs := [2]) (by kernel_rfl) (by simp) ?_
        refine AllReadyIn.cons rfl (fun K hK => ?_) ?_
        · go_simp
          refine hK _ _ ?_
          clear hK K
          refine wpAnyIn_ready (rs := [3]) (by kernel_rfl) (by simp) ?_
          refine AllReadyIn.cons rfl (fun K hK => ?_) ?_
          · go_simp
            gi_wp2_with (refine ⟨trivial, ?_⟩; gi_at_call 61; refine (((callsIn_wide (n := _)).2 HNUM.out).inRound ll).mono ?_; rintro e w9 ⟨rfl, rfl⟩)
            refine wpAnyIn_ready (rs := [4]) (by kernel_rfl) (by simp) ?_
            refine AllReadyIn.cons rfl (fun K hK => ?_) ?_
            · go_simp
              refine hK _ _ ?_
              clear hK K
              refine wpAnyIn_ready (rs := [5]) (by kernel_rfl) (by simp) ?_
              refine AllReadyIn.cons rfl (fun K hK => ?_) ?_
              · refine opIn_append rfl _ _ 43 rfl _ _ _ _ rfl rfl HRUN.out ?_
                refine hK _ _ ?_
                clear hK K
                refine wpAnyIn_ready (rs := [6]) (by kernel_rfl) (by simp) ?_
                refine AllReadyIn.cons rfl (fun K hK => ?_) ?_
                · go_simp
                  refine hK _ _ ?_
                  clear hK K
                  refine wpAnyIn_done (by kernel_rfl) ?_ _
                  gi_wp2
                  exact HLEAF.out
                exact AllReadyIn.nil
              exact AllReadyIn.nil
            exact AllReadyIn.nil
          exact AllReadyIn.nil
        exact AllReadyIn.nil
      refine AllReadyIn.cons rfl (fun K hK => ?_) ?_
      · go_simp
        refine hK _ _ ?_
        clear hK K
        refine wpAnyIn_ready (rs := [1]) (by kernel_rfl) (by simp) ?_
        refine AllReadyIn.cons rfl (fun K hK => ?_) ?_
        · go_simp
          refine hK _ _ ?_
          clear hK K
          refine wpAnyIn_ready (rs := [3]) (by kernel_rfl) (by simp) ?_
          refine AllReadyIn.cons rfl (fun K hK => ?_) ?_
          · go_simp
            gi_wp2_with (refine ⟨trivial, ?_⟩; gi_at_call 61; refine (((callsIn_wide (n := _)).2 HNUM.out).inRound ll).mono ?_; rintro e w9 ⟨rfl, rfl⟩)
            refine wpAnyIn_ready (rs := [4]) (by kernel_rfl) (by simp) ?_
            refine AllReadyIn.cons rfl (fun K hK => ?_) ?_
            · go_simp
              refine hK _ _ ?_
              clear hK K
              refine wpAnyIn_ready (rs := [5]) (by kernel_rfl) (by simp) ?_
              refine AllReadyIn.cons rfl (fun K hK => ?_) ?_
              · refine opIn_append rfl _ _ 43 rfl _ _ _ _ rfl rfl HRUN.out ?_
                refine hK _ _ ?_
                clear hK K
                refine wpAnyIn_ready (rs := [6]) (by kernel_rfl) (by simp) ?_
                refine AllReadyIn.cons rfl (fun K hK => ?_) ?_
                · go_simp
                  refine hK _ _ ?_
                  clear hK K
                  refine wpAnyIn_done (by kernel_rfl) ?_ _
                  gi_wp2
                  exact HLEAF.out
                exact AllReadyIn.nil
              exact AllReadyIn.nil
            exact AllReadyIn.nil
          exact AllReadyIn.nil
        exact AllReadyIn.nil
      exact AllReadyIn.nil
    refine AllReadyIn.cons rfl (fun K hK => ?_) ?_
    · go_simp
      refine hK _ _ ?_
      clear hK K
      refine wpAnyIn_ready (rs := [0, 2]) (by kernel_rfl) (by simp) ?_
      refine AllReadyIn.cons rfl (fun K hK => ?_) ?_
      · go_simp
        refine hK _ _ ?_
        clear hK K
        refine wpAnyIn_ready (rs := [2]) (by kernel_rfl) (by simp) ?_
        refine AllReadyIn.cons rfl (fun K hK => ?_) ?_
        · go_simp
          refine hK _ _ ?_
          clear hK K
          refine wpAnyIn_ready (rs := [3]) (by kernel_rfl) (by simp) ?_
          refine AllReadyIn.cons rfl (fun K hK => ?_) ?_
          · go_simp
            gi_wp2_with (refine ⟨trivial, ?_⟩; gi_at_call 61; refine (((callsIn_wide (n := _)).2 HNUM.out).inRound ll).mono ?_; rintro e w9 ⟨rfl, rfl⟩)
            refine wpAnyIn_ready (rs := [4]) (by kernel_rfl) (by simp) ?_
            refine AllReadyIn.cons rfl (fun K hK => ?_) ?_
            · go_simp
              refine hK _ _ ?_
              clear hK K
              refine wpAnyIn_ready (rs := [5]) (by kernel_rfl) (by simp) ?_
              refine AllReadyIn.cons rfl (fun K hK => ?_) ?_
              · refine opIn_append rfl _ _ 43 rfl _ _ _ _ rfl rfl HRUN.out ?_
                refine hK _ _ ?_
                clear hK K
                refine wpAnyIn_ready (rs := [6]) (by kernel_rfl) (by simp) ?_
                refine AllReadyIn.cons rfl (fun K hK => ?_) ?_
                · go_simp
                  refine hK _ _ ?_
                  clear hK K
                  refine wpAnyIn_done (by kernel_rfl) ?_ _
                  gi_wp2
                  exact HLEAF.out
                exact AllReadyIn.nil
              exact AllReadyIn.nil
            exact AllReadyIn.nil
          exact AllReadyIn.nil
        exact AllReadyIn.nil
      refine AllReadyIn.cons rfl (fun K hK => ?_) ?_
      · go_simp
        refine hK _ _ ?_
        clear hK K
        refine wpAnyIn_ready (rs := [0, 3]) (by kernel_rfl) (by simp) ?_
        refine AllReadyIn.cons rfl (fun K hK => ?_) ?_
        · go_simp
          refine hK _ _ ?_
          clear hK K
          refine wpAnyIn_ready (rs := [3]) (by kernel_rfl) (by simp) ?_
          refine AllReadyIn.cons rfl (fun K hK => ?_) ?_
          · go_simp
            gi_wp2_with (refine ⟨trivial, ?_⟩; gi_at_call 61; refine (((callsIn_wide (n := _)).2 HNUM.out).inRound ll).mono ?_; rintro e w9 ⟨rfl, rfl⟩)
            refine wpAnyIn_ready (rs := [4]) (by kernel_rfl) (by simp) ?_
            refine AllReadyIn.cons rfl (fun K hK => ?_) ?_
            · go_simp
              refine hK _ _ ?_
              clear hK K
              refine wpAnyIn_ready (rs := [5]) (by kernel_rfl) (by simp) ?_
              refine AllReadyIn.cons rfl (fun K hK => ?_) ?_
              · refine opIn_append rfl _ _ 43 rfl _ _ _ _ rfl rfl HRUN.out ?_
                refine hK _ _ ?_
                clear hK K
                refine wpAnyIn_ready (rs := [6]) (by kernel_rfl) (by simp) ?_
                refine AllReadyIn.cons rfl (fun K hK => ?_) ?_
                · go_simp
                  refine hK _ _ ?_
                  clear hK K
                  refine wpAnyIn_done (by kernel_rfl) ?_ _
                  gi_wp2
                  exact HLEAF.out
                exact AllReadyIn.nil
              exact AllReadyIn.nil
            exact AllReadyIn.nil
          exact AllReadyIn.nil
        refine AllReadyIn.cons rfl (fun K hK => ?_) ?_
        · go_simp
          gi_wp2_with (refine ⟨trivial, ?_⟩; gi_at_call 61; refine (((callsIn_wide (n := _)).2 HNUM.out).inRound ll).mono ?_; rintro e w9 ⟨rfl, rfl⟩)
          refine wpAnyIn_ready (rs := [0, 4]) (by kernel_rfl) (by simp) ?_
          refine AllReadyIn.cons rfl (fun K hK => ?_) ?_
          · go_simp
            refine hK _ _ ?_
            clear hK K
            refine wpAnyIn_ready (rs := [4]) (by kernel_rfl) (by simp) ?_
            refine AllReadyIn.cons rfl (fun K hK => ?_) ?_
            · go_simp
              refine hK _ _ ?_
              clear hK K
              refine wpAnyIn_ready (rs := [5]) (by kernel_rfl) (by simp) ?_
              refine AllReadyIn.cons rfl (fun K hK => ?_) ?_
              · refine opIn_append rfl _ _ 43 rfl _ _ _ _ rfl rfl HRUN.out ?_
                refine hK _ _ ?_
                clear hK K
                refine wpAnyIn_ready (rs := [6]) (by kernel_rfl) (by simp) ?_
                refine AllReadyIn.cons rfl (fun K hK => ?_) ?_
                · go_simp
                  refine hK _ _ ?_
                  clear hK K
                  refine wpAnyIn_done (by kernel_rfl) ?_ _
                  gi_wp2
                  exact HLEAF.out
                exact AllReadyIn.nil
              exact AllReadyIn.nil
            exact AllReadyIn.nil
          refine AllReadyIn.cons rfl (fun K hK => ?_) ?_
          · go_simp
            refine hK _ _ ?_
            clear hK K
            refine wpAnyIn_ready (rs := [0]) (by kernel_rfl) (by simp) ?_
            refine AllReadyIn.cons rfl (fun K hK => ?_) ?_
            · go_simp
              refine hK _ _ ?_
              clear hK K
              refine wpAnyIn_ready (rs := [5]) (by kernel_rfl) (by simp) ?_
              refine AllReadyIn.cons rfl (fun K hK => ?_) ?_
              · refine opIn_append rfl _ _ 43 rfl _ _ _ _ rfl rfl HRUN.out ?_
                refine hK _ _ ?_
                clear hK K
                refine wpAnyIn_ready (rs := [6]) (by kernel_rfl) (by simp) ?_
                refine AllReadyIn.cons rfl (fun K hK => ?_) ?_
                · go_simp
                  refine hK _ _ ?_
                  clear hK K
                  refine wpAnyIn_done (by kernel_rfl) ?_ _
                  gi_wp2
                  exact HLEAF.out
                exact AllReadyIn.nil
              exact AllReadyIn.nil
            exact AllReadyIn.nil
          exact AllReadyIn.nil
        exact AllReadyIn.nil
      exact AllReadyIn.nil
    refine AllReadyIn.cons rfl (fun K hK => ?_) ?_
    · go_simp
      refine hK _ _ ?_
      clear hK K
      refine wpAnyIn_ready (rs := [0, 1]) (by kernel_rfl) (by simp) ?_
      refine AllReadyIn.cons rfl (fun K hK => ?_) ?_
      · go_simp
        refine hK _ _ ?_
        clear hK K
        refine wpAnyIn_ready (rs := [1]) (by kernel_rfl) (by simp) ?_
        refine AllReadyIn.cons rfl (fun K hK => ?_) ?_
        · go_simp
          refine hK _ _ ?_
          clear hK K
          refine wpAnyIn_ready (rs := [3]) (by kernel_rfl) (by simp) ?_
          refine AllReadyIn.cons rfl (fun K hK => ?_) ?_
          · go_simp
            gi_wp2_with (refine ⟨trivial, ?_⟩; gi_at_call 61; refine (((callsIn_wide (n := _)).2 HNUM.out).inRound ll).mono ?_; rintro e w9 ⟨rfl, rfl⟩)
            refine wpAnyIn_ready (rs := [4]) (by kernel_rfl) (by simp) ?_
            refine AllReadyIn.cons rfl (fun K hK => ?_) ?_
            · go_simp
              refine hK _ _ ?_
              clear hK K
              refine wpAnyIn_ready (rs := [5]) (by kernel_rfl) (by simp) ?_
              refine AllReadyIn.cons rfl (fun K hK => ?_) ?_
              · refine opIn_append rfl _ _ 43 rfl _ _ _ _ rfl rfl HRUN.out ?_
                refine hK _ _ ?_
                clear hK K
                refine wpAnyIn_ready (rs := [6]) (by kernel_rfl) (by simp) ?_
                refine AllReadyIn.cons rfl (fun K hK => ?_) ?_
                · go_simp
                  refine hK _ _ ?_
                  clear hK K
                  refine wpAnyIn_done (by kernel_rfl) ?_ _
                  gi_wp2
                  exact HLEAF.out
                exact AllReadyIn.nil
              exact AllReadyIn.nil
            exact AllReadyIn.nil
          exact AllReadyIn.nil
        exact AllReadyIn.nil
      refine AllReadyIn.cons rfl (fun K hK => ?_) ?_
      · go_simp
        refine hK _ _ ?_
        clear hK K
        refine wpAnyIn_ready (rs := [0, 3]) (by kernel_rfl) (by simp) ?_
        refine AllReadyIn.cons rfl (fun K hK => ?_) ?_
        · go_simp
          refine hK _ _ ?_
          clear hK K
          refine wpAnyIn_ready (rs := [3]) (by kernel_rfl) (by simp) ?_
          refine AllReadyIn.cons rfl (fun K hK => ?_) ?_
          · go_simp
            gi_wp2_with (refine ⟨trivial, ?_⟩; gi_at_call 61; refine (((callsIn_wide (n := _)).2 HNUM.out).inRound ll).mono ?_; rintro e w9 ⟨rfl, rfl⟩)
            refine wpAnyIn_ready (rs := [4]) (by kernel_rfl) (by simp) ?_
            refine AllReadyIn.cons rfl (fun K hK => ?_) ?_
            · go_simp
              refine hK _ _ ?_
              clear hK K
              refine wpAnyIn_ready (rs := [5]) (by kernel_rfl) (by simp) ?_
              refine AllReadyIn.cons rfl (fun K hK => ?_) ?_
              · refine opIn_append rfl _ _ 43 rfl _ _ _ _ rfl rfl HRUN.out ?_
                refine hK _ _ ?_
                clear hK K
                refine wpAnyIn_ready (rs := [6]) (by kernel_rfl) (by simp) ?_
                refine AllReadyIn.cons rfl (fun K hK => ?_) ?_
                · go_simp
                  refine hK _ _ ?_
                  clear hK K
                  refine wpAnyIn_done (by kernel_rfl) ?_ _
                  gi_wp2
                  exact HLEAF.out
                exact AllReadyIn.nil
              exact AllReadyIn.nil
            exact AllReadyIn.nil
          exact AllReadyIn.nil
        refine AllReadyIn.cons rfl (fun K hK => ?_) ?_
        · go_simp
          gi_wp2_with (refine ⟨trivial, ?_⟩; gi_at_call 61; refine (((callsIn_wide (n := _)).2 HNUM.out).inRound ll).mono ?_; rintro e w9 ⟨rfl, rfl⟩)
          refine wpAnyIn_ready (rs := [0, 4]) (by kernel_rfl) (by simp) ?_
          refine AllReadyIn.cons rfl (fun K hK => ?_) ?_
          · go_simp
            refine hK _ _ ?_
            clear hK K
            refine wpAnyIn_ready (rs := [4]) (by kernel_rfl) (by simp) ?_
            refine AllReadyIn.cons rfl (fun K hK => ?_) ?_
            · go_simp
              refine hK _ _ ?_
              clear hK K
              refine wpAnyIn_ready (rs := [5]) (by kernel_rfl) (by simp) ?_
              refine AllReadyIn.cons rfl (fun K hK => ?_) ?_
              · refine opIn_append rfl _ _ 43 rfl _ _ _ _ rfl rfl HRUN.out ?_
                refine hK _ _ ?_
                clear hK K
                refine wpAnyIn_ready (rs := [6]) (by kernel_rfl) (by simp) ?_
                refine AllReadyIn.cons rfl (fun K hK => ?_) ?_
                · go_simp
                  refine hK _ _ ?_
                  clear hK K
                  refine wpAnyIn_done (by kernel_rfl) ?_ _
                  gi_wp2
                  exact HLEAF.out
                exact AllReadyIn.nil
              exact AllReadyIn.nil
            exact AllReadyIn.nil
          refine AllReadyIn.cons rfl (fun K hK => ?_) ?_
          · go_simp
            refine hK _ _ ?_
            clear hK K
            refine wpAnyIn_ready (rs := [0]) (by kernel_rfl) (by simp) ?_
            refine AllReadyIn.cons rfl (fun K hK => ?_) ?_
            · go_simp
              refine hK _ _ ?_
              clear hK K
              refine wpAnyIn_ready (rs := [5]) (by kernel_rfl) (by simp) ?_
              refine AllReadyIn.cons rfl (fun K hK => ?_) ?_
              · refine opIn_append rfl _ _ 43 rfl _ _ _ _ rfl rfl HRUN.out ?_
                refine hK _ _ ?_
                clear hK K
                refine wpAnyIn_ready (rs := [6]) (by kernel_rfl) (by simp) ?_
                refine AllReadyIn.cons rfl (fun K hK => ?_) ?_
                · go_simp
                  refine hK _ _ ?_
                  clear hK K
                  refine wpAnyIn_done (by kernel_rfl) ?_ _
                  gi_wp2
                  exact HLEAF.out
                exact AllReadyIn.nil
              exact AllReadyIn.nil
            exact AllReadyIn.nil
          exact AllReadyIn.nil
        exact AllReadyIn.nil
      exact AllReadyIn.nil
    exact AllReadyIn.nil
  case done =>
    rintro W' ⟨v, hv, ht, hrow, hT, hB⟩ hK
    have hvc := hv.cell
    have hlK : w2.heap.size < W'.heap.size := (Array.getElem?_eq_some_iff.1 hK).1
    have HROW := Lib.hid hrow
    have HBE := Lib.hid hB
    clear hv ht hrow hT hB hGV hv0 ht0 hbel
    go_wp2
    refine ret_mark hK (results_tmp rfl _ _ _) ?_
    refine ⟨v, rfl, ?_, Below.putObj HBE.out (by omega) _⟩
    have h1 := HROW.out
    rw [HXM.out] at h1
    have h2 : xs.length = (kidsV L k).length := by rw [← HXM.out, List.length_map]
    rw [h2] at h1
    exact ownsRow_base (own_of_block h1 fun g hg => World.putObj_heap_other (by have := (h1.lt g hg).1; omega)) (by omega)
  case stop =>
    rintro c pre W _ hh _
    exact hh.elim
end Go.Proofs.Ytehmbnloplamaaa
