/- A number's decimals, over any memory. Condition: the number fits its kind. -/
import Derived.Test.YtnbppkiiccbagaaNumA
import Derived.Test.YtnbppkiiccbagaaBox
import Derived.Test.YtnbppkiiccbagaaRevB
import Derived.Test.YtnbppkiiccbagaaNumM
namespace Go.Proofs.Ytnbppkiiccbagaa
open Go.RowKit Go.Shelf
attribute [local go_sem] Oper.semAt_some
set_option linter.unusedVariables false

theorem conv_own {W : World} {base : Nat} {g n cap : Nat} {zs : List Int} (h : W.ownsRow base 5 1 (.slice (some ⟨g, 0, none⟩) n cap) n (zs.map (Value.int .u8))) (hn : zs.length = n) :
    (convert 56 9 (.slice (some ⟨g, 0, none⟩) n cap)).run Try.prog W = .ok (.string (strOfNums zs)) W :=
  run_convert_bytes_arg (P := Try.prog) W 56 5 Try.underlying56 Try.underlying5 g 0 n cap zs hn (fun i hi => by
    rw [Nat.zero_add, h.cellAt i (by omega), List.getElem?_map, List.getElem?_eq_getElem (by omega), List.getD_eq_getElem?_getD, List.getElem?_eq_getElem (by omega)]; rfl) 9 Try.underlying9
theorem Try.info_byte : (Try.prog.info? 5).map (fun i => (i.zero, i.size, i.bytes)) = some (some (.int .u8 0), 1, 1) := by kernel_rfl

set_option maxRecDepth 100000 in
set_option maxHeartbeats 4000000 in
theorem decimal_any (n : Int) (hn : Nu.I n) (w : World) :
    Calls Try.prog 73 #[.int .i64 n] w fun e w' => e = .returned (.string (strOfNums (Nu.decV n))) ∧ Below w.heap.size w w' := by
  have hlen := Nu.dig_len64 (b := 10) (n := n.natAbs) (by omega) (by unfold Nu.I at hn; omega)
  have hna : (n.natAbs : Int) ≤ 18446744073709551615 := by unfold Nu.I at hn; omega
  have hdl := Lib.hid (Nu.dig_lt (b := 10) (by omega) n.natAbs)
  have hne0 := Lib.hid (Nu.dig_ne 10 n.natAbs)
  obtain ⟨i0, hi, hz0, hz1, hz2⟩ := info_parts Try.info_byte
  refine calls_of_marks Try.func73 rfl ?_
  simp only [Try.ntmps73, List.size_toArray, List.length_cons, List.length_nil, Nat.reduceAdd, Nat.reduceSub, Array.replicate_succ, Array.replicate_zero, List.push_toArray, List.append_toArray, List.nil_append, List.cons_append]
  go_wp2_with (first | (go_at_call 83; refine (size_any n hn _).mono ?_; rintro e w1 ⟨rfl, rfl⟩) | (go_at_call 82; refine (digits_made _ _ _).mono ?_; rintro e w2 ⟨nb, bb, rfl, hne, l1, l2, cn, cb, fn, hb⟩))
  have hv0 : Boxed w2 w.heap.size 56 (.slice none 0 0) := (hb.block _ (by simp)).trans (Boxed.new w _ _)
  have hbel : Below w.heap.size w w2 := ((Below.refl _ w).alloc (Nat.le_refl _) _).trans (hb.mono (by simp))
  have ln : nb < w2.heap.size := block_lt_of_cell cn
  have lb : bb < w2.heap.size := block_lt_of_cell cb
  simp only [World.size_alloc] at l1 l2
  have hws := hbel.size
  have hz : ¬ ((w.heap.size = nb ∨ w.heap.size = bb) ∨ w.heap.size = w2.heap.size ∨ w.heap.size = w2.heap.size + 1) := by omega
  have hzb : ∀ k, w2.heap.size + 2 ≤ k → ¬ ((k = nb ∨ k = bb) ∨ k = w2.heap.size ∨ k = w2.heap.size + 1) := by intro k hk; omega
  refine range_wp (gf := 86) (lb := #[.pointer (some ⟨nb, 0, none⟩), .pointer (some ⟨bb, 0, none⟩)]) rfl (enters_of Try.func86 (by kernel_rfl) rfl)
    (digits_gives n.natAbs 10 (by omega) hna (by omega) (by omega) nb bb hne w2 2 (by omega) cn cb fn) (by rintro k (rfl | rfl) <;> assumption) (fun _ => rfl)
    (fun pre W => ∃ v, Boxed W w.heap.size 56 v ∧ W.ownsRow (w2.heap.size + 2) 5 1 v pre.length ((pre.map (48 + ·)).map (Value.int .u8)) ∧ Below w.heap.size w W)
    (fun _ _ _ => False) ?hI (fun _ _ _ _ hh _ => hh) ⟨_, hv0, World.ownsRow_nil _ _ _ _, hbel⟩ ?_ ?assign ?body ?done ?stop
  case hI =>
    rintro p A B ⟨v, h1, h2, h4⟩ hs
    exact ⟨v, boxed_sep h1 hs hz, ownsRow_sep h2 hs hzb, h4.trans (hs.below h4.size (by intro k hk; omega))⟩
  case assign =>
    intro l x W K hK
    gi_wp2
    exact hK
  case body =>
    rintro l pre x rest W hx hlt ⟨v, hv, hrow, hB⟩
    have hp : (pre.length : Int) ≤ 65 := by have := congrArg List.length hx; simp at this; omega
    obtain ⟨x0, x1⟩ := hdl.out x (by rw [hx]; simp)
    clear hx cn cb fn hb hv0
    have hW := hB.size
    have hvc := hv.cell
    gi_wp2_with (gi_at_builtin; refine wpListIn_append_own _ rfl _ _ 56 rfl (w2.heap.size + 2) 5 i0 (.int .u8 0) 1 1 Try.underlying56 hi hz0 hz1 hz2 rfl (by decide) _ _ _ rfl (hrow.alloc _) ⟨W.heap.size, 0, none⟩ 1 1 [.int .u8 (48 + x)] rfl rfl (cell_one_new _ _ _) (by simp [Value.oneCell']) (by unfold maxLen; omega) (by omega) (by simp; omega) ?_; intro v' w1 hown' hgrow _; obtain ⟨g', cap', rfl⟩ := ownsRow_succ hown'; obtain ⟨hv1, hv2, hr2, hh2, hb2⟩ := pushed hv (by decide) hrow hown' hgrow; have hc1 := hv1.cell; have hf1 := hv1.frozen)
    exact ⟨hh2 _ hz hzb, _, hv2, by simpa using hr2, hB.trans (hb2 _ (Nat.le_refl _) (by omega) hW)⟩
  case done =>
    rintro W ⟨v, hv, hrow, hB⟩ hK
    obtain ⟨m, hm⟩ : ∃ m, (Nu.dig 10 n.natAbs).length = m + 1 := by
      have := hne0.out
      cases hd : Nu.dig 10 n.natAbs with
      | nil => exact absurd hd this
      | cons a b => exact ⟨b.length, rfl⟩
    have hW := hB.size
    have hm65 : (m : Int) ≤ 64 := by omega
    have hlW : w2.heap.size < W.heap.size := (Array.getElem?_eq_some_iff.1 hK).1
    have HM := Lib.hid hm
    have HN := hn
    rw [hm] at hrow
    obtain ⟨g, cap, rfl⟩ := ownsRow_succ hrow
    have hvc := hv.cell
    have hgB : w2.heap.size + 2 ≤ g := (hrow.lt g rfl).1
    clear hm cn cb fn hb hv0 hlen hn
    by_cases hneg : n < 0
    · have HB : Hid (Nu.backV n = (Nu.dig 10 n.natAbs).map (48 + ·) ++ [45]) := by show _ = _; unfold Nu.backV; rw [if_pos hneg]
      go_wp2_with (first
        | (at_builtin; refine wpList_append_own _ rfl _ _ 56 rfl (w2.heap.size + 2) 5 i0 (.int .u8 0) 1 1 Try.underlying56 hi hz0 hz1 hz2 rfl (by decide) _ _ _ rfl (hrow.alloc _) ⟨W.heap.size, 0, none⟩ 1 1 [.int .u8 45] rfl rfl (cell_one_new _ _ _) (by simp [Value.oneCell']) (by unfold maxLen; omega) (by omega) (by simp; omega) ?_; intro v' w1 hown' hgrow _; obtain ⟨g', cap', rfl⟩ := ownsRow_succ hown'; obtain ⟨hv1, hv2, hr2, hh2, hb2⟩ := pushed hv (by decide) hrow hown' hgrow; have hc1 := hv1.cell; have hf1 := hv1.frozen; have hc2 := hv2.cell; have HR := Lib.hid (show World.ownsRow _ (w2.heap.size + 2) 5 1 _ (m + 1 + 1) (((Nu.dig 10 n.natAbs).map (48 + ·) ++ [45]).map (Value.int .u8)) by rw [List.map_append]; exact hr2); have hB2 := hB.trans (hb2 _ (Nat.le_refl _) (by omega) hW); have HK2 := Lib.hid (((hh2 (fun k => k = w2.heap.size) (by omega) (by intro k hk; omega)).block _ hlW rfl).trans hK); have hg' := (hown'.lt g' rfl).1; have HV2 := Lib.hid hv2; clear hr2 hh2 hb2 hv2)
        | (go_at_call 84; refine (reverse_own _ _ (m + 1 + 1) _ _ HR.out (by omega) (by omega)).mono ?_; rintro e w3 ⟨rfl, hr3, hB3, hk3⟩; have hv3 : Boxed w3 w.heap.size 56 (.slice (some ⟨g', 0, none⟩) (m + 1 + 1) cap') := (hk3 g' rfl _ (by omega)).trans HV2.out; have hv3c := hv3.cell; have hcv := conv_own hr3 (by simp [HM.out]); have HK3 := Lib.hid ((hk3 g' rfl w2.heap.size (by omega)).trans HK2.out); have hB4 := hB3 _ _ hB2 (by omega); clear hk3 hB3))
      refine ret_mark HK3.out (results_tmp rfl _ _ _) ⟨?_, Below.putObj hB4 (by omega) _⟩
      unfold Nu.decV
      rw [HB.out, List.reverse_append]
      rfl
    · have HB : Hid (Nu.backV n = (Nu.dig 10 n.natAbs).map (48 + ·)) := by show _ = _; unfold Nu.backV; rw [if_neg hneg, List.append_nil]
      have hcont : ∀ W', W = W' → Calls Try.prog 84 #[.slice (some ⟨g, 0, none⟩) (m + 1) cap] W' fun e w' => e = .returned (.tuple #[]) ∧ w'.ownsRow (w2.heap.size + 2) 5 1 (.slice (some ⟨g, 0, none⟩) (m + 1) cap) (m + 1) (((Nu.dig 10 n.natAbs).map (48 + ·)).reverse.map (Value.int .u8)) ∧ Below w.heap.size w w' ∧ (∀ k, k ≠ g → w'.heap[k]? = W.heap[k]?) := by
        rintro W' rfl
        refine (reverse_own _ _ (m + 1) _ W hrow (by omega) (by omega)).mono ?_
        rintro e w' ⟨rfl, h1, h2, h3⟩
        exact ⟨rfl, h1, h2 _ _ hB (by omega), h3 g rfl⟩
      have HC := Lib.hid hcont
      clear hcont
      go_wp2_with (go_at_call 84; refine (HC.out _ rfl).mono ?_; rintro e w3 ⟨rfl, hr3, hB3, hk3⟩; have hv3 : Boxed w3 w.heap.size 56 (.slice (some ⟨g, 0, none⟩) (m + 1) cap) := (hk3 _ (by omega)).trans hv; have hv3c := hv3.cell; have hcv := conv_own hr3 (by simp [HM.out]); have HK3 := Lib.hid ((hk3 w2.heap.size (by omega)).trans hK); clear hk3)
      refine ret_mark HK3.out (results_tmp rfl _ _ _) ⟨?_, Below.putObj hB3 (by omega) _⟩
      unfold Nu.decV
      rw [HB.out]
      rfl
  case stop =>
    rintro c pre W _ hh _
    exact hh.elim
end Go.Proofs.Ytnbppkiiccbagaa
