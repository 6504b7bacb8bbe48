/- The bytes of a number, over any memory, of num and of the document's own answer. Condition: the number fits its kind. -/
import Derived.Test.YthikjjcoejdjiaaNumA
import Derived.Test.YthikjjcoejdjiaaBox
namespace Go.Proofs.Ythikjjcoejdjiaa
open Go.RowKit Go.Shelf
attribute [local go_sem] Oper.semAt_some
set_option linter.unusedVariables false

/-- digits with 128 more, but the last one -/
def Nu.mark : List Int → List Int
  | [] => []
  | [d] => [d]
  | d :: e :: ds => (d + 128) :: Nu.mark (e :: ds)
def Nu.putOk (n : Int) : Bool := decide (0 ≤ n) && decide (n ≤ 4611686018427387903)
def Nu.putV (n : Int) : List Int := if Nu.putOk n then Nu.mark (Nu.dig 128 n) else []
theorem Nu.mark_len : ∀ l : List Int, (Nu.mark l).length = l.length
  | [] => rfl
  | [_] => rfl
  | _ :: e :: ds => by simp [Nu.mark, Nu.mark_len (e :: ds)]
theorem Nu.mark_get : ∀ (l : List Int) (i : Nat), i < l.length → (Nu.mark l).getD i 0 = l.getD i 0 + (if i + 1 < l.length then 128 else 0)
  | [], i, h => by simp at h
  | [_], i, h => by obtain rfl : i = 0 := by simpa using h
                    simp [Nu.mark]
  | d :: e :: ds, 0, h => by simp [Nu.mark]
  | d :: e :: ds, i + 1, h => by
    have := Nu.mark_get (e :: ds) i (by simpa using h)
    simp only [Nu.mark, List.getD_cons_succ, this, List.length_cons]
    congr 1
    by_cases hh : i + 1 < ds.length + 1
    · rw [if_pos hh, if_pos (by omega)]
    · rw [if_neg hh, if_neg (by omega)]

def PutR (n : Int) (w : World) (e : Ending) (w' : World) : Prop :=
  ∃ ad cap, e = .returned (.tuple #[.slice ad (Nu.putV n).length cap, .int .i64 (if Nu.putOk n then 0 else 1)]) ∧ OwnK .u8 w.heap.size w' ad (Nu.putV n) ∧ Below w.heap.size w w' ∧ (Nu.putV n).length ≤ cap

theorem Try.info_u8 : (Try.prog.info? 5).map (fun i => (i.zero, i.size, i.bytes)) = some (some (.int .u8 0), 1, 1) := by kernel_rfl

set_option maxRecDepth 100000 in
theorem put_no (n : Int) (hn : Nu.I n) (h : Nu.putOk n = false) (w : World) : Calls Try.prog 20 #[.int .i64 n] w fun e w' => e = .returned (.tuple #[.slice none 0 0, .int .i64 1]) ∧ w = w' := by
  have h' : n < 0 ∨ 4611686018427387903 < n := by simp [Nu.putOk] at h; omega
  clear h
  rcases h' with h | h
  · refine calls_of_marks Try.func20 rfl ?_
    simp only [Try.ntmps20, List.size_toArray, List.length_cons, List.length_nil, Nat.reduceAdd, Nat.reduceSub, Array.replicate_succ, Array.replicate_zero, List.push_toArray, List.append_toArray, List.nil_append, List.cons_append]
    go_wp2
    exact ⟨_, results_tmp2 rfl _ _ _, rfl, rfl⟩
  · have h0 : ¬ n < 0 := by omega
    refine calls_of_marks Try.func20 rfl ?_
    simp only [Try.ntmps20, List.size_toArray, List.length_cons, List.length_nil, Nat.reduceAdd, Nat.reduceSub, Array.replicate_succ, Array.replicate_zero, List.push_toArray, List.append_toArray, List.nil_append, List.cons_append]
    go_wp2
    exact ⟨_, results_tmp2 rfl _ _ _, rfl, rfl⟩

set_option maxRecDepth 100000 in
set_option maxHeartbeats 2000000 in
theorem put_yes (n : Int) (hn : Nu.I n) (h : Nu.putOk n = true) (w : World) : Calls Try.prog 20 #[.int .i64 n] w (PutR n w) := by
  have X := Lib.hid h
  obtain ⟨h0, h1⟩ : 0 ≤ n ∧ n ≤ 4611686018427387903 := by simpa [Nu.putOk] using h
  clear h
  have hlen := Nu.dig_len64 (b := 128) (n := n) (by omega) (by omega)
  have hdl := Lib.hid (Nu.dig_lt (b := 128) (by omega) n)
  have hne0 := Lib.hid (Nu.dig_ne 128 n)
  obtain ⟨i0, hi, hz0, hz1, hz2⟩ := info_parts Try.info_u8
  refine calls_of_marks Try.func20 rfl ?_
  simp only [Try.ntmps20, List.size_toArray, List.length_cons, List.length_nil, Nat.reduceAdd, Nat.reduceSub, Array.replicate_succ, Array.replicate_zero, List.push_toArray, List.append_toArray, List.nil_append, List.cons_append]
  go_wp2_with (go_at_call 28; refine (digits_made _ _ _).mono ?_; rintro e w2 ⟨nb, bb, rfl, hne, l1, l2, cn, cb, fn, hb⟩)
  have hv0 : Boxed w2 w.heap.size 33 (.slice none 0 0) := (hb.block _ (by simp)).trans (Boxed.new w _ _)
  have hbel : Below w.heap.size w w2 := ((Below.refl _ w).alloc (Nat.le_refl _) _).trans (hb.mono (by simp))
  have ln : nb < w2.heap.size := block_lt_of_cell cn
  have lb : bb < w2.heap.size := block_lt_of_cell cb
  simp only [World.size_alloc] at l1 l2
  have hws := hbel.size
  have hz : ¬ ((w.heap.size = nb ∨ w.heap.size = bb) ∨ w.heap.size = w2.heap.size ∨ w.heap.size = w2.heap.size + 1) := by omega
  have hzb : ∀ k, w2.heap.size + 2 ≤ k → ¬ ((k = nb ∨ k = bb) ∨ k = w2.heap.size ∨ k = w2.heap.size + 1) := by intro k hk; omega
  refine range_wp (gf := 31) (lb := #[.pointer (some ⟨nb, 0, none⟩), .pointer (some ⟨bb, 0, none⟩)]) rfl (enters_of Try.func31 (by kernel_rfl) rfl)
    (digits_gives n 128 (by omega) (by omega) (by omega) (by omega) nb bb hne w2 2 (by omega) cn cb fn) (by rintro k (rfl | rfl) <;> assumption) (fun _ => rfl)
    (fun pre W => ∃ v, Boxed W w.heap.size 33 v ∧ W.ownsRow (w2.heap.size + 2) 5 1 v pre.length ((pre.map (· + 128)).map (Value.int .u8)) ∧ Below w.heap.size w W)
    (fun _ _ _ => False) ?hI (fun _ _ _ _ hh _ => hh) ⟨_, hv0, World.ownsRow_nil _ _ _ _, hbel⟩ ?_ ?assign ?body ?done ?stop
  case hI =>
    rintro p A B ⟨v, h1, h2, h4⟩ hs
    exact ⟨v, boxed_sep h1 hs hz, ownsRow_sep h2 hs hzb, h4.trans (hs.below h4.size (by intro k hk; omega))⟩
  case assign =>
    intro l x W K hK
    gi_wp2
    exact hK
  case body =>
    rintro l pre x rest W hx hlt ⟨v, hv, hrow, hB⟩
    have hp : (pre.length : Int) ≤ 65 := by have := congrArg List.length hx; simp at this; omega
    obtain ⟨x0, x1⟩ := hdl.out x (by rw [hx]; simp)
    clear hx cn cb fn hb hv0
    have hW := hB.size
    have hvc := hv.cell
    gi_wp2_with (gi_at_builtin; refine wpListIn_append_own _ rfl _ _ 33 rfl (w2.heap.size + 2) 5 i0 (.int .u8 0) 1 1 Try.underlying33 hi hz0 hz1 hz2 rfl (by decide) _ _ _ rfl (hrow.alloc _) ⟨W.heap.size, 0, none⟩ 1 1 [.int .u8 (x + 128)] rfl rfl (cell_one_new _ _ _) (by simp [Value.oneCell']) (by unfold maxLen; omega) (by omega) (by simp; omega) ?_; intro v' w1 hown' hgrow _; obtain ⟨g', cap', rfl⟩ := ownsRow_succ hown'; obtain ⟨hv1, hv2, hr2, hh2, hb2⟩ := pushed hv (by decide) hrow hown' hgrow; have hc1 := hv1.cell; have hf1 := hv1.frozen)
    exact ⟨hh2 _ hz hzb, _, hv2, by simpa using hr2, hB.trans (hb2 _ (Nat.le_refl _) (by omega) hW)⟩
  case done =>
    rintro W ⟨v, hv, hrow, hB⟩ hK
    obtain ⟨m, hm⟩ : ∃ m, (Nu.dig 128 n).length = m + 1 := by
      have := hne0.out
      cases hd : Nu.dig 128 n with
      | nil => exact absurd hd this
      | cons a b => exact ⟨b.length, rfl⟩
    have HD := hdl
    have HV := Lib.hid (show (Nu.putV n) = Nu.mark (Nu.dig 128 n) by unfold Nu.putV; rw [if_pos X.out])
    generalize hds : Nu.dig 128 n = ds at *
    have HM := Lib.hid hm
    rw [hm] at hrow
    obtain ⟨g, cap, rfl⟩ := ownsRow_succ hrow
    have hcm : W.cell? ⟨g, m, none⟩ = some (.int .u8 (ds.getD m 0 + 128)) := by
      rw [hrow.cellAt m (by omega), List.map_map, List.getElem?_map, List.getElem?_eq_getElem (by omega), List.getD_eq_getElem?_getD, List.getElem?_eq_getElem (by omega)]; rfl
    obtain ⟨d0, d1⟩ := hdl.out (ds.getD m 0) (by rw [List.getD_eq_getElem?_getD, List.getElem?_eq_getElem (by omega)]; exact List.getElem_mem _)
    have hfm : W.frozen? ⟨g, m, none⟩ = false := hrow.frozenAt m
    have hvc := hv.cell
    have hm64 : (m : Int) ≤ 64 := by omega
    obtain ⟨d, hd⟩ : ∃ d, Hid (ds.getD m 0 = d) := ⟨_, rfl⟩
    rw [hd.out] at hcm d0 d1
    have hnB : g ≠ w.heap.size := fun e => hv.not_row (by decide) hrow (by rw [e]; rfl)
    have hgB : w2.heap.size + 2 ≤ g := (hrow.lt g rfl).1
    have hgW : g < W.heap.size := (hrow.lt g rfl).2
    clear hm hds cn cb fn hb hv0 hlen
    go_wp2
    have hlm : (Nu.putV n).length = m + 1 := by rw [HV.out, Nu.mark_len]; exact HM.out
    have hK' : (W.setCell ⟨g, m, none⟩ (.int .u8 d)).heap[w2.heap.size]? = some (.deferred (some [])) := (Below.heap_setCell _ _ _ _ (by simp; omega)).trans hK
    refine ret_mark hK' (results_tmp2 rfl _ _ _) ?_
    have hblk : ∀ o, ((W.setCell ⟨g, m, none⟩ (.int .u8 d)).putObj w2.heap.size (.deferred none)).cell? ⟨g, o, none⟩ = (W.setCell ⟨g, m, none⟩ (.int .u8 d)).cell? ⟨g, o, none⟩ :=
      fun o => World.cell?_of_block (World.putObj_heap_other (by simp; omega))
    refine ⟨_, cap, ?_, .inr ⟨g, rfl, by omega, ?_, fun i hi => ?_, fun i => ?_⟩, ?_, by rw [hlm]; exact ownsRow_cap hrow⟩
    · rw [hlm, if_pos X.out]; rfl
    · simp [World.setCell]; omega
    · rw [hblk, HV.out, Nu.mark_get _ _ (by rw [HM.out]; omega), HM.out]
      by_cases him : i = m
      · subst him
        rw [World.cell?_setCell_same' _ _ _ (by rw [hcm]; rfl), hd.out, if_neg (by omega), Int.add_zero]
      · rw [World.cell?_setCell_other _ _ _ _ (by first | (simp; done) | (simp; omega)), hrow.cellAt i (by omega), if_pos (by omega), List.map_map, List.getElem?_map, List.getD_eq_getElem?_getD, List.getElem?_eq_getElem (by rw [HM.out]; omega)]; rfl
    · rw [World.frozen?_of_block (World.putObj_heap_other (by simp; omega)), World.frozen?_setCell]; exact hrow.frozenAt i
    · exact Below.putObj (hB.setCell (p := ⟨g, m, none⟩) (by simp; omega) _) (by omega) _
  case stop =>
    rintro c pre W _ hh _
    exact hh.elim

theorem put_any (n : Int) (hn : Nu.I n) (w : World) : Calls Try.prog 20 #[.int .i64 n] w (PutR n w) := by
  cases h : Nu.putOk n
  · refine (put_no n hn h w).mono ?_
    rintro e w' ⟨rfl, rfl⟩
    exact ⟨none, 0, by simp [Nu.putV, h], .inl (by simp [Nu.putV, h]), Below.refl _ _, by simp [Nu.putV, h]⟩
  · exact put_yes n hn h w
end Go.Proofs.Ythikjjcoejdjiaa
