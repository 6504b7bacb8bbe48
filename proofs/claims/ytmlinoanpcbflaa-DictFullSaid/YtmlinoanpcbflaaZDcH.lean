/- The variants with those that an image is laid as, and which one each turn lays: what dict's laid comes to, over any memory. Condition: the image may be, and be laid so; at most nine turns; few variants. -/
import Derived.Test.YtmlinoanpcbflaaZDcG
namespace Go.Proofs.Ytmlinoanpcbflaa
open Go.RowKit
set_option linter.unusedVariables false
open Dc
namespace Dc
/-- what laid holds while it runs -/
structure LaidX (w0 w : World) (F : Nat → Prop) (bx bp nb base n c : Nat) (x : Im) (a : Option Addr) (vW : Value) (es : List Ent) (pl N : List Int) (v : Value) (l : List Vr) : Prop where
  below : Below w0.heap.size w0 w
  obx : w0.heap.size ≤ bx
  obp : w0.heap.size ≤ bp
  onb : w0.heap.size ≤ nb
  one : bp ≠ nb
  img : Ib w bx 36 x.1 x.2.1 (x.2.2.1 : Nat) (x.2.2.2.1 : Nat) (.slice a n c)
  row : w.ownsRow base 34 3 vW es.length (ents n es)
  lie : Lie n w es
  plc : OwnI w bp 3 pl
  num : OwnI w nb 3 N
  var : VarX w (fun g => F g ∨ w0.heap.size ≤ g) v l
  fit : Fit w w0.heap.size v l
section
variable {w0 w w' : World} {F : Nat → Prop} {bx bp nb base n c : Nat} {x : Im} {a : Option Addr} {vW : Value} {es : List Ent} {pl N : List Int} {v : Value} {l : List Vr}
theorem LaidX.later (h : LaidX w0 w F bx bp nb base n c x a vW es pl N v l) (hb : Below w.heap.size w w') : LaidX w0 w' F bx bp nb base n c x a vW es pl N v l :=
  ⟨bel_step h.below hb, h.obx, h.obp, h.onb, h.one, h.img.later hb, ownsRow_later h.row hb, h.lie.later hb, (hb.block bp (Array.getElem?_eq_some_iff.1 h.plc).1).trans h.plc, (hb.block nb (Array.getElem?_eq_some_iff.1 h.num).1).trans h.num, h.var.later hb, h.fit.later hb⟩
/-- a cell of a block of integers is another one -/
theorem LaidX.ints (h : LaidX w0 w F bx bp nb base n c x a vW es pl N v l) {b : Nat} {M : List Int} (hb : OwnI w b 3 M) (h0 : w0.heap.size ≤ b) (i : Nat) (y : Value) {pl' N' : List Int} (h1 : OwnI (w.setCell ⟨b, i, none⟩ y) bp 3 pl') (h2 : OwnI (w.setCell ⟨b, i, none⟩ y) nb 3 N') : LaidX w0 (w.setCell ⟨b, i, none⟩ y) F bx bp nb base n c x a vW es pl' N' v l := by
  have hk : ∀ (g : Nat) cs t, w.heap[g]? = some (.cells cs t (0, 0)) → t ≠ 3 → (w.setCell ⟨b, i, none⟩ y).heap[g]? = w.heap[g]? := fun g cs t hg ht => Below.heap_setCell w _ y g fun e => by
    have hb' : w.heap[b]? = _ := hb
    have e' : g = b := e
    rw [e', hb'] at hg
    injection hg with hg
    injection hg with _ hg _
    exact ht hg.symm
  refine ⟨h.below.setCell (p := ⟨b, i, none⟩) h0 y, h.obx, h.obp, h.onb, h.one, (hk _ _ _ h.img (by decide)).trans h.img, own_of_block h.row fun g hg => ?_, fun e he => ⟨⟨Nat.zero_le _, (hk _ _ _ (h.lie e he).1.2 (by decide)).trans (h.lie e he).1.2⟩, (h.lie e he).2⟩, h1, h2, h.var.keep fun g cs t _ hg ht => hk g cs t hg (by rcases ht with rfl | rfl | rfl <;> decide), h.fit.of_block fun g hg => ?_⟩
  · obtain ⟨cur, hc⟩ := own_type h.row hg
    exact hk g _ _ hc (by decide)
  · obtain ⟨cur, hc⟩ := h.fit.lies.type hg
    exact hk g _ _ hc (by decide)
theorem LaidX.setN (h : LaidX w0 w F bx bp nb base n c x a vW es pl N v l) (i : Nat) (y : Int) : LaidX w0 (w.setCell ⟨nb, i, none⟩ (.int .i64 y)) F bx bp nb base n c x a vW es pl (N.set i y) v l :=
  h.ints h.num h.onb i _ ((Below.heap_setCell w _ _ bp h.one).trans h.plc) (h.num.put i y)
theorem LaidX.setP (h : LaidX w0 w F bx bp nb base n c x a vW es pl N v l) (i : Nat) (y : Int) : LaidX w0 (w.setCell ⟨bp, i, none⟩ (.int .i64 y)) F bx bp nb base n c x a vW es (pl.set i y) N v l :=
  h.ints h.plc h.obp i _ (h.plc.put i y) ((Below.heap_setCell w _ _ nb fun e => h.one e.symm).trans h.num)
/-- one variant more -/
theorem LaidX.push (h : LaidX w0 w F bx bp nb base n c x a vW es pl N v l) {r : Vr} (hr : OwnG 0 w r.2.1 r.1.2.2.2.2 ∧ w0.heap.size ≤ r.2.1) (ho : r.2.2.1.1 = none ∧ r.2.2.1.2 = 0 ∧ r.2.2.2 = []) {g cap : Nat} (hrow : w'.ownsRow w0.heap.size 69 6 (.slice (some ⟨g, 0, none⟩) (l.length + 1) cap) (l.length + 1) ((l ++ [r]).flatMap vcs)) (hg : w.grownBy w' v.ownBlock) (hB : Below w0.heap.size w w') : LaidX w0 w' F bx bp nb base n c x a vW es pl N (.slice (some ⟨g, 0, none⟩) (l.length + 1) cap) (l ++ [r]) := by
  have hk : ∀ (j : Nat) cs t, w.heap[j]? = some (.cells cs t (0, 0)) → t ≠ 69 → w'.heap[j]? = w.heap[j]? := fun j cs t hj ht => hg.block j (Array.getElem?_eq_some_iff.1 hj).1 fun e => by
    obtain ⟨cur, hc⟩ := h.fit.lies.type e.symm
    rw [hj] at hc
    injection hc with hc
    injection hc with _ hc _
    exact ht hc
  refine ⟨h.below.trans hB, h.obx, h.obp, h.onb, h.one, (hk _ _ _ h.img (by decide)).trans h.img, own_of_block h.row fun j hj => ?_, fun e he => ⟨⟨Nat.zero_le _, (hk _ _ _ (h.lie e he).1.2 (by decide)).trans (h.lie e he).1.2⟩, (h.lie e he).2⟩, (hk _ _ _ h.plc (by decide)).trans h.plc, (hk _ _ _ h.num (by decide)).trans h.num, h.var.push ⟨hr.1, .inr hr.2⟩ ho hrow hg (.inr (hrow.lt g rfl).1), .inr (by simpa using hrow)⟩
  obtain ⟨cur, hc⟩ := own_type h.row hj
  exact hk j _ _ hc (by decide)
end
/-- the variants' images when the first i ways have come -/
def imK (ts : List Tp) (x : Im) (ws : List (Nat × Nat × List Int)) (i : Nat) : List Im := insAll (imgs ts) ((ws.take i).map (mk x))
theorem imK_succ (ts : List Tp) (x : Im) {ws : List (Nat × Nat × List Int)} {i : Nat} {q : Nat × Nat × List Int} (h : ws[i]? = some q) : imK ts x ws (i + 1) = ins (imK ts x ws i) (mk x q) := by
  obtain ⟨hi, rfl⟩ := List.getElem?_eq_some_iff.1 h
  unfold imK
  rw [List.take_succ_eq_append_getElem hi, List.map_append, List.map_singleton, insAll_more]
/-- the numbers of the first i ways -/
def Nums (ts : List Tp) (x : Im) (ws : List (Nat × Nat × List Int)) (i : Nat) (N : List Int) : Prop := ∀ j, j < i → ∀ q, ws[j]? = some q → N.getD j 0 = plc (imK ts x ws i) (mk x q)
theorem Nums.succ {ts : List Tp} {x : Im} {ws : List (Nat × Nat × List Int)} {i : Nat} {N : List Int} (h : Nums ts x ws i N) {q : Nat × Nat × List Int} (hq : ws[i]? = some q) (hN : i < N.length) : Nums ts x ws (i + 1) (N.set i (plc (imK ts x ws (i + 1)) (mk x q))) := by
  intro j hj q' hq'
  obtain ⟨t, ht⟩ := ins_pre (imK ts x ws i) (mk x q)
  rw [List.getD_eq_getElem?_getD]
  by_cases e : j = i
  · subst e
    rw [hq] at hq'
    cases hq'
    rw [List.getElem?_set_self hN]
    rfl
  · rw [List.getElem?_set_ne (fun h => e h.symm), ← List.getD_eq_getElem?_getD, h j (by omega) q' hq', imK_succ ts x hq, ht]
    refine (plc_pre ?_ t).symm
    unfold imK
    refine insAll_mem.2 (.inr (List.mem_map.2 ⟨q', ?_, rfl⟩))
    exact List.mem_of_getElem? (i := j) (by rw [List.getElem?_take_of_lt (by omega)]; exact hq')
/-- what the variants are then -/
def Said (ts : List Tp) (L : List Im) (l : List Vr) : Prop := l.map Vr.key = L.map fun y => (y, own ts y)
theorem Said.imgs {ts : List Tp} {L : List Im} {l : List Vr} (h : Said ts L l) : l.map (·.1) = L := by
  have := congrArg (List.map (·.1)) h
  rw [List.map_map, List.map_map] at this
  rw [show (fun r : Vr => r.1) = (·.1) ∘ Vr.key from rfl, this]
  exact List.map_id _
theorem Said.len {ts : List Tp} {L : List Im} {l : List Vr} (h : Said ts L l) : l.length = L.length := by rw [← h.imgs, List.length_map]
theorem Said.old {ts : List Tp} {L : List Im} {l : List Vr} (h : Said ts L l) {y : Im} (hy : y ∈ L) : Said ts (ins L y) l := by unfold ins; rw [if_pos hy]; exact h
theorem Said.new {ts : List Tp} {L : List Im} {l : List Vr} (h : Said ts L l) {y : Im} (hy : y ∉ L) (h0 : ∀ z, z ∈ Dc.imgs ts → z ∈ L) (g : Nat) : Said ts (ins L y) (l ++ [(y, g, (none, 0), [])]) := by
  unfold Said ins
  rw [if_neg hy, List.map_append, List.map_append, h, List.map_singleton, List.map_singleton, own_none fun e => hy (h0 y e)]
  rfl
end Dc
end Go.Proofs.Ytmlinoanpcbflaa
