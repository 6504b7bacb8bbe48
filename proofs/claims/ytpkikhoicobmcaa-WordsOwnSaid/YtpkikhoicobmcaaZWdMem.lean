/- A set of rows in memory. No condition. -/
import Derived.Test.YtpkikhoicobmcaaZWdMath
import Derived.Test.YtpkikhoicobmcaaZgAA
import Derived.Maps.OwnSet
import Derived.Maps.RangeWalk
namespace Go.Proofs.Ytpkikhoicobmcaa
open Go.RowKit
set_option linter.unusedVariables false
open Tr Au
namespace Wd
theorem kint : Go.Maps.Keyed Try.prog 3 := Go.Maps.int_keyed Try.underlying3
/-- the map of widths -/
def MapW (w : World) (mb : Nat) (S : LL) : Prop := ∃ D : DataW Unit, w.ownsMap Try.prog 3 (unitElem (H := Unit)) mb S.length D ∧ ∀ x : Int, Maps.has D (.int .i64 x) = hasW S x
theorem MapW.of_block {w w' : World} {mb : Nat} {S : LL} (h : MapW w mb S) (hb : w'.heap[mb]? = w.heap[mb]?) : MapW w' mb S := by
  obtain ⟨D, ⟨es, clock, h1, r⟩, h2⟩ := h
  exact ⟨D, ⟨es, clock, hb.trans h1, r⟩, h2⟩
theorem MapW.lt {w : World} {mb : Nat} {S : LL} (h : MapW w mb S) : mb < w.heap.size := by
  obtain ⟨D, ⟨es, clock, h1, r⟩, h2⟩ := h
  exact (Array.getElem?_eq_some_iff.1 h1).1
/-- a set: its tree, how many rows, the widths, the automaton -/
structure WsX (w : World) (B sb tb nb nc mb : Nat) (rv : Nat → Value) (av : Value) (S : LL) : Prop where
  low : B ≤ sb
  lom : B ≤ mb
  box : w.heap[sb]? = some (.cells #[.pointer (some ⟨tb, 0, none⟩), .int .i64 S.length, .map (some mb), av] 62 (0, 0))
  tree : TrP w B tb nb nc rv (pathsOf S) S
  map : MapW w mb S
/-- the blocks that it lies in -/
def Fw (sb tb nb mb n : Nat) (rv : Nat → Value) (g : Nat) : Prop := Fp tb nb n rv g ∨ g = sb ∨ g = mb
section
variable {w : World} {B sb tb nb nc mb : Nat} {rv : Nat → Value} {av : Value} {S : LL}
theorem WsX.lt (h : WsX w B sb tb nb nc mb rv av S) {g : Nat} (hg : Fw sb tb nb mb (pathsOf S).length rv g) : B ≤ g ∧ g < w.heap.size := by
  rcases hg with hg | rfl | rfl
  · exact TrX.lt h.tree hg
  · exact ⟨h.low, (Array.getElem?_eq_some_iff.1 h.box).1⟩
  · exact ⟨h.lom, h.map.lt⟩
theorem WsX.of_blocks (h : WsX w B sb tb nb nc mb rv av S) {w' : World} (hb : ∀ g, Fw sb tb nb mb (pathsOf S).length rv g → w'.heap[g]? = w.heap[g]?) : WsX w' B sb tb nb nc mb rv av S :=
  ⟨h.low, h.lom, (hb _ (.inr (.inl rfl))).trans h.box, TrX.of_blocks h.tree fun g hg => hb g (.inl hg), h.map.of_block (hb _ (.inr (.inr rfl)))⟩
theorem WsX.later (h : WsX w B sb tb nb nc mb rv av S) {w' : World} (hb : Below w.heap.size w w') : WsX w' B sb tb nb nc mb rv av S := h.of_blocks fun g hg => hb.block g (h.lt hg).2
theorem WsX.sb_mb (h : WsX w B sb tb nb nc mb rv av S) : sb ≠ mb := by
  intro e
  obtain ⟨D, ⟨es, clock, h1, r⟩, h2⟩ := h.map
  have := h.box
  rw [e, h1] at this
  cases this
theorem fp_cells {w : World} {B tb nb nc n : Nat} {f : Nat → Nd} {rv : Nat → Value} {xs : Nat → List Int} (h : TrX w B tb nb nc n f rv xs) {g : Nat} (hg : Fp tb nb n rv g) : ∃ cs t, w.heap[g]? = some (.cells cs t (0, 0)) ∧ (t = 85 ∨ t = 93 ∨ t = 3) := by
  rcases hg with rfl | rfl | ⟨i, hi, hg⟩
  · exact ⟨_, _, h.box, .inl rfl⟩
  · obtain ⟨cur, hc⟩ := own_type h.row rfl
    exact ⟨_, _, hc, .inr (.inl rfl)⟩
  · obtain ⟨cur, hc⟩ := own_type (h.rows i hi) hg
    exact ⟨_, _, hc, .inr (.inr rfl)⟩
theorem WsX.sb_fp (h : WsX w B sb tb nb nc mb rv av S) : ¬ Fp tb nb (pathsOf S).length rv sb := by
  intro e
  obtain ⟨cs, t, hc, ht⟩ := fp_cells h.tree e
  rw [h.box] at hc
  injection hc with hc; injection hc with _ hc _
  subst hc
  revert ht
  decide
theorem WsX.mb_fp (h : WsX w B sb tb nb nc mb rv av S) : ¬ Fp tb nb (pathsOf S).length rv mb := by
  intro e
  obtain ⟨cs, t, hc, ht⟩ := fp_cells h.tree e
  obtain ⟨D, ⟨es, clock, h1, r⟩, h2⟩ := h.map
  rw [h1] at hc
  cases hc
theorem WsX.cells (h : WsX w B sb tb nb nc mb rv av S) : w.cell? ⟨sb, 0, none⟩ = some (.pointer (some ⟨tb, 0, none⟩)) ∧ w.cell? ⟨sb, 1, none⟩ = some (.int .i64 S.length) ∧ w.cell? ⟨sb, 2, none⟩ = some (.map (some mb)) ∧ w.cell? ⟨sb, 3, none⟩ = some av := by
  have hb := h.box
  refine ⟨?_, ?_, ?_, ?_⟩ <;> simp [World.cell?, hb]
theorem WsX.fr (h : WsX w B sb tb nb nc mb rv av S) (i : Nat) : w.frozen? ⟨sb, i, none⟩ = false := by
  have hb := h.box
  simp [World.frozen?, hb]
theorem WsX.setAv (h : WsX w B sb tb nb nc mb rv av S) (v : Value) : WsX (w.setCell ⟨sb, 3, none⟩ v) B sb tb nb nc mb rv v S := by
  refine ⟨h.low, h.lom, ?_, TrX.of_blocks h.tree fun g hg => Below.heap_setCell w _ v g fun e => h.sb_fp (by have e2 : g = sb := e; rw [← e2]; exact hg), h.map.of_block (Below.heap_setCell w _ v mb fun e => h.sb_mb e.symm)⟩
  have := set_same 3 v h.box
  simpa using this
end
/-- what stands whatever is done to the blocks F -/
def StS (F : Nat → Prop) (w : World) (P : World → Prop) : Prop := ∀ w', Sep F w w' → P w'
end Wd
end Go.Proofs.Ytpkikhoicobmcaa
