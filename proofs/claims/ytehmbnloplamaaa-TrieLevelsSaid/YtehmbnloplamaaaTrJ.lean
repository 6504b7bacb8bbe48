/- A node made below another one. Condition: the path is new; the tree is of few nodes. -/
import Derived.Test.YtehmbnloplamaaaTrIns
import Derived.Test.YtehmbnloplamaaaTrC
import Derived.Deep.RegionLaw
import Derived.Deep.CutBlock
import Derived.RegionTactic
namespace Go.Proofs.Ytehmbnloplamaaa
open Go.RowKit
set_option linter.unusedVariables false
open Tr
/-- what lay outside the blocks F lies on; new blocks of a footprint are new -/
structure Turn (w0 : World) (F0 : Nat → Prop) (w : World) (F : Nat → Prop) : Prop where
  sep : Sep F0 w0 w
  foot : ∀ g, F g → F0 g ∨ w0.heap.size ≤ g
theorem Turn.trans {a b c : World} {Fa Fb Fc : Nat → Prop} (h : Turn a Fa b Fb) (k : Turn b Fb c Fc) : Turn a Fa c Fc := by
  refine ⟨⟨k.sep.os.trans h.sep.os, k.sep.tape.trans h.sep.tape, k.sep.output.trans h.sep.output, Nat.le_trans h.sep.size k.sep.size, fun i hi hz => ?_⟩, fun g hg => ?_⟩
  · refine (k.sep.block i (Nat.lt_of_lt_of_le hi h.sep.size) fun e => ?_).trans (h.sep.block i hi hz)
    rcases h.foot i e with e | e
    · exact hz e
    · omega
  · rcases k.foot g hg with e | e
    · exact h.foot g e
    · exact .inr (Nat.le_trans h.sep.size e)
theorem Turn.refl (w : World) (F : Nat → Prop) : Turn w F w F := ⟨Sep.refl _ _, fun g h => .inl h⟩
theorem five_new (w : World) (t : TypeId) (v0 v1 v2 v3 v4 : Value) : ∀ j u, [v0, v1, v2, v3, v4][j]? = some u → (w.alloc (.cells #[v0, v1, v2, v3, v4] t)).cell? ((⟨w.heap.size, 0, none⟩ : Addr).add j) = some u := by
  intro j u h
  have hj : j < 5 := by have := (List.getElem?_eq_some_iff.1 h).1; simpa using this
  have : j = 0 ∨ j = 1 ∨ j = 2 ∨ j = 3 ∨ j = 4 := by omega
  rcases this with rfl | rfl | rfl | rfl | rfl <;> (simp at h; subst h; simp [go_sem])
theorem Try.info_nd : (Try.prog.info? 79).map (fun i => (i.zero, i.size, i.bytes)) = some (some (.agg #[.int .u64 0, .int .i64 0, .int .i64 0, .slice none 0 0, .slice none 0 0]), 5, 72) := by kernel_rfl
theorem at5_kids (n : Nat) : at5 (2 * n + 1) = n * 5 + 3 := by unfold at5; omega
theorem at5_words (n : Nat) : at5 (2 * n + 2) = n * 5 + 4 := by unfold at5; omega
section
variable {w : World} {B tb nb nc n : Nat} {f : Nat → Nd} {rv : Nat → Value} {xs : Nat → List Int}
/-- behind a row's growth: what still stands -/
theorem TrX.still (h : TrX w B tb nb nc n f rv xs) {w1 : World} {i : Nat} (hi : i < 2 * n + 1) (hg : w.grownBy w1 (rv i).ownBlock) : (∀ a, a.block = nb ∨ a.block = tb → w1.cell? a = w.cell? a ∧ w1.frozen? a = w.frozen? a) := by
  intro a ha
  have hb : w1.heap[a.block]? = w.heap[a.block]? := by
    rcases ha with e | e
    · rw [e]; exact hg.block nb (h.lt (.inr (.inl rfl))).2 (fun e => h.row_ne hi e.symm)
    · rw [e]; exact hg.block tb (h.lt (.inl rfl)).2 (fun e => h.box_ne hi e.symm)
  exact ⟨World.cell?_of_block hb, World.frozen?_of_block hb⟩
theorem TrX.push_turn (h : TrX w B tb nb nc n f rv xs) {w1 : World} {i : Nat} (hi : i < 2 * n + 1) {v' : Value} (hg : w.grownBy w1 (rv i).ownBlock) (hat : v'.ownBlock = (rv i).ownBlock ∨ ∃ g, v'.ownBlock = some g ∧ w.heap.size ≤ g) (a : Addr) (ha : a.block = tb ∨ a.block = nb) :
    Turn w (Fp tb nb n rv) (w1.setCell a v') (Fp tb nb n (upd rv i v')) := by
  refine ⟨⟨hg.os, hg.tape, hg.output, by simp; exact hg.size, fun k hk hz => ?_⟩, fun g hgF => ?_⟩
  · rw [Below.heap_setCell w1 a v' k (fun e => hz (by rcases ha with e2 | e2 <;> rw [e, e2]; exact .inl rfl; exact .inr (.inl rfl)))]
    exact hg.block k hk (fun e => hz (.inr (.inr ⟨i, hi, e.symm⟩)))
  · rcases hgF with e | e | ⟨j, hj, e⟩
    · exact .inl (.inl e)
    · exact .inl (.inr (.inl e))
    · by_cases hji : j = i
      · subst hji
        rw [upd_at] at e
        rcases hat with h1 | ⟨g', h1, h2⟩
        · rw [h1] at e; exact .inl (.inr (.inr ⟨j, hj, e⟩))
        · rw [h1] at e; injection e with e; exact .inr (by omega)
      · rw [upd_ne _ _ hji] at e; exact .inl (.inr (.inr ⟨j, hj, e⟩))
theorem TrX.more_turn (h : TrX w B tb nb nc n f rv xs) {w1 : World} {g : Nat} {v : Value} (hg : w.grownBy w1 (some nb)) (hat : g = nb ∨ w.heap.size ≤ g) :
    Turn w (Fp tb nb n rv) (w1.setCell ⟨tb, 0, none⟩ v) (Fp tb g (n + 1) (upd (upd rv (2 * n + 1) (.slice none 0 0)) (2 * n + 2) (.slice none 0 0))) := by
  refine ⟨⟨hg.os, hg.tape, hg.output, by simp; exact hg.size, fun k hk hz => ?_⟩, fun k hk => ?_⟩
  · rw [Below.heap_setCell w1 _ v k (fun e => hz (.inl e))]
    exact hg.block k hk (fun e => hz (.inr (.inl (by injection e))))
  · rcases hk with e | e | ⟨j, hj, e⟩
    · exact .inl (.inl e)
    · rcases hat with h1 | h1
      · exact .inl (.inr (.inl (by rw [e, h1])))
      · exact .inr (by omega)
    · by_cases e1 : j = 2 * n + 2
      · subst e1; rw [upd_at] at e; cases e
      · by_cases e2 : j = 2 * n + 1
        · subst e2; rw [upd_ne _ _ e1, upd_at] at e; cases e
        · rw [upd_ne _ _ e1, upd_ne _ _ e2] at e
          exact .inl (.inr (.inr ⟨j, by omega, e⟩))
end
end Go.Proofs.Ytehmbnloplamaaa
