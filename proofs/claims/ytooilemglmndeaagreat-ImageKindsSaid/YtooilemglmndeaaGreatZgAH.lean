/- The document's reader of digits is told a byte: what it comes to, over any memory. Condition: its head may be. -/
import Derived.Test.YtooilemglmndeaaGreatZPlP
namespace Go.Proofs.YtooilemglmndeaaGreat
set_option linter.unusedVariables false
open Go.RowKit
/-- v is the document's reader where s says; its memory is what was handed in, or was made since W -/
def RfF (A1 A2 : Option Addr) (O1 O2 : List Int) (W w : World) (v : Value) (s : Pl.S) : Prop :=
  ∃ a1 c1 a2 c2, v = agR s.h (Pl.nn s) (.slice a1 s.one.length c1) (.slice a2 s.row.length c2) s.rows s.last s.e ∧ SlK .i64 w a1 s.one.length s.one ∧ SlK .u64 w a2 s.row.length s.row ∧ ((a1 = A1 ∧ s.one = O1) ∨ Nw W a1) ∧ ((a2 = A2 ∧ s.row = O2) ∨ Nw W a2)
/-- a block that was made between W0 and W is written into -/
theorem slk_far {q : IntKind} {W0 W w w' : World} {a : Option Addr} {n b : Nat} {l : List Int} (h : SlK q w a n l) (hf : SlK q W0 a n l ∨ Nw W a) (h1 : W0.heap.size ≤ b) (h2 : b < W.heap.size) (hg : w.grownBy w' (some b)) : SlK q w' a n l := by
  rcases hf with hf | hf
  · refine ⟨h.1, ?_⟩
    rcases hf.2 with h0 | ⟨g, o, rfl, hc⟩
    · exact .inl h0
    · rcases h.2 with h0 | ⟨g', o', ha, hc'⟩
      · exact .inl h0
      · cases ha
        refine .inr ⟨g, o, rfl, fun i hi => ?_⟩
        have hlt := block_lt_of_cell (hc i hi)
        exact hg.cell (hc' i hi) (by intro e; injection e with e; have e : g = b := e; omega)
  · exact slk_kept h (far_of hf h2) hg
theorem RfF.far {A1 A2 : Option Addr} {O1 O2 : List Int} {W0 W w w' : World} {v : Value} {s : Pl.S} (h : RfF A1 A2 O1 O2 W w v s) {n1 n2 : Nat} (S1 : SlK .i64 W0 A1 n1 O1) (S2 : SlK .u64 W0 A2 n2 O2) {b : Nat} (h1 : W0.heap.size ≤ b) (h2 : b < W.heap.size) (hg : w.grownBy w' (some b)) : RfF A1 A2 O1 O2 W w' v s := by
  obtain ⟨a1, c1, a2, c2, hv, s1, s2, f1, f2⟩ := h
  refine ⟨a1, c1, a2, c2, hv, slk_far s1 (f1.imp ?_ id) h1 h2 hg, slk_far s2 (f2.imp ?_ id) h1 h2 hg, f1, f2⟩
  · rintro ⟨rfl, e⟩; rw [e]; have := S1.1; rw [this]; exact S1
  · rintro ⟨rfl, e⟩; rw [e]; have := S2.1; rw [this]; exact S2
theorem RfF.mono {A1 A2 : Option Addr} {O1 O2 : List Int} {W W' w : World} {v : Value} {s : Pl.S} (h : RfF A1 A2 O1 O2 W' w v s) (hw : W.heap.size ≤ W'.heap.size) : RfF A1 A2 O1 O2 W w v s := by
  obtain ⟨a1, c1, a2, c2, hv, s1, s2, f1, f2⟩ := h
  exact ⟨a1, c1, a2, c2, hv, s1, s2, f1.imp id (nw_mono hw), f2.imp id (nw_mono hw)⟩
theorem RfF.later {A1 A2 : Option Addr} {O1 O2 : List Int} {W w w' : World} {v : Value} {s : Pl.S} (h : RfF A1 A2 O1 O2 W w v s) (hb : Below w.heap.size w w') : RfF A1 A2 O1 O2 W w' v s := by
  obtain ⟨a1, c1, a2, c2, hv, s1, s2, f1, f2⟩ := h
  exact ⟨a1, c1, a2, c2, hv, s1.below hb, s2.below hb, f1, f2⟩
end Go.Proofs.YtooilemglmndeaaGreat

/- The document's reader of digits is told the end: what it comes to, over any memory. Condition: its head may be. -/
namespace Go.Proofs.YtooilemglmndeaaGreat
set_option linter.unusedVariables false
open Go.RowKit
end Go.Proofs.YtooilemglmndeaaGreat
