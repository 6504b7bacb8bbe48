/- All pixels of a raster of digits by the document, over any memory. Condition: the text is short, the head's numbers fit. -/
import Derived.Test.YtooilemglmndeaaGreatZgAF
import Derived.Test.YtooilemglmndeaaGreatZgAH
import Derived.Deep.RegionHeld3
import Derived.Deep.DeepCutAuto
namespace Go.Proofs.YtooilemglmndeaaGreat
set_option linter.unusedVariables false
open Go.RowKit
set_option linter.unusedVariables false

/-- a slice that is known, in memory that is neither the block k nor the value v's own -/
def SlF (q : IntKind) (w : World) (a : Option Addr) (n : Nat) (l : List Int) (k : Nat) (v : Value) : Prop :=
  l.length = n ∧ (n = 0 ∨ ∃ g o, a = some ⟨g, o, none⟩ ∧ g ≠ k ∧ v.ownBlock ≠ some g ∧ ∀ i, i < n → w.cell? ⟨g, o + i, none⟩ = some (.int q (l.getD i 0)))
theorem SlF.sl {q : IntKind} {w : World} {a : Option Addr} {n k : Nat} {l : List Int} {v : Value} (h : SlF q w a n l k v) : SlK q w a n l := by
  refine ⟨h.1, ?_⟩
  rcases h.2 with h | ⟨g, o, ha, _, _, hc⟩
  · exact .inl h
  · exact .inr ⟨g, o, ha, hc⟩
theorem SlF.put {q : IntKind} {w w' : World} {a : Option Addr} {n k : Nat} {l : List Int} {v : Value} (h : SlF q w a n l k v) (hg : w.grownBy w' (some k)) : SlF q w' a n l k v := by
  refine ⟨h.1, ?_⟩
  rcases h.2 with h | ⟨g, o, ha, h1, h2, hc⟩
  · exact .inl h
  · exact .inr ⟨g, o, ha, h1, h2, fun i hi => hg.cell (hc i hi) (by intro e; injection e with e; exact h1 e)⟩
theorem SlF.of {q : IntKind} {wr w : World} {a A : Option Addr} {n m k : Nat} {l O : List Int} {v : Value} (h : SlK q w a n l) (hf : (a = A ∧ l = O) ∨ Nw wr a) (hA : SlF q wr A m O k v) (hk : k < wr.heap.size) (hv : ∀ j, v.ownBlock = some j → j < wr.heap.size) : SlF q w a n l k v := by
  refine ⟨h.1, ?_⟩
  rcases h.2 with h0 | ⟨g, o, ha, hc⟩
  · exact .inl h0
  · by_cases hn : n = 0
    · exact .inl hn
    refine .inr ⟨g, o, ha, ?_, ?_, hc⟩
    · rcases hf with ⟨rfl, rfl⟩ | hf
      · rcases hA.2 with h0 | ⟨g', o', ha', h1, h2, _⟩
        · exact absurd (h.1.symm.trans (hA.1.trans h0)) hn
        · rw [ha] at ha'; cases ha'; exact h1
      · have h3 : wr.heap.size ≤ g := hf _ ha
        intro e; have e4 : g = k := e; omega
    · rcases hf with ⟨rfl, rfl⟩ | hf
      · rcases hA.2 with h0 | ⟨g', o', ha', h1, h2, _⟩
        · exact absurd (h.1.symm.trans (hA.1.trans h0)) hn
        · rw [ha] at ha'; cases ha'; exact h2
      · intro e; have h1 := hv g e; have h2 : wr.heap.size ≤ g := hf _ ha; omega
section
variable {A1 A2 : Option Addr} {O1 O2 : List Int} {q : Pl.S × List Int} {wr W w9 : World} {m1 m2 m : Nat} {h2 : Hd.H} {N2 rows2 last2 er2 : Int} {b1 b2 a : Option Addr} {e1 e2 c : Nat}
end
end Go.Proofs.YtooilemglmndeaaGreat
