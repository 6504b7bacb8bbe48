/- A reader by the document in a block of four cells. No condition. -/
import Derived.Test.YtkphfpckkmendaaTokD
import Derived.Deep.RegionHeld3
import Derived.Deep.DeepCutAuto
namespace Go.Proofs.Ytkphfpckkmendaa
open Go.RowKit
set_option linter.unusedVariables false

/-- a reader by the document in a block of four cells -/
def Nb (w : World) (b : Nat) (k n m e : Int) : Prop := w.heap[b]? = some (.cells #[.int .i64 k, .int .i64 n, .int .i64 m, .int .i64 e] 58 (0, 0))
section
variable {w w' : World} {b : Nat} {k n m e : Int}
theorem Nb.lt (h : Nb w b k n m e) : b < w.heap.size := (Array.getElem?_eq_some_iff.1 h).1
theorem Nb.later (h : Nb w b k n m e) (hb : Below w.heap.size w w') : Nb w' b k n m e := (hb.block b h.lt).trans h
theorem Nb.kept {row : Option Nat} (h : Nb w b k n m e) (hg : w.grownBy w' row) (hne : some b ≠ row) : Nb w' b k n m e := (hg.block b h.lt hne).trans h
theorem Nb.cells (h : Nb w b k n m e) : w.cell? ⟨b, 0, none⟩ = some (.int .i64 k) ∧ w.cell? ⟨b, 1, none⟩ = some (.int .i64 n) ∧ w.cell? ⟨b, 2, none⟩ = some (.int .i64 m) ∧ w.cell? ⟨b, 3, none⟩ = some (.int .i64 e) := by
  have h' : w.heap[b]? = _ := h
  refine ⟨?_, ?_, ?_, ?_⟩ <;> simp [World.cell?, h']
theorem Nb.fr (h : Nb w b k n m e) : w.frozen? ⟨b, 0, none⟩ = false ∧ w.frozen? ⟨b, 1, none⟩ = false ∧ w.frozen? ⟨b, 2, none⟩ = false ∧ w.frozen? ⟨b, 3, none⟩ = false := by
  have h' : w.heap[b]? = _ := h
  refine ⟨?_, ?_, ?_, ?_⟩ <;> simp [World.frozen?, h']
theorem Nb.new (w : World) (k n m e : Int) : Nb (w.alloc (.cells #[.int .i64 k, .int .i64 n, .int .i64 m, .int .i64 e] 58)) w.heap.size k n m e := World.alloc_heap_new w _
theorem Nb.alloc (h : Nb w b k n m e) (o : Obj) : Nb (w.alloc o) b k n m e := h.kept (World.grownBy_alloc w o none) (by simp)
theorem Nb.drew (h : Nb w b k n m e) : Nb w.drew b k n m e := h
theorem Nb.put (h : Nb w b k n m e) (k' n' m' e' : Int) : Nb ((((w.setCell ⟨b, 0, none⟩ (.int .i64 k')).setCell ⟨b, 1, none⟩ (.int .i64 n')).setCell ⟨b, 2, none⟩ (.int .i64 m')).setCell ⟨b, 3, none⟩ (.int .i64 e')) b k' n' m' e' := by
  have h' : w.heap[b]? = _ := h
  have h1 := Go.heap_setCell_same w b 0 _ _ (.int .i64 k') h'
  have h2 := Go.heap_setCell_same _ b 1 _ _ (.int .i64 n') h1
  have h3 := Go.heap_setCell_same _ b 2 _ _ (.int .i64 m') h2
  have h4 := Go.heap_setCell_same _ b 3 _ _ (.int .i64 e') h3
  simpa [Nb] using h4
theorem Nb.set (h : Nb w b k n m e) (a : Addr) (y : Value) (hne : b ≠ a.block) : Nb (w.setCell a y) b k n m e := (Below.heap_setCell w a y b hne).trans h
end
theorem below_drewN' {B : Nat} {a w : World} (h : Below B a w) (n : Nat) : Below B a (w.drewN n) := h.trans ⟨rfl, rfl, rfl, Nat.le_refl _, fun _ _ => rfl⟩
end Go.Proofs.Ytkphfpckkmendaa
