/- A node in a block of five cells. No condition. -/
import Derived.Test.YtehmbnloplamaaaTrMem
import Derived.Test.YtehmbnloplamaaaRows
import Derived.Test.YtehmbnloplamaaaChecked
namespace Go.Proofs.Ytehmbnloplamaaa
open Go.RowKit
set_option linter.unusedVariables false
def Nv (w : World) (b : Nat) (v0 v1 v2 v3 v4 : Value) : Prop := w.heap[b]? = some (.cells #[v0, v1, v2, v3, v4] 79 (0, 0))
section
variable {w w' : World} {b : Nat} {v0 v1 v2 v3 v4 : Value}
theorem Nv.lt (hh : Nv w b v0 v1 v2 v3 v4) : b < w.heap.size := (Array.getElem?_eq_some_iff.1 hh).1
theorem Nv.later (hh : Nv w b v0 v1 v2 v3 v4) (hb : Below w.heap.size w w') : Nv w' b v0 v1 v2 v3 v4 := (hb.block b hh.lt).trans hh
theorem Nv.cells (hh : Nv w b v0 v1 v2 v3 v4) : w.cell? ⟨b, 0, none⟩ = some v0 ∧ w.cell? ⟨b, 1, none⟩ = some v1 ∧ w.cell? ⟨b, 2, none⟩ = some v2 ∧ w.cell? ⟨b, 3, none⟩ = some v3 ∧ w.cell? ⟨b, 4, none⟩ = some v4 := by
  have h' : w.heap[b]? = _ := hh
  refine ⟨?_, ?_, ?_, ?_, ?_⟩ <;> simp [World.cell?, h']
theorem Nv.fr (hh : Nv w b v0 v1 v2 v3 v4) : w.frozen? ⟨b, 0, none⟩ = false ∧ w.frozen? ⟨b, 1, none⟩ = false ∧ w.frozen? ⟨b, 2, none⟩ = false ∧ w.frozen? ⟨b, 3, none⟩ = false ∧ w.frozen? ⟨b, 4, none⟩ = false := by
  have h' : w.heap[b]? = _ := hh
  refine ⟨?_, ?_, ?_, ?_, ?_⟩ <;> simp [World.frozen?, h']
theorem Nv.new (w : World) (v0 v1 v2 v3 v4 : Value) : Nv (w.alloc (.cells #[v0, v1, v2, v3, v4] 79)) w.heap.size v0 v1 v2 v3 v4 := World.alloc_heap_new w _
theorem Nv.put (hh : Nv w b v0 v1 v2 v3 v4) (u0 u1 u2 u3 u4 : Value) : Nv (((((w.setCell ⟨b, 0, none⟩ u0).setCell ⟨b, 1, none⟩ u1).setCell ⟨b, 2, none⟩ u2).setCell ⟨b, 3, none⟩ u3).setCell ⟨b, 4, none⟩ u4) b u0 u1 u2 u3 u4 := by
  have h0 : w.heap[b]? = _ := hh
  have h1 := Tr.set_same 0 u0 h0
  have h2 := Tr.set_same 1 u1 h1
  have h3 := Tr.set_same 2 u2 h2
  have h4 := Tr.set_same 3 u3 h3
  have h5 := Tr.set_same 4 u4 h4
  simpa [Nv] using h5
theorem load_nd (hh : Nv w b v0 v1 v2 v3 v4) : (loadVar 79 ⟨b, 0, none⟩).run Try.prog w = .ok (.agg #[v0, v1, v2, v3, v4]) w := by
  obtain ⟨h0, h1, h2, h3, h4⟩ := hh.cells
  simp [go_sem, h0, h1, h2, h3, h4]
end
theorem ret_cell1 {P : Program} {fn : Func} {p : Tmp} {ty : TypeId} (h : fn.results = #[.cell p ty]) (tmps : Array Value) (w : World) (b : Nat) (val : Value) (hp : tmps.getD p undef = .pointer (some ⟨b, 0, none⟩)) (hl : (loadVar ty ⟨b, 0, none⟩).run P w = .ok val w) :
    (results fn tmps).run P w = .ok val w := by
  have hp' : tmps[p]?.getD undef = .pointer (some ⟨b, 0, none⟩) := by simpa using hp
  simp only [results, h]
  simp [hp', asAddr, hl]
theorem box1T (w : World) (o : Obj) : Below w.heap.size w (w.alloc o) := (Below.refl _ _).alloc (Nat.le_refl _) o
end Go.Proofs.Ytehmbnloplamaaa
