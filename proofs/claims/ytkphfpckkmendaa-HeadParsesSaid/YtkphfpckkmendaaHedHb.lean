/- A head in four cells of a block of the call's own, over any memory. No condition. -/
import Derived.Test.YtkphfpckkmendaaHedMath
import Derived.Test.YtkphfpckkmendaaIn
import Derived.Laws.EntriesVeiled
namespace Go.Proofs.Ytkphfpckkmendaa
open Go.RowKit
set_option linter.unusedVariables false

/-- a head, as a value -/
def agH (h : Hd.H) : Value := .agg #[.int .i64 h.kd, .int .i64 h.w, .int .i64 h.h, .int .i64 h.m]
/-- four cells in a block of the call's own -/
def Hb (w : World) (b : Nat) (t : TypeId) (h : Hd.H) : Prop := w.heap[b]? = some (.cells #[.int .i64 h.kd, .int .i64 h.w, .int .i64 h.h, .int .i64 h.m] t (0, 0))
section
variable {w w' : World} {b : Nat} {t : TypeId} {h : Hd.H}
theorem Hb.lt (hh : Hb w b t h) : b < w.heap.size := (Array.getElem?_eq_some_iff.1 hh).1
theorem Hb.later (hh : Hb w b t h) (hb : Below w.heap.size w w') : Hb w' b t h := (hb.block b hh.lt).trans hh
theorem Hb.sep {Z : Nat → Prop} (hh : Hb w b t h) (hs : Sep Z w w') (hz : ¬ Z b) : Hb w' b t h := (hs.block b hh.lt hz).trans hh
theorem Hb.kept {row : Option Nat} (hh : Hb w b t h) (hg : w.grownBy w' row) (hne : some b ≠ row) : Hb w' b t h := (hg.block b hh.lt hne).trans hh
theorem Hb.cells (hh : Hb w b t h) : w.cell? ⟨b, 0, none⟩ = some (.int .i64 h.kd) ∧ w.cell? ⟨b, 1, none⟩ = some (.int .i64 h.w) ∧ w.cell? ⟨b, 2, none⟩ = some (.int .i64 h.h) ∧ w.cell? ⟨b, 3, none⟩ = some (.int .i64 h.m) := by
  have h' : w.heap[b]? = _ := hh
  refine ⟨?_, ?_, ?_, ?_⟩ <;> simp [World.cell?, h']
theorem Hb.fr (hh : Hb w b t h) : w.frozen? ⟨b, 0, none⟩ = false ∧ w.frozen? ⟨b, 1, none⟩ = false ∧ w.frozen? ⟨b, 2, none⟩ = false ∧ w.frozen? ⟨b, 3, none⟩ = false := by
  have h' : w.heap[b]? = _ := hh
  refine ⟨?_, ?_, ?_, ?_⟩ <;> simp [World.frozen?, h']
theorem Hb.new (w : World) (t : TypeId) (h : Hd.H) : Hb (w.alloc (.cells #[.int .i64 h.kd, .int .i64 h.w, .int .i64 h.h, .int .i64 h.m] t)) w.heap.size t h := World.alloc_heap_new w _
theorem Hb.alloc (hh : Hb w b t h) (o : Obj) : Hb (w.alloc o) b t h := hh.kept (World.grownBy_alloc w o none) (by simp)
theorem Hb.drew (hh : Hb w b t h) : Hb w.drew b t h := hh
theorem Hb.put (hh : Hb w b t h) (k : Hd.H) : Hb ((((w.setCell ⟨b, 0, none⟩ (.int .i64 k.kd)).setCell ⟨b, 1, none⟩ (.int .i64 k.w)).setCell ⟨b, 2, none⟩ (.int .i64 k.h)).setCell ⟨b, 3, none⟩ (.int .i64 k.m)) b t k := by
  have h' : w.heap[b]? = _ := hh
  have h1 := Go.heap_setCell_same w b 0 _ _ (.int .i64 k.kd) h'
  have h2 := Go.heap_setCell_same _ b 1 _ _ (.int .i64 k.w) h1
  have h3 := Go.heap_setCell_same _ b 2 _ _ (.int .i64 k.h) h2
  have h4 := Go.heap_setCell_same _ b 3 _ _ (.int .i64 k.m) h3
  simpa [Hb] using h4
end
theorem load_hd {w : World} {b : Nat} {t : TypeId} {h : Hd.H} (hh : Hb w b t h) : (loadVar 36 ⟨b, 0, none⟩).run Try.prog w = .ok (agH h) w := by
  obtain ⟨h0, h1, h2, h3⟩ := hh.cells
  simp [go_sem, h0, h1, h2, h3, agH]
theorem load_rh {w : World} {b : Nat} {t : TypeId} {h : Hd.H} (hh : Hb w b t h) : (loadVar 25 ⟨b, 0, none⟩).run Try.prog w = .ok (agH h) w := by
  obtain ⟨h0, h1, h2, h3⟩ := hh.cells
  simp [go_sem, h0, h1, h2, h3, agH]
theorem Hj.ret3 {P : Program} {fn : Func} {p u v : Tmp} {ty : TypeId} (h : fn.results = #[.cell p ty, .tmp u, .tmp v]) (tmps : Array Value) (w : World) (b : Nat) (val : Value) (hp : tmps.getD p undef = .pointer (some ⟨b, 0, none⟩)) (hl : (loadVar ty ⟨b, 0, none⟩).run P w = .ok val w) :
    (results fn tmps).run P w = .ok (.tuple #[val, tmps.getD u undef, tmps.getD v undef]) w := by
  have hp' : tmps[p]?.getD undef = .pointer (some ⟨b, 0, none⟩) := by simpa using hp
  simp only [results, h]
  simp [hp', asAddr, hl, Result.andThen]
theorem Hj.ret1 {P : Program} {fn : Func} {p : Tmp} {ty : TypeId} (h : fn.results = #[.cell p ty]) (tmps : Array Value) (w : World) (b : Nat) (val : Value) (hp : tmps.getD p undef = .pointer (some ⟨b, 0, none⟩)) (hl : (loadVar ty ⟨b, 0, none⟩).run P w = .ok val w) :
    (results fn tmps).run P w = .ok val w := by
  have hp' : tmps[p]?.getD undef = .pointer (some ⟨b, 0, none⟩) := by simpa using hp
  simp only [results, h]
  simp [hp', asAddr, hl]
end Go.Proofs.Ytkphfpckkmendaa
