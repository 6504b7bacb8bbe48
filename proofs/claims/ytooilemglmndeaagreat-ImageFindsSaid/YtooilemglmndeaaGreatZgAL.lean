/- A struct of five fields of a cell each that came in, told field by field. No condition. -/
import Derived.Test.YtooilemglmndeaaGreatProg
import Derived.Lib.SmallJoins
import Derived.Test.YtooilemglmndeaaGreatZgAK
import Derived.Test.YtooilemglmndeaaGreatZImG
import Derived.Test.YtooilemglmndeaaGreatZgAE
import Derived.Test.YtooilemglmndeaaGreatZgAB
import Derived.Deep.RegionHeld3
import Derived.Deep.DeepCutAuto
import Derived.Test.YtooilemglmndeaaGreatZgAI
import Derived.Test.YtooilemglmndeaaGreatZgAA
namespace Go.Proofs.YtooilemglmndeaaGreat
set_option linter.unusedVariables false
open Go.ChangeShapes Go.WideShapes Go.RowKit Go.Deep Go.WideElems Go.Maps Go.Joins
theorem arr_five {α : Type} {l : Array α} (h : l.size = 5) : ∃ a b c d e, l = #[a, b, c, d, e] := by
  obtain ⟨x⟩ := l
  match x, h with
  | [a, b, c, d, e], _ => exact ⟨a, b, c, d, e, rfl⟩
section
variable {H : Type} {enc : TypeId × Value → H} {P : Program} {w : World} {base : Nat} {spare : Nat → Bool} {held : Bool}
theorem open_agg5 {r : Reach} {b0 : Nat} {t : TypeId} {g0 g1 g2 g3 g4 : Field} {v : Value} {d : DataW H} {p : List MemPlace} (hs : P.underlying t = some (.struct #[g0, g1, g2, g3, g4])) (hone : oneCellFields P #[g0, g1, g2, g3, g4] = true) (hC : P.cellsOf t = 5)
    (hv : Value.okWide P w r b0 t v) (h : DataW.Trod enc P w base spare held t v d p) :
    ∃ (x0 x1 x2 x3 x4 : Value) (y0 y1 y2 y3 y4 : DataW H × List MemPlace) (n : Nat), v = .agg #[x0, x1, x2, x3, x4] ∧ d = .agg [y0.1, y1.1, y2.1, y3.1, y4.1] ∧ p = y0.2 ++ (y1.2 ++ (y2.2 ++ (y3.2 ++ y4.2))) ∧
      DataW.trod enc P w base spare held n g0.type [x0] = some y0 ∧ DataW.trod enc P w base spare held n g1.type [x1] = some y1 ∧ DataW.trod enc P w base spare held n g2.type [x2] = some y2 ∧ DataW.trod enc P w base spare held n g3.type [x3] = some y3 ∧ DataW.trod enc P w base spare held n g4.type [x4] = some y4 := by
  obtain ⟨cs, rfl, hz⟩ := okWide_struct hs hv
  obtain ⟨x0, x1, x2, x3, x4, rfl⟩ := arr_five (hz.trans hC)
  obtain ⟨fuel, hf⟩ := h
  obtain ⟨ys, n, _, hx, _, hlen, hF⟩ := DataW.trod_struct hs hf
  have F := fun k (f : Field) (hk : #[g0, g1, g2, g3, g4][k]? = some f) => (hone_of hone k f hk)
  match ys, hlen with
  | [y0, y1, y2, y3, y4], _ =>
    simp only [Prod.mk.injEq] at hx
    obtain ⟨o0, k0⟩ := F 0 g0 rfl
    obtain ⟨o1, k1⟩ := F 1 g1 rfl
    obtain ⟨o2, k2⟩ := F 2 g2 rfl
    obtain ⟨o3, k3⟩ := F 3 g3 rfl
    obtain ⟨o4, k4⟩ := F 4 g4 rfl
    refine ⟨x0, x1, x2, x3, x4, y0, y1, y2, y3, y4, n, rfl, by simpa using hx.1, by simpa using hx.2, ?_, ?_, ?_, ?_, ?_⟩
    · simpa [Value.cells, o0, k0] using hF 0 g0 rfl
    · simpa [Value.cells, o1, k1] using hF 1 g1 rfl
    · simpa [Value.cells, o2, k2] using hF 2 g2 rfl
    · simpa [Value.cells, o3, k3] using hF 3 g3 rfl
    · simpa [Value.cells, o4, k4] using hF 4 g4 rfl
end
end Go.Proofs.YtooilemglmndeaaGreat

/- Plain facts on an image's bytes: which kinds there are, how many bytes. No condition. -/
namespace Go.Proofs.YtooilemglmndeaaGreat
set_option linter.unusedVariables false
open Go.RowKit
set_option linter.unusedVariables false
theorem Im.kinds_len (p : Int → Bool) : ∀ n, (Im.kn p n).length ≤ n
  | 0 => Nat.le_refl _
  | n + 1 => by
    have := Im.kinds_len p n
    unfold Im.kn
    split <;> simp <;> omega
theorem ik_sl {c m : Int} {w : World} {e : Ending} {w' : World} {n : Nat} (hn : (Im.kindsV c m).length = n) {l : List Int} (hl : Im.kindsV c m = l) (h : Bt.LsR (Im.kindsV c m) w e w') : ∃ (a : Option Addr) (cap : Nat), e = .returned (.slice a n cap) ∧ SlK .i64 w' a n l ∧ Below w.heap.size w w' := by
  obtain ⟨ad, c, rfl, hr, hb⟩ := h
  obtain ⟨ad', cap', e, ho, _⟩ := ownK_row rfl hr
  cases e
  have hs := ho.sl
  rw [hl] at hs hn ⊢
  rw [hn] at hs ⊢
  exact ⟨ad, c, rfl, hs, hb⟩
end Go.Proofs.YtooilemglmndeaaGreat

/- A reader by the document in a block of four cells. No condition. -/
namespace Go.Proofs.YtooilemglmndeaaGreat
set_option linter.unusedVariables false
open Go.RowKit
set_option linter.unusedVariables false

/-- a reader by the document in a block of four cells -/
def Nb (w : World) (b : Nat) (k n m e : Int) : Prop := w.heap[b]? = some (.cells #[.int .i64 k, .int .i64 n, .int .i64 m, .int .i64 e] 176 (0, 0))
section
variable {w w' : World} {b : Nat} {k n m e : Int}
theorem Nb.lt (h : Nb w b k n m e) : b < w.heap.size := (Array.getElem?_eq_some_iff.1 h).1
theorem Nb.later (h : Nb w b k n m e) (hb : Below w.heap.size w w') : Nb w' b k n m e := (hb.block b h.lt).trans h
theorem Nb.kept {row : Option Nat} (h : Nb w b k n m e) (hg : w.grownBy w' row) (hne : some b ≠ row) : Nb w' b k n m e := (hg.block b h.lt hne).trans h
theorem Nb.cells (h : Nb w b k n m e) : w.cell? ⟨b, 0, none⟩ = some (.int .i64 k) ∧ w.cell? ⟨b, 1, none⟩ = some (.int .i64 n) ∧ w.cell? ⟨b, 2, none⟩ = some (.int .i64 m) ∧ w.cell? ⟨b, 3, none⟩ = some (.int .i64 e) := by
  have h' : w.heap[b]? = _ := h
  refine ⟨?_, ?_, ?_, ?_⟩ <;> simp [World.cell?, h']
theorem Nb.fr (h : Nb w b k n m e) : w.frozen? ⟨b, 0, none⟩ = false ∧ w.frozen? ⟨b, 1, none⟩ = false ∧ w.frozen? ⟨b, 2, none⟩ = false ∧ w.frozen? ⟨b, 3, none⟩ = false := by
  have h' : w.heap[b]? = _ := h
  refine ⟨?_, ?_, ?_, ?_⟩ <;> simp [World.frozen?, h']
theorem Nb.new (w : World) (k n m e : Int) : Nb (w.alloc (.cells #[.int .i64 k, .int .i64 n, .int .i64 m, .int .i64 e] 176)) w.heap.size k n m e := World.alloc_heap_new w _
theorem Nb.alloc (h : Nb w b k n m e) (o : Obj) : Nb (w.alloc o) b k n m e := h.kept (World.grownBy_alloc w o none) (by simp)
theorem Nb.drew (h : Nb w b k n m e) : Nb w.drew b k n m e := h
theorem Nb.put (h : Nb w b k n m e) (k' n' m' e' : Int) : Nb ((((w.setCell ⟨b, 0, none⟩ (.int .i64 k')).setCell ⟨b, 1, none⟩ (.int .i64 n')).setCell ⟨b, 2, none⟩ (.int .i64 m')).setCell ⟨b, 3, none⟩ (.int .i64 e')) b k' n' m' e' := by
  have h' : w.heap[b]? = _ := h
  have h1 := Go.heap_setCell_same w b 0 _ _ (.int .i64 k') h'
  have h2 := Go.heap_setCell_same _ b 1 _ _ (.int .i64 n') h1
  have h3 := Go.heap_setCell_same _ b 2 _ _ (.int .i64 m') h2
  have h4 := Go.heap_setCell_same _ b 3 _ _ (.int .i64 e') h3
  simpa [Nb] using h4
theorem Nb.set (h : Nb w b k n m e) (a : Addr) (y : Value) (hne : b ≠ a.block) : Nb (w.setCell a y) b k n m e := (Below.heap_setCell w a y b hne).trans h
end
end Go.Proofs.YtooilemglmndeaaGreat

/- Heads of rasters of bytes, made of any; how many pixels are read. No condition. -/
namespace Go.Proofs.YtooilemglmndeaaGreat
set_option linter.unusedVariables false
open Go.RowKit
theorem Rw.may_fit {h : Hd.H} (H : Rw.May h) : Hj.Fit h := by
  have := H.m
  unfold Hj.Fit Nu.I; omega
end Go.Proofs.YtooilemglmndeaaGreat

/- How many pixels are parsed of so many bytes. No condition. -/
namespace Go.Proofs.YtooilemglmndeaaGreat
set_option linter.unusedVariables false
open Go.RowKit
end Go.Proofs.YtooilemglmndeaaGreat
