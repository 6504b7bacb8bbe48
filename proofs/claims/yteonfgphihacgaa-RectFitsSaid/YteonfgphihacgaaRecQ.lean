/- A part of a part; what a law's walk starts from. No condition. -/
import Derived.Test.YteonfgphihacgaaRecM
namespace Go.Proofs.Yteonfgphihacgaa
open Go.RowKit
set_option linter.unusedVariables false

namespace Rc
theorem sub_sub {L : List Int} {W H x y p q i k s t : Int} (hL : Ok W H L) (hx : insV x p W = true) (hy : insV y q H = true) (hi : insV i s p = true) (hk : insV k t q = true) :
    subL (subL L W x y p q) p i k s t = subL L W (x + i) (y + k) s t := by
  obtain ⟨a1, a2, a3, a4⟩ := insV_iff.1 hx
  obtain ⟨b1, b2, b3, b4⟩ := insV_iff.1 hy
  obtain ⟨c1, c2, c3, c4⟩ := insV_iff.1 hi
  obtain ⟨d1, d2, d3, d4⟩ := insV_iff.1 hk
  refine rowsOf_congr fun r hr => ?_
  have h1 := cut_rowsOf (f := fun j => cutL L W x (y + (j : Int)) p) (n := q.toNat) (y := (k + r).toNat) (W := p.toNat) (x := i.toNat) (m := s.toNat) (by omega) (fun j hj => cutL_length hL.2.2.2.2.2 hx (insV_row hy hj)) (by omega)
  show ((rowsOf (fun j => cutL L W x (y + (j : Int)) p) q.toNat).drop ((k + r).toNat * p.toNat + i.toNat)).take s.toNat = _
  rw [h1]
  unfold cutL
  rw [List.drop_take, List.take_take, List.drop_drop]
  rw [show (y + ((k + (r : Int)).toNat : Int)).toNat = (y + k + r).toNat by omega]
  congr 1
  · omega
  · congr 1
    omega
end Rc
/-- four cells in a block of the call's own -/
def P4 (w : World) (b : Nat) (t : TypeId) (p0 p1 p2 p3 : Int) : Prop := w.heap[b]? = some (.cells #[.int .i64 p0, .int .i64 p1, .int .i64 p2, .int .i64 p3] t (0, 0))
theorem P4.cells {w : World} {b : Nat} {t : TypeId} {p0 p1 p2 p3 : Int} (h : P4 w b t p0 p1 p2 p3) : w.cell? ⟨b, 0, none⟩ = some (.int .i64 p0) ∧ w.cell? ⟨b, 1, none⟩ = some (.int .i64 p1) ∧ w.cell? ⟨b, 2, none⟩ = some (.int .i64 p2) ∧ w.cell? ⟨b, 3, none⟩ = some (.int .i64 p3) := by
  have h' : w.heap[b]? = _ := h
  refine ⟨?_, ?_, ?_, ?_⟩ <;> simp [World.cell?, h']
theorem P4.lt {w : World} {b : Nat} {t : TypeId} {p0 p1 p2 p3 : Int} (h : P4 w b t p0 p1 p2 p3) : b < w.heap.size := (Array.getElem?_eq_some_iff.1 h).1
theorem P4.later {w w' : World} {b : Nat} {t : TypeId} {p0 p1 p2 p3 : Int} (h : P4 w b t p0 p1 p2 p3) (hb : Below w.heap.size w w') : P4 w' b t p0 p1 p2 p3 := (hb.block b h.lt).trans h
theorem row_slk {k : IntKind} {w : World} {a : Option Addr} {len cap : Nat} {zs : List Int} (h : IsRow k w a len cap zs) : SlK k w a len (zs.take len) := isrow_takeK h len (Nat.le_refl _)
theorem px_take {w : World} {a : Option Addr} {len cap : Nat} {zs : List Int} (h : IsRow .u64 w a len cap zs) (n : Nat) : ∀ x ∈ zs.take n, 0 ≤ x ∧ x ≤ 18446744073709551615 := fun x hx => by
  have := isrow_wfK h x (List.mem_of_mem_take hx)
  simp [Lit.wf, IntKind.min, IntKind.max, IntKind.bits, IntKind.signed] at this; omega
theorem start3 (w : World) (o1 : Obj) (u v x : Value) (t s r : TypeId) (p0 p1 p2 p3 q0 q1 q2 q3 : Int) :
    Sb (((w.alloc (.cells #[u, v, x] t)).alloc (.cells #[.int .i64 p0, .int .i64 p1, .int .i64 p2, .int .i64 p3] s)).alloc (.cells #[.int .i64 q0, .int .i64 q1, .int .i64 q2, .int .i64 q3] r)) w.heap.size t u v x ∧
    P4 (((w.alloc (.cells #[u, v, x] t)).alloc (.cells #[.int .i64 p0, .int .i64 p1, .int .i64 p2, .int .i64 p3] s)).alloc (.cells #[.int .i64 q0, .int .i64 q1, .int .i64 q2, .int .i64 q3] r)) (w.heap.size + 1) s p0 p1 p2 p3 ∧
    P4 (((w.alloc (.cells #[u, v, x] t)).alloc (.cells #[.int .i64 p0, .int .i64 p1, .int .i64 p2, .int .i64 p3] s)).alloc (.cells #[.int .i64 q0, .int .i64 q1, .int .i64 q2, .int .i64 q3] r)) (w.heap.size + 1 + 1) r q0 q1 q2 q3 ∧
    Below w.heap.size w (((w.alloc (.cells #[u, v, x] t)).alloc (.cells #[.int .i64 p0, .int .i64 p1, .int .i64 p2, .int .i64 p3] s)).alloc (.cells #[.int .i64 q0, .int .i64 q1, .int .i64 q2, .int .i64 q3] r)) := by
  refine ⟨((Sb.new _ _ _ _ _).alloc _).alloc _, heapOld _ _ ?_, ?_, by go_grown⟩
  · have := heapNew (w.alloc (.cells #[u, v, x] t)) (.cells #[.int .i64 p0, .int .i64 p1, .int .i64 p2, .int .i64 p3] s)
    simp only [World.size_alloc] at this
    exact this
  · have := heapNew ((w.alloc (.cells #[u, v, x] t)).alloc (.cells #[.int .i64 p0, .int .i64 p1, .int .i64 p2, .int .i64 p3] s)) (.cells #[.int .i64 q0, .int .i64 q1, .int .i64 q2, .int .i64 q3] r)
    simp only [World.size_alloc] at this
    exact this

theorem P4.drew {w : World} {b : Nat} {t : TypeId} {p0 p1 p2 p3 : Int} (h : P4 w b t p0 p1 p2 p3) : P4 w.drew b t p0 p1 p2 p3 := h
theorem start4 (w : World) (u v x u2 v2 x2 : Value) (t t2 s : TypeId) (p0 p1 p2 p3 : Int) :
    Sb (((w.alloc (.cells #[u, v, x] t)).alloc (.cells #[u2, v2, x2] t2)).alloc (.cells #[.int .i64 p0, .int .i64 p1, .int .i64 p2, .int .i64 p3] s)) w.heap.size t u v x ∧
    Sb (((w.alloc (.cells #[u, v, x] t)).alloc (.cells #[u2, v2, x2] t2)).alloc (.cells #[.int .i64 p0, .int .i64 p1, .int .i64 p2, .int .i64 p3] s)) (w.heap.size + 1) t2 u2 v2 x2 ∧
    P4 (((w.alloc (.cells #[u, v, x] t)).alloc (.cells #[u2, v2, x2] t2)).alloc (.cells #[.int .i64 p0, .int .i64 p1, .int .i64 p2, .int .i64 p3] s)) (w.heap.size + 1 + 1) s p0 p1 p2 p3 ∧
    Below w.heap.size w (((w.alloc (.cells #[u, v, x] t)).alloc (.cells #[u2, v2, x2] t2)).alloc (.cells #[.int .i64 p0, .int .i64 p1, .int .i64 p2, .int .i64 p3] s)) := by
  refine ⟨((Sb.new _ _ _ _ _).alloc _).alloc _, heapOld _ _ ?_, ?_, by go_grown⟩
  · have := heapNew (w.alloc (.cells #[u, v, x] t)) (.cells #[u2, v2, x2] t2)
    simp only [World.size_alloc] at this
    exact this
  · have := heapNew ((w.alloc (.cells #[u, v, x] t)).alloc (.cells #[u2, v2, x2] t2)) (.cells #[.int .i64 p0, .int .i64 p1, .int .i64 p2, .int .i64 p3] s)
    simp only [World.size_alloc] at this
    exact this
end Go.Proofs.Yteonfgphihacgaa
