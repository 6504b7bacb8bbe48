/- A row, a column, a part, by the document. Condition: the matrix may be. -/
import Derived.Test.YtldhhhmihfcalaaRecM
namespace Go.Proofs.Ytldhhhmihfcalaa
open Go.RowKit
set_option linter.unusedVariables false

theorem ownsRow_cap9 {w : World} {base size k n cap : Nat} {e : TypeId} {ad : Option Addr} {xs : List Value} (h : w.ownsRow base e size (.slice ad n cap) k xs) : cap ≤ 9223372036854775807 := by
  rcases h.2 with ⟨h1, _⟩ | ⟨g, c, cur, h1, _, _, _, h9, _⟩
  · injection h1 with _ _ h3; omega
  · injection h1 with _ _ h3; subst h3; exact h9
theorem flatMap_one {α : Type} (f : Nat → α) (n : Nat) : (List.range n).flatMap (fun i => [f i]) = (List.range n).map f := by
  induction n with
  | zero => rfl
  | succ n ih => rw [flat_succ, ih, List.range_succ, List.map_append]; rfl
theorem cut_map {L : List Int} {W x y w : Int} (h : y.toNat * W.toNat + x.toNat + w.toNat ≤ L.length) : Rc.cutL L W x y w = (List.range w.toNat).map fun i => L.getD (y.toNat * W.toNat + x.toNat + i) 0 := by
  unfold Rc.cutL
  refine List.ext_getElem (by simp; omega) fun i h1 h2 => ?_
  simp at h1 h2
  simp [List.getElem_take, List.getElem_drop]
  rw [List.getElem?_eq_getElem (by omega)]; rfl
/-- row k of a part, its first i numbers -/
def pRow (L : List Int) (W x y : Int) (k i : Nat) : List Int := (List.range i).map fun (i : Nat) => L.getD ((y + k).toNat * W.toNat + (x + i).toNat) 0
theorem pRow_succ (L : List Int) (W x y : Int) (k i : Nat) : pRow L W x y k (i + 1) = pRow L W x y k i ++ [L.getD ((y + k).toNat * W.toNat + (x + i).toNat) 0] := by simp [pRow, List.range_succ]
theorem pRow_len (L : List Int) (W x y : Int) (k i : Nat) : (pRow L W x y k i).length = i := by simp [pRow]
theorem pRow_all {L : List Int} {W H x y w h : Int} (ho : Rc.Ok W H L) (hx : Rc.insV x w W = true) (hy : Rc.insV y h H = true) {k : Nat} (hk : k < h.toNat) : pRow L W x y k w.toNat = Rc.cutL L W x (y + k) w := by
  obtain ⟨p1, p2, p3, p4⟩ := place ho hx (Rc.insV_row hy hk)
  obtain ⟨a1, a2, a3, a4⟩ := Rc.insV_iff.1 hx
  rw [cut_map p3, pRow]
  refine List.map_congr_left fun i hi => ?_
  rw [show (x + (i : Int)).toNat = x.toNat + i by omega, Nat.add_assoc]
def pRows (L : List Int) (W x y w : Int) (k : Nat) : List Int := Rc.rowsOf (fun j => pRow L W x y j w.toNat) k
theorem pRows_len (L : List Int) (W x y w : Int) (k : Nat) : (pRows L W x y w k).length = k * w.toNat := Rc.rowsOf_length fun j hj => pRow_len ..
end Go.Proofs.Ytldhhhmihfcalaa
