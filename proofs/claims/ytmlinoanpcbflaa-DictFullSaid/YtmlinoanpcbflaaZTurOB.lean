/- All ways to lay a matrix that are not the same, and which is of which turn, by the document's own answer, over any memory. Condition: the matrix is one that Good makes; there are at most nine turns, and one at least. -/
import Derived.Test.YtmlinoanpcbflaaZTurOA
namespace Go.Proofs.Ytmlinoanpcbflaa
open Go.RowKit
set_option linter.unusedVariables false

theorem mk_key2 {most W H g : Nat} {L : List Int} (h : Mk most W H L) (hm : most ≤ 8) : Tu.keyOf W H L g = some (Tu.sw g W H, Tu.sw g H W, Tu.layL g W H L) := by
  unfold Tu.keyOf
  rw [if_pos (mk_sized h hm)]
/-- is entry i the one? -/
def hitF (es : List Fnt) (P Q : Nat) (T : List Int) (i : Nat) : Bool := match (es.map Fnt.key)[i]? with | some e => Tu.isKey (P, Q, T) e | none => false
theorem hit_place (es : List Fnt) (P Q : Nat) (T : List Int) : Tu.firstI (hitF es P Q T) es.length = Tu.placeK (es.map Fnt.key) (P, Q, T) := by
  unfold Tu.placeK hitF; rw [List.length_map]; rfl
theorem hit_at {es : List Fnt} {e : Fnt} {P Q i : Nat} {T : List Int} (h : es[i]? = some e) : hitF es P Q T i = (decide (((e.1 : Nat) : Int) = P) && (decide (((e.2.1 : Nat) : Int) = Q) && decide (e.2.2.2.2 = T))) := by
  unfold hitF
  rw [List.getElem?_map, h]
  rfl
theorem slk_set3 {s j n : Nat} {w : World} {ad : Option Addr} {u v x : Value} {T : List Int} (hs : SlK .u64 w ad n T) (ho : Old s w ad) (hb : Sb w j 45 u v x) (hj : s ≤ j) (p y z : Value) : SlK .u64 (((w.setCell ⟨j, 0, none⟩ p).setCell ⟨j, 1, none⟩ y).setCell ⟨j, 2, none⟩ z) ad n T := by
  refine ⟨hs.1, ?_⟩
  rcases hs.2 with h | ⟨b, off, e, hc⟩
  · exact .inl h
  · have hne : b ≠ j := fun e' => by
      rcases ho b off e with h1 | ⟨cs, hc⟩
      · omega
      · subst e'
        have hb' : w.heap[b]? = _ := hb
        rw [hb'] at hc
        injection hc with hc
        injection hc with _ ht _
        exact px_ne_m ht.symm
    refine .inr ⟨b, off, e, fun i hi => ?_⟩
    rw [World.cell?_setCell_other _ _ _ _ (fun e => by have := congrArg Addr.block e; simp at this; omega), World.cell?_setCell_other _ _ _ _ (fun e => by have := congrArg Addr.block e; simp at this; omega), World.cell?_setCell_other _ _ _ _ (fun e => by have := congrArg Addr.block e; simp at this; omega)]
    exact hc i hi
def OrbF (W H : Nat) (L ts : List Int) (i : Nat) (es : List Fnt) (pl : List Int) : Prop := es.map Fnt.key = (Tu.orbO W H L (ts.take i)).1 ∧ pl = (Tu.orbO W H L (ts.take i)).2 ∧ es.length ≤ i
theorem orbF_next {W H : Nat} {L ts : List Int} {i : Nat} {es es' : List Fnt} {pl : List Int} (h : OrbF W H L ts i es pl) (hi : i < ts.length) {p : Int}
    (h1 : Tu.stepO W H L (es.map Fnt.key) (ts.getD i 0) = (es'.map Fnt.key, p)) (h3 : es'.length ≤ i + 1) : OrbF W H L ts (i + 1) es' (pl ++ [p]) := by
  obtain ⟨a2, a3, a4⟩ := h
  have e := Tu.orb_take W H L ts hi
  rw [← a2, h1] at e
  exact ⟨by rw [e], by rw [e, a3], h3⟩
end Go.Proofs.Ytmlinoanpcbflaa
