/- A struct's slice that grows, the struct in a block of the call's own. No condition. -/
import Derived.Test.YtldhhhmihfcalaaRecL
namespace Go.Proofs.Ytldhhhmihfcalaa
open Go.RowKit
set_option linter.unusedVariables false

theorem Sb.setL {w : World} {b : Nat} {t : TypeId} {u v x : Value} (h : Sb w b t u v x) (y : Value) : Sb (w.setCell ⟨b, 2, none⟩ y) b t u v y := by
  have h' : w.heap[b]? = _ := h
  have h1 := Go.heap_setCell_same w b 2 _ t y h'
  simpa [Sb] using h1
theorem ownsRow_set {w : World} {base size n : Nat} {e : TypeId} {v : Value} {xs : List Value} (h : w.ownsRow base e size v n xs) {a : Addr} (ha : a.block < base) (y : Value) : (w.setCell a y).ownsRow base e size v n xs := by
  obtain ⟨h1, h2⟩ := h
  refine ⟨h1, ?_⟩
  rcases h2 with h2 | ⟨g, cap, cur, rfl, hbs, hg, r⟩
  · exact .inl h2
  · exact .inr ⟨g, cap, cur, rfl, hbs, heapSet w a y hg (by omega), r⟩
theorem pushL0 {W w1 : World} {b base : Nat} {T e : TypeId} {u1 u2 v v' : Value} {k m size : Nat} {xs ys : List Value}
    (hbox : Sb W b T u1 u2 v) (hrow : W.ownsRow base e size v k xs) (hlt : b < base) (hsz : base ≤ W.heap.size) (hown' : w1.ownsRow base e size v' m ys) (hgrow : W.grownBy w1 v.ownBlock) :
    Sb w1 b T u1 u2 v ∧ Sb (w1.setCell ⟨b, 2, none⟩ v') b T u1 u2 v' ∧ (w1.setCell ⟨b, 2, none⟩ v').ownsRow base e size v' m ys ∧ (∀ B, B ≤ b → Below B W (w1.setCell ⟨b, 2, none⟩ v')) ∧ base ≤ (w1.setCell ⟨b, 2, none⟩ v').heap.size := by
  have hb : ∀ j, v.ownBlock = some j → base ≤ j := fun j ej => (hrow.lt j ej).1
  have hBe : Below base W w1 := (Below.refl base W).grown hgrow hsz hb
  have h1 : Sb w1 b T u1 u2 v := hbox.below hBe hlt
  refine ⟨h1, h1.setL v', ownsRow_set hown' hlt v', fun B hB => (hBe.mono (by omega)).setCell hB v', ?_⟩
  have := hBe.size
  simp; omega
theorem pushL {W w1 : World} {b base : Nat} {T e : TypeId} {u1 u2 v v' : Value} {k m size : Nat} {xs ys : List Value} {tmp : Obj}
    (hbox : Sb W b T u1 u2 v) (hrow : W.ownsRow base e size v k xs) (hlt : b < base) (hsz : base ≤ W.heap.size) (hown' : w1.ownsRow base e size v' m ys) (hgrow : (W.alloc tmp).grownBy w1 v.ownBlock) :
    Sb w1 b T u1 u2 v ∧ Sb (w1.setCell ⟨b, 2, none⟩ v') b T u1 u2 v' ∧ (w1.setCell ⟨b, 2, none⟩ v').ownsRow base e size v' m ys ∧ (∀ B, B ≤ b → Below B W (w1.setCell ⟨b, 2, none⟩ v')) ∧ base ≤ (w1.setCell ⟨b, 2, none⟩ v').heap.size := by
  obtain ⟨h1, h2, h3, h4, h5⟩ := pushL0 (hbox.alloc tmp) (hrow.alloc tmp) hlt (by simp; omega) hown' hgrow
  exact ⟨h1, h2, h3, fun B hB => ((Below.refl B W).alloc (by omega) tmp).trans (h4 B hB), h5⟩
theorem bel_drewN {B : Nat} {a w : World} (h : Below B a w) (n : Nat) : Below B a (w.drewN n) := ⟨h.os, h.tape, h.output, h.size, h.block⟩
end Go.Proofs.Ytldhhhmihfcalaa
