/- An image that bytes begin with, by the code, over any memory. Condition: not too many bytes. -/
import Derived.Test.YtmnhiagppicegaaGreatZgAF
import Derived.Deep.MidRow
namespace Go.Proofs.YtmnhiagppicegaaGreat
open Go.RowKit
set_option linter.unusedVariables false
theorem Pl.readF_used : ∀ (x : List Int) (s : S) (i : Nat) (acc : List Int), (0 : Int) ≤ (readF s i acc x).2.1 ∧ (readF s i acc x).2.1 ≤ ((i : Nat) : Int) + x.length
  | [], s, i, acc => by
    rw [readF]
    split
    · simp only [List.length_nil]; omega
    · simp only [List.length_nil]; omega
  | c :: cs, s, i, acc => by
    rw [readF]
    split
    · simp only [List.length_cons]; omega
    split
    · simp only [List.length_cons]; omega
    · have := readF_used cs (put s c).1 (i + 1) (acc ++ (put s c).2)
      simp only [List.length_cons] at this ⊢
      omega
theorem Im.read_len {h : Hd.H} (hm : Hd.May h) (bs : List Int) : (0 : Int) ≤ (Im.readV h bs).2.1 ∧ (Im.readV h bs).2.1 ≤ 1610612736 + bs.length := by
  unfold Im.readV
  split
  · obtain ⟨h1, h2, h3⟩ := Rw.strideV_size hm
    have a1 := hm.2.2.1.1
    have a2 := hm.2.2.1.2
    simp only
    rw [← h1]
    have b1 : Rw.strideV h * h.h ≤ 24576 * 65536 := Int.mul_le_mul h3 a2 (by omega) (by omega)
    have b0 : 0 ≤ Rw.strideV h * h.h := Int.mul_nonneg h2 (by omega)
    omega
  · unfold Pl.readV
    split
    · have := Pl.readF_used bs (Pl.new h) 0 []
      simp only [Int.natCast_zero, Int.zero_add] at this
      omega
    · simp only; omega
theorem im5_other {w : World} {b g k : Nat} {v0 v1 v2 v3 v4 v : Value} (hne : b ≠ g) (h : w.cell? ⟨g, k, none⟩ = some v) : (((((w.setCell ⟨b, 0, none⟩ v0).setCell ⟨b, 1, none⟩ v1).setCell ⟨b, 2, none⟩ v2).setCell ⟨b, 3, none⟩ v3).setCell ⟨b, 4, none⟩ v4).cell? ⟨g, k, none⟩ = some v := by
  have e : ∀ (W : World) o x, (W.setCell ⟨b, o, none⟩ x).cell? ⟨g, k, none⟩ = W.cell? ⟨g, k, none⟩ := fun W o x => World.cell?_setCell_other _ _ _ _ (fun e => hne (Addr.mk.inj e).1)
  rw [e, e, e, e, e]; exact h
theorem Ib.drew {w : World} {g : Nat} {t : TypeId} {c m W H : Int} {v : Value} (h : Ib w g t c m W H v) : Ib w.drew g t c m W H v := h
theorem Im.slk_store {w w' : World} {g : Nat} {t : TypeId} {c m W H : Int} {a0 : Option Addr} {n0 c0 : Nat} (hZ : Ib w g t c m W H (.slice a0 n0 c0)) {a : Option Addr} {n : Nat} {l : List Int} (hs : SlK .u64 w a n l) (ho : ∀ k l v, g ≠ k → w.cell? ⟨k, l, none⟩ = some v → w'.cell? ⟨k, l, none⟩ = some v) : SlK .u64 w' a n l := by
  refine ⟨hs.1, ?_⟩
  rcases hs.2 with h | ⟨b, o, rfl, hc⟩
  · exact .inl h
  by_cases hn : n = 0
  · exact .inl hn
  refine .inr ⟨b, o, rfl, fun i hi => ho b _ _ (fun e => ?_) (hc i hi)⟩
  subst e
  have h0 := hc 0 (by omega)
  rw [Nat.add_zero] at h0
  have hz : w.heap[g]? = _ := hZ
  have ho5 : o = 0 ∨ o = 1 ∨ o = 2 ∨ o = 3 ∨ o = 4 ∨ 5 ≤ o := by omega
  rcases ho5 with rfl | rfl | rfl | rfl | rfl | h5
  · simp [World.cell?, hz] at h0
  · simp [World.cell?, hz] at h0
  · simp [World.cell?, hz] at h0
  · simp [World.cell?, hz] at h0
  · simp [World.cell?, hz] at h0
  · simp [World.cell?, hz] at h0
    rw [List.getElem?_eq_none (by simpa using h5)] at h0
    cases h0
end Go.Proofs.YtmnhiagppicegaaGreat
