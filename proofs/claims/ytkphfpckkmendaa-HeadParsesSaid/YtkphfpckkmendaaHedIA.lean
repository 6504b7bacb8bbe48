/- The head that a text begins with, by the document, over any memory. Condition: the text is short. -/
import Derived.Test.YtkphfpckkmendaaHedU
import Derived.Test.YtkphfpckkmendaaHedC
namespace Go.Proofs.Ytkphfpckkmendaa
open Go.RowKit
set_option linter.unusedVariables false

theorem hat_cell {L : Hd.L} {w : World} {g : Nat} (h0 : w.cell? ⟨g, 0, none⟩ = some (.int .i64 L.m0)) (h1 : w.cell? ⟨g, 1, none⟩ = some (.int .i64 L.m1)) (h2 : w.cell? ⟨g, 2, none⟩ = some (.int .i64 L.m2)) (i : Nat) (hi : i < 3) : w.cell? ⟨g, i, none⟩ = some (.int .i64 (L.at i)) := by
  have : i = 0 ∨ i = 1 ∨ i = 2 := by omega
  rcases this with rfl | rfl | rfl
  · exact h0
  · exact h1
  · exact h2
/-- what lies in memory while the document's Parse is at work -/
structure Mem (w : World) (W : World) (rb hb g : Nat) (L : Hd.L) (H : Hd.H) : Prop where
  res : Hb W rb 25 Hd.none
  head : Hb W hb 25 H
  c0 : W.cell? ⟨g, 0, none⟩ = some (.int .i64 L.m0)
  c1 : W.cell? ⟨g, 1, none⟩ = some (.int .i64 L.m1)
  c2 : W.cell? ⟨g, 2, none⟩ = some (.int .i64 L.m2)
  bel : Below w.heap.size w W
theorem Mem.later {w W W' : World} {rb hb g : Nat} {L : Hd.L} {H : Hd.H} (h : Mem w W rb hb g L H) (hb' : Below W.heap.size W W') : Mem w W' rb hb g L H :=
  ⟨h.res.later hb', h.head.later hb', cell_later hb' h.c0, cell_later hb' h.c1, cell_later hb' h.c2, h.bel.trans (hb'.mono h.bel.size)⟩
theorem Mem.set {w W : World} {rb hb g : Nat} {L : Hd.L} {H H' : Hd.H} (h : Mem w W rb hb g L H) {o : Nat} {v : Value} (hs : Hb (W.setCell ⟨hb, o, none⟩ v) hb 25 H') (h1 : rb ≠ hb) (h2 : g ≠ hb) (h3 : w.heap.size ≤ hb) : Mem w (W.setCell ⟨hb, o, none⟩ v) rb hb g L H' := by
  have hg := grown_setCell W hb o v
  have hc : ∀ k x, W.cell? ⟨g, k, none⟩ = some x → (W.setCell ⟨hb, o, none⟩ v).cell? ⟨g, k, none⟩ = some x := fun k x hx => by
    rw [World.cell?_of_block (w := W) (a := ⟨g, k, none⟩) (Below.heap_setCell W ⟨hb, o, none⟩ v g h2)]; exact hx
  exact ⟨h.res.kept hg ((by intro e; injection e with e; exact h1 e)), hs, hc _ _ h.c0, hc _ _ h.c1, hc _ _ h.c2, h.bel.setCell h3 v⟩
theorem Hb.put1 {w : World} {b : Nat} {t : TypeId} {h : Hd.H} (hh : Hb w b t h) (x : Int) : Hb (w.setCell ⟨b, 1, none⟩ (.int .i64 x)) b t ⟨h.kd, x, h.h, h.m⟩ := by
  have h' : w.heap[b]? = _ := hh
  simpa [Hb] using Go.heap_setCell_same w b 1 _ _ (.int .i64 x) h'
theorem Hb.put2 {w : World} {b : Nat} {t : TypeId} {h : Hd.H} (hh : Hb w b t h) (x : Int) : Hb (w.setCell ⟨b, 2, none⟩ (.int .i64 x)) b t ⟨h.kd, h.w, x, h.m⟩ := by
  have h' : w.heap[b]? = _ := hh
  simpa [Hb] using Go.heap_setCell_same w b 2 _ _ (.int .i64 x) h'
theorem Hb.put3 {w : World} {b : Nat} {t : TypeId} {h : Hd.H} (hh : Hb w b t h) (x : Int) : Hb (w.setCell ⟨b, 3, none⟩ (.int .i64 x)) b t ⟨h.kd, h.w, h.h, x⟩ := by
  have h' : w.heap[b]? = _ := hh
  simpa [Hb] using Go.heap_setCell_same w b 3 _ _ (.int .i64 x) h'
/-- where the document's Parse is behind i numbers -/
def AtR (s : ByteArray) (L : Hd.L) (kd : Int) (M i at' : Nat) (hs : Hd.S) (mx : Int) : Prop :=
  i ≤ M ∧ at' ≤ s.size ∧ hs.kd = kd ∧ hs.i = i ∧ hs.t = Tk.new ∧ Hd.Good L hs ∧ (M = 2 → mx = 1 ∧ hs.v2 = 1) ∧
  (i < M → hs.p = 3 ∧ Hd.parseV L (bytesOf s) = Hd.parseF L hs at' ((bytesOf s).drop at')) ∧ (i = M → Hd.parseV L (bytesOf s) = (Hd.hd hs, (at' : Int), 0) ∧ mx = hs.v2)
theorem AtR.step {s : ByteArray} {L : Hd.L} {kd : Int} {M i at' at2 : Nat} {hs : Hd.S} {mx : Int} (h : AtR s L kd M i at' hs mx) (hi : i < M) (hM : Hd.many kd = M) (hl : L.Ok) {t : Tk.S} (hT : Tk.Good (L.at i) t) (hk : t.k = 4) (hn : t.n ≠ 0) (ha : at2 ≤ s.size)
    (hv : Hd.parseV L (bytesOf s) = Hd.parseF L (Hd.take hs t) at2 ((bytesOf s).drop at2)) : AtR s L kd M (i + 1) at2 (hs.num t.n) (if i = 2 then t.n else mx) := by
  obtain ⟨h1, h2, h3, h4, h5, h6, h7, h8, h9⟩ := h
  have hp := (h8 hi).1
  have htk : Hd.take hs t = hs.num t.n := by unfold Hd.take; rw [if_neg (by omega), if_pos hk, if_neg hn]
  rw [htk] at hv
  have hg : Hd.Good L (hs.num t.n) := by
    rw [← htk]
    exact Hd.good_take hl (h6.2.2.2.2.1 (by omega) (by omega)) (h6.2.2.2.2.2.1 (by omega)) (by rw [h4]; exact hT)
  have hm2 := Hd.many_at kd
  refine ⟨hi, ha, h3, by show hs.i + 1 = i + 1; rw [h4], rfl, hg, fun hM2 => ?_, fun hlt => ⟨Hd.num_more (by rw [h3, h4, hM]; omega), hv⟩, fun he => ⟨?_, ?_⟩⟩
  · have := h7 hM2
    refine ⟨by rw [if_neg (by omega)]; exact this.1, ?_⟩
    show (if 2 ≤ hs.i then t.n else hs.v2) = 1
    rw [if_neg (by omega)]; exact this.2
  · rw [hv, Hd.parse_over _ _ (Hd.num_over (by rw [h3, h4, hM]; exact he))]
  · show _ = (if 2 ≤ hs.i then t.n else hs.v2)
    by_cases h22 : i = 2
    · rw [if_pos h22, if_pos (by omega)]
    · rw [if_neg h22, if_neg (by omega)]
      have := h7 (by omega)
      rw [this.1, this.2]
theorem Hd.parse_tok (L : Hd.L) (s : Hd.S) (t u : Tk.S) (i : Nat) (r : List Int) : Hd.parseF L (Hd.take (s.tok t) u) i r = Hd.parseF L (Hd.take s u) i r := by
  by_cases h5 : u.k = 5
  · rw [Hd.take_wrong h5, Hd.take_wrong h5, Hd.parse_wrong _ _ rfl, Hd.parse_wrong _ _ rfl]; rfl
  · unfold Hd.take
    rw [if_neg h5, if_neg h5]
    by_cases h4 : u.k = 4
    · rw [if_pos h4, if_pos h4]
      by_cases h0 : u.n = 0
      · rw [if_pos h0, if_pos h0, Hd.parse_wrong _ _ rfl, Hd.parse_wrong _ _ rfl]; rfl
      · rw [if_neg h0, if_neg h0]; rfl
    · rw [if_neg h4, if_neg h4]; rfl
end Go.Proofs.Ytkphfpckkmendaa
