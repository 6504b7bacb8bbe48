/- A raster of bytes written by the document, over any memory. Condition: the head may be, there are as many pixels as it has, and not too many. -/
import Derived.Test.YtmnhiagppicegaaGreatZgAF
import Derived.Test.YtmnhiagppicegaaGreatZgAE
import Derived.Test.YtmnhiagppicegaaGreatZgAB
namespace Go.Proofs.YtmnhiagppicegaaGreat
open Go.RowKit
set_option linter.unusedVariables false
def RwwR (t : List Int × Int) (w : World) (e : Ending) (w' : World) : Prop :=
  ∃ a c, e = .returned (.tuple #[.slice a t.1.length c, .int .i64 t.2]) ∧ SlK .u8 w' a t.1.length t.1 ∧ (t.1.length ≤ c ∧ c ≤ 9223372036854775807) ∧ Below w.heap.size w w'
def byts (l : List Int) : List Value := l.map (Value.int .u8)
theorem byt_row {w : World} {base k : Nat} {v : Value} {l : List Int} (hr : w.ownsRow base 5 1 v k (byts l)) (hk : l.length = k) :
    ∃ a c, v = .slice a k c ∧ SlK .u8 w a k l := by
  rcases hr.2 with ⟨rfl, rfl⟩ | ⟨g, cap, cur, rfl, hb, hg, hle, hm, hs, ht⟩
  · exact ⟨none, 0, rfl, hk, .inl rfl⟩
  · refine ⟨_, cap, rfl, hk, .inr ⟨g, 0, rfl, fun i hi => ?_⟩⟩
    have hc := hr.cells (g := g) rfl i (.int .u8 (l.getD i 0)) (by simp [byts, List.getD_eq_getElem?_getD, List.getElem?_eq_getElem (show i < l.length by omega)])
    simpa [addrK_add] using hc
theorem byt_cap {w : World} {base n c : Nat} {e : TypeId} {a : Option Addr} {xs : List Value} (h : w.ownsRow base e 1 (.slice a n c) n xs) : n ≤ c ∧ c ≤ 9223372036854775807 := by
  rcases h.2 with ⟨hv, he⟩ | ⟨g, cap, cur, hv, hb, hg, hle, hm, _⟩
  · cases hv; omega
  · cases hv; unfold maxLen at hm; omega
/-- numbers of a row that lies apart from another one -/
def RowA (W : World) (v : Value) (g m : Nat) (zs : List Int) : Prop := SlK .i64 W (some ⟨g, 0, none⟩) m zs ∧ g < W.heap.size ∧ v.ownBlock ≠ some g
theorem RowA.later {W W' : World} {v : Value} {g m : Nat} {zs : List Int} (h : RowA W v g m zs) (hb : Below W.heap.size W W') : RowA W' v g m zs := ⟨h.1.below hb, Nat.lt_of_lt_of_le h.2.1 hb.size, h.2.2⟩
theorem RowA.grown {W w' : World} {v v' : Value} {g m : Nat} {zs : List Int} (h : RowA W v g m zs) (hg : W.grownBy w' v.ownBlock) (hat : v'.ownBlock = v.ownBlock ∨ v'.ownBlock = some W.heap.size) : RowA w' v' g m zs := by
  obtain ⟨⟨h1, h2⟩, h3, h4⟩ := h
  refine ⟨⟨h1, ?_⟩, Nat.lt_of_lt_of_le h3 hg.size, ?_⟩
  · rcases h2 with h2 | ⟨b, o, e, hc⟩
    · exact .inl h2
    · refine .inr ⟨b, o, e, fun i hi => ?_⟩
      cases e
      rw [hg.cell_far ⟨g, 0 + i, none⟩ h3 (fun e => h4 e.symm)]
      exact hc i hi
  · intro e
    rcases hat with k | k
    · exact h4 (k.symm.trans e)
    · rw [k] at e; injection e with e; omega
theorem Rw.bts_len {G : Hd.H} {p : Int} {m : Nat} (h : (Pq.Px.smp p).length ≤ m) : (Rw.bts G p).length ≤ 2 * m := by
  unfold Rw.bts
  rw [Rw.flat_len _ fun s _ => Rw.wbs_len G s]
  have := Rw.wide_at G
  have : (Pq.Px.smp p).length * Rw.wide G ≤ m * 2 := Nat.mul_le_mul h (by omega)
  omega
theorem Rw.flat_le {G : Hd.H} : ∀ l : List Int, (∀ p ∈ l, Pq.Px.U p) → (l.flatMap (Rw.bts G)).length ≤ 6 * l.length
  | [], _ => by simp
  | p :: l, hl => by
    have h1 := Rw.bts_len (G := G) (m := 3) (Pl.smp_in (hl p (List.mem_cons_self ..))).1
    have h2 := Rw.flat_le (G := G) l fun q hq => hl q (List.mem_cons_of_mem _ hq)
    rw [List.flatMap_cons, List.length_append, List.length_cons]; omega
theorem Rw.fits_all {G : Hd.H} (hm : Rw.May G) {l : List Int} (hl : Pl.Fits G l) : Pl.fitAll G l = true := by
  have hmm := hm.m
  unfold Pl.fitAll
  rw [List.all_eq_true]
  exact fun p hp => Pl.fits_true (hl p hp) (by omega) (by omega)
end Go.Proofs.YtmnhiagppicegaaGreat
