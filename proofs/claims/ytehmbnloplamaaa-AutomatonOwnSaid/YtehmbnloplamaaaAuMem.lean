/- An automaton in memory: its box, its states' row, its rows of numbers, each in a block of its own; how it turns. No condition. -/
import Derived.Test.YtehmbnloplamaaaTrMem
import Derived.Test.YtehmbnloplamaaaAuOrd
namespace Go.Proofs.Ytehmbnloplamaaa
open Go.RowKit
set_option linter.unusedVariables false
open Tr
namespace Au
theorem nds_setc (f : Nat → Nd) (rv : Nat → Value) {n k c : Nat} (hk : k < n) (hc : c < 5) (x : Nd) (hx : ∀ c', c' < 5 → c' ≠ c → cell (upd f k x) rv k c' = cell f rv k c') : (nds f rv n).set (k * 5 + c) (cell (upd f k x) rv k c) = nds (upd f k x) rv n := by
  apply List.ext_getElem?
  intro j
  by_cases hj : j < n * 5
  · obtain ⟨k', c', hk', hc', rfl⟩ : ∃ k c, k < n ∧ c < 5 ∧ j = k * 5 + c := ⟨j / 5, j % 5, by omega, by omega, by omega⟩
    rw [nds_get (upd f k x) _ hk' hc']
    by_cases e : k' * 5 + c' = k * 5 + c
    · have e1 : k' = k := by omega
      have e2 : c' = c := by omega
      subst e1 e2
      rw [List.getElem?_set_self (by rw [nds_len]; omega)]
    · rw [List.getElem?_set_ne (fun h => e h.symm), nds_get f _ hk' hc']
      by_cases e1 : k' = k
      · subst e1
        rw [hx c' hc' (by omega)]
      · unfold cell
        rw [upd_ne _ _ e1]
  · rw [List.getElem?_eq_none (by rw [List.length_set, nds_len]; omega), List.getElem?_eq_none (by rw [nds_len]; omega)]
/-- an automaton in memory: n states, what each is of (f: number, fall, link), its rows of numbers (2k + 1: the state k's children; 2k + 2: its words) as slices (rv) and as numbers (xs) -/
structure AuX (w : World) (B ab sb n : Nat) (f : Nat → Nd) (rv : Nat → Value) (xs : Nat → List Int) : Prop where
  low : B ≤ ab
  box : w.heap[ab]? = some (.cells #[.slice (some ⟨sb, 0, none⟩) n n] 71 (0, 0))
  row : w.ownsRow B 74 5 (.slice (some ⟨sb, 0, none⟩) n n) n (nds f rv n)
  rows : ∀ i, 1 ≤ i → i < 2 * n + 1 → w.ownsRow B 3 1 (rv i) (xs i).length ((xs i).map (Value.int .i64))
  apart : ∀ i j, 1 ≤ i → 1 ≤ j → i < 2 * n + 1 → j < 2 * n + 1 → i ≠ j → (rv i).ownBlock = none ∨ (rv i).ownBlock ≠ (rv j).ownBlock
/-- the blocks that it lies in -/
def Fa (ab sb n : Nat) (rv : Nat → Value) (g : Nat) : Prop := g = ab ∨ g = sb ∨ ∃ i, 1 ≤ i ∧ i < 2 * n + 1 ∧ (rv i).ownBlock = some g
section
variable {w : World} {B ab sb n : Nat} {f : Nat → Nd} {rv : Nat → Value} {xs : Nat → List Int}
theorem AuX.lt (h : AuX w B ab sb n f rv xs) {g : Nat} (hg : Fa ab sb n rv g) : B ≤ g ∧ g < w.heap.size := by
  rcases hg with rfl | rfl | ⟨i, h1, hi, hg⟩
  · exact ⟨h.low, (Array.getElem?_eq_some_iff.1 h.box).1⟩
  · exact h.row.lt _ rfl
  · exact (h.rows i h1 hi).lt _ hg
theorem AuX.ab_ne (h : AuX w B ab sb n f rv xs) : ab ≠ sb := by
  intro e
  obtain ⟨cur, hc⟩ := own_type h.row rfl
  rw [← e, h.box] at hc
  injection hc with hc; injection hc with _ ht _
  exact absurd ht (by decide)
theorem AuX.row_ne (h : AuX w B ab sb n f rv xs) {i : Nat} (h1 : 1 ≤ i) (hi : i < 2 * n + 1) : (rv i).ownBlock ≠ some sb := by
  intro e
  obtain ⟨cur, hc⟩ := own_type h.row rfl
  obtain ⟨cur', hc'⟩ := own_type (h.rows i h1 hi) e
  rw [hc] at hc'
  injection hc' with hc'; injection hc' with _ ht _
  exact absurd ht (by decide)
theorem AuX.box_ne (h : AuX w B ab sb n f rv xs) {i : Nat} (h1 : 1 ≤ i) (hi : i < 2 * n + 1) : (rv i).ownBlock ≠ some ab := by
  intro e
  obtain ⟨cur', hc'⟩ := own_type (h.rows i h1 hi) e
  rw [h.box] at hc'
  injection hc' with hc'; injection hc' with _ ht _
  exact absurd ht (by decide)
theorem AuX.of_blocks (h : AuX w B ab sb n f rv xs) {w' : World} (hb : ∀ g, Fa ab sb n rv g → w'.heap[g]? = w.heap[g]?) : AuX w' B ab sb n f rv xs :=
  ⟨h.low, (hb _ (.inl rfl)).trans h.box, own_of_block h.row fun g e => hb g (.inr (.inl (by simpa [Value.ownBlock] using e.symm))), fun i h1 hi => own_of_block (h.rows i h1 hi) fun g e => hb g (.inr (.inr ⟨i, h1, hi, e⟩)), h.apart⟩
theorem AuX.later (h : AuX w B ab sb n f rv xs) {w' : World} (hb : Below w.heap.size w w') : AuX w' B ab sb n f rv xs := h.of_blocks fun g hg => hb.block g (h.lt hg).2
theorem AuX.congr (h : AuX w B ab sb n f rv xs) {g : Nat → Nd} {ys : Nat → List Int} (hf : ∀ k, k < n → f k = g k) (hx : ∀ i, 1 ≤ i → i < 2 * n + 1 → xs i = ys i) : AuX w B ab sb n g rv ys :=
  ⟨h.low, h.box, by rw [← nds_congr hf (fun i _ _ => rfl)]; exact h.row, fun i h1 hi => by rw [← hx i h1 hi]; exact h.rows i h1 hi, h.apart⟩
theorem AuX.cell (h : AuX w B ab sb n f rv xs) {k c : Nat} (hk : k < n) (hc : c < 5) : w.cell? ⟨sb, k * 5 + c, none⟩ = some (Tr.cell f rv k c) := by
  rw [h.row.cellAt _ (by omega), nds_get f rv hk hc]
theorem AuX.cells (h : AuX w B ab sb n f rv xs) {k : Nat} (hk : k < n) : w.cell? ⟨sb, k * 5, none⟩ = some (.int .u64 (f k).1) ∧ w.cell? ⟨sb, k * 5 + 1, none⟩ = some (.int .i64 (f k).2.1) ∧ w.cell? ⟨sb, k * 5 + 2, none⟩ = some (.int .i64 (f k).2.2) ∧ w.cell? ⟨sb, k * 5 + 3, none⟩ = some (rv (2 * k + 1)) ∧ w.cell? ⟨sb, k * 5 + 4, none⟩ = some (rv (2 * k + 2)) := by
  exact ⟨by simpa [Tr.cell] using h.cell hk (c := 0) (by omega), by simpa [Tr.cell] using h.cell hk (c := 1) (by omega), by simpa [Tr.cell] using h.cell hk (c := 2) (by omega), by simpa [Tr.cell] using h.cell hk (c := 3) (by omega), by simpa [Tr.cell] using h.cell hk (c := 4) (by omega)⟩
theorem AuX.fr (h : AuX w B ab sb n f rv xs) (i : Nat) : w.frozen? ⟨sb, i, none⟩ = false := h.row.frozenAt i
theorem AuX.boxes (h : AuX w B ab sb n f rv xs) : w.cell? ⟨ab, 0, none⟩ = some (.slice (some ⟨sb, 0, none⟩) n n) := by
  have h' := h.box
  simp [World.cell?, h']
theorem AuX.bfr (h : AuX w B ab sb n f rv xs) (i : Nat) : w.frozen? ⟨ab, i, none⟩ = false := by
  have h' := h.box
  simp [World.frozen?, h']
theorem AuX.form (h : AuX w B ab sb n f rv xs) {i : Nat} (h1 : 1 ≤ i) (hi : i < 2 * n + 1) : ∃ a c, rv i = .slice a (xs i).length c := by
  rcases (h.rows i h1 hi).2 with ⟨e, e2⟩ | ⟨g, cap, cur, e, _⟩
  · exact ⟨none, 0, by rw [e, e2]⟩
  · exact ⟨_, cap, e⟩
/-- a number, a fall, a link is another one -/
theorem AuX.setc (h : AuX w B ab sb n f rv xs) {k c : Nat} (hk : k < n) (hc : c < 3) (x : Nd) (hx : ∀ c', c' < 5 → c' ≠ c → Tr.cell (upd f k x) rv k c' = Tr.cell f rv k c') : AuX (w.setCell ⟨sb, k * 5 + c, none⟩ (Tr.cell (upd f k x) rv k c)) B ab sb n (upd f k x) rv xs := by
  have hblk : ∀ g, g ≠ sb → (w.setCell ⟨sb, k * 5 + c, none⟩ (Tr.cell (upd f k x) rv k c)).heap[g]? = w.heap[g]? := fun g hne => Below.heap_setCell w _ _ g hne
  refine ⟨h.low, (hblk ab h.ab_ne).trans h.box, ?_, fun i h1 hi => own_of_block (h.rows i h1 hi) fun g e => hblk g (fun e2 => h.row_ne h1 hi (by rw [e, e2])), h.apart⟩
  have h2 := (h.row.stored (k * 5 + c) (Tr.cell (upd f k x) rv k c)).1
  rwa [nds_setc f rv hk (by omega) x hx] at h2
theorem AuX.num (h : AuX w B ab sb n f rv xs) {k : Nat} (hk : k < n) (p : Int) : AuX (w.setCell ⟨sb, k * 5, none⟩ (.int .u64 p)) B ab sb n (upd f k (p, (f k).2.1, (f k).2.2)) rv xs := by
  have := h.setc hk (c := 0) (by omega) (p, (f k).2.1, (f k).2.2) (fun c' h1 h2 => by
    have : c' = 1 ∨ c' = 2 ∨ c' = 3 ∨ c' = 4 := by omega
    rcases this with rfl | rfl | rfl | rfl <;> simp [Tr.cell, upd])
  simpa [Tr.cell, upd] using this
theorem AuX.fall (h : AuX w B ab sb n f rv xs) {k : Nat} (hk : k < n) (p : Int) : AuX (w.setCell ⟨sb, k * 5 + 1, none⟩ (.int .i64 p)) B ab sb n (upd f k ((f k).1, p, (f k).2.2)) rv xs := by
  have := h.setc hk (c := 1) (by omega) ((f k).1, p, (f k).2.2) (fun c' h1 h2 => by
    have : c' = 0 ∨ c' = 2 ∨ c' = 3 ∨ c' = 4 := by omega
    rcases this with rfl | rfl | rfl | rfl <;> simp [Tr.cell, upd])
  simpa [Tr.cell, upd] using this
theorem AuX.link (h : AuX w B ab sb n f rv xs) {k : Nat} (hk : k < n) (p : Int) : AuX (w.setCell ⟨sb, k * 5 + 2, none⟩ (.int .i64 p)) B ab sb n (upd f k ((f k).1, (f k).2.1, p)) rv xs := by
  have := h.setc hk (c := 2) (by omega) ((f k).1, (f k).2.1, p) (fun c' h1 h2 => by
    have : c' = 0 ∨ c' = 1 ∨ c' = 3 ∨ c' = 4 := by omega
    rcases this with rfl | rfl | rfl | rfl <;> simp [Tr.cell, upd])
  simpa [Tr.cell, upd] using this
/-- a row of numbers is another one now, behind a store into the cell that holds it -/
theorem AuX.push (h : AuX w B ab sb n f rv xs) {w1 : World} {i : Nat} (h1 : 1 ≤ i) (hi : i < 2 * n + 1) {v' : Value} {ys : List Int} (hrow : w1.ownsRow B 3 1 v' ys.length (ys.map (Value.int .i64))) (hsize : w.heap.size ≤ w1.heap.size)
    (hblk1 : ∀ g, g < w.heap.size → (rv i).ownBlock ≠ some g → w1.heap[g]? = w.heap[g]?) (hat : v'.ownBlock = (rv i).ownBlock ∨ ∃ g, v'.ownBlock = some g ∧ ¬ Fa ab sb n rv g) :
    AuX (w1.setCell ⟨sb, at5 i, none⟩ v') B ab sb n f (upd rv i v') (upd xs i ys) := by
  have hsb : w1.heap[sb]? = w.heap[sb]? := hblk1 sb (h.lt (.inr (.inl rfl))).2 (h.row_ne h1 hi)
  have hab : w1.heap[ab]? = w.heap[ab]? := hblk1 ab (h.lt (.inl rfl)).2 (h.box_ne h1 hi)
  have hv' : v'.ownBlock ≠ some sb ∧ v'.ownBlock ≠ some ab := by
    rcases hat with e | ⟨g, e, hlt⟩
    · rw [e]; exact ⟨h.row_ne h1 hi, h.box_ne h1 hi⟩
    · rw [e]; exact ⟨fun k => by injection k with k; exact hlt (.inr (.inl k)), fun k => by injection k with k; exact hlt (.inl k)⟩
  have hblk : ∀ g, g ≠ sb → (w1.setCell ⟨sb, at5 i, none⟩ v').heap[g]? = w1.heap[g]? := fun g hne => Below.heap_setCell w1 _ v' g hne
  refine ⟨h.low, (hblk ab h.ab_ne).trans (hab.trans h.box), ?_, fun j hj1 hj => ?_, fun j k hj1 hk1 hj hk hne => ?_⟩
  · have q1 : w1.ownsRow B 74 5 (.slice (some ⟨sb, 0, none⟩) n n) n (nds f rv n) := own_of_block h.row fun g hg' => by
      have eg : g = sb := by simpa [Value.ownBlock] using hg'.symm
      rw [eg]; exact hsb
    have q2 := (q1.stored (at5 i) v').1
    rwa [nds_set f rv h1 hi] at q2
  · by_cases e : j = i
    · subst e
      rw [upd_at, upd_at]
      exact own_of_block hrow fun g hg' => hblk g (fun e2 => hv'.1 (by rw [hg', e2]))
    · rw [upd_ne _ _ e, upd_ne _ _ e]
      refine own_of_block (h.rows j hj1 hj) fun g hg' => ?_
      rw [hblk g (fun e2 => h.row_ne hj1 hj (by rw [hg', e2]))]
      refine hblk1 g ((h.rows j hj1 hj).lt _ hg').2 (fun e2 => ?_)
      rcases h.apart j i hj1 h1 hj hi e with k | k
      · rw [hg'] at k; cases k
      · exact k (by rw [hg', e2])
  · have far : ∀ j, 1 ≤ j → j < 2 * n + 1 → j ≠ i → (rv j).ownBlock = none ∨ (rv j).ownBlock ≠ v'.ownBlock := fun j hj1 hj hne => by
      rcases hat with e | ⟨g, e, hlt⟩
      · rw [e]; exact h.apart j i hj1 h1 hj hi hne
      · rcases ho : (rv j).ownBlock with _ | z
        · exact .inl rfl
        · right; rw [e]; exact fun k => by injection k with k; exact hlt (.inr (.inr ⟨j, hj1, hj, by rw [ho, k]⟩))
    by_cases e1 : j = i
    · subst e1
      rw [upd_at, upd_ne _ _ (fun e => hne e.symm)]
      rcases far k hk1 hk (fun e => hne e.symm) with q | q
      · rcases ho : v'.ownBlock with _ | z
        · exact .inl rfl
        · right; rw [q]; exact fun e => by cases e
      · exact .inr (fun e => q e.symm)
    · rw [upd_ne _ _ e1]
      by_cases e2 : k = i
      · subst e2; rw [upd_at]; exact far j hj1 hj e1
      · rw [upd_ne _ _ e2]; exact h.apart j k hj1 hk1 hj hk hne
end
end Au
end Go.Proofs.Ytehmbnloplamaaa
