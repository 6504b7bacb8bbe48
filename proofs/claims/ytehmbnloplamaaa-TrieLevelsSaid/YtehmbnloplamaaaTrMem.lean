/- A tree in memory: its box, its nodes' row, its rows of numbers, each in a block of its own; how it turns. No condition. -/
import Derived.Test.YtehmbnloplamaaaTrPut
import Derived.Test.YtehmbnloplamaaaIn
import Derived.Laws.OwnMore
import Derived.Deep.AppendLies
namespace Go.Proofs.Ytehmbnloplamaaa
open Go.RowKit
set_option linter.unusedVariables false
namespace Tr
/-- a node's number, parent, depth -/
abbrev Nd := Int × Int × Int
/-- the cell c of the node k -/
def cell (f : Nat → Nd) (rv : Nat → Value) (k c : Nat) : Value := if c = 0 then .int .u64 (f k).1 else if c = 1 then .int .i64 (f k).2.1 else if c = 2 then .int .i64 (f k).2.2 else if c = 3 then rv (2 * k + 1) else rv (2 * k + 2)
def nds (f : Nat → Nd) (rv : Nat → Value) (n : Nat) : List Value := (List.range (n * 5)).map fun i => cell f rv (i / 5) (i % 5)
theorem nds_len (f : Nat → Nd) (rv : Nat → Value) (n : Nat) : (nds f rv n).length = n * 5 := by simp [nds]
theorem nds_get (f : Nat → Nd) (rv : Nat → Value) {n k c : Nat} (hk : k < n) (hc : c < 5) : (nds f rv n)[k * 5 + c]? = some (cell f rv k c) := by
  unfold nds
  rw [List.getElem?_map, List.getElem?_range (by omega), Option.map_some, show (k * 5 + c) / 5 = k by omega, show (k * 5 + c) % 5 = c by omega]
theorem nds_congr {f g : Nat → Nd} {rv ru : Nat → Value} {n : Nat} (hf : ∀ k, k < n → f k = g k) (hr : ∀ i, 1 ≤ i → i < 2 * n + 1 → rv i = ru i) : nds f rv n = nds g ru n := by
  unfold nds
  refine List.map_congr_left fun i hi => ?_
  have hi' := List.mem_range.1 hi
  unfold cell
  rw [hf (i / 5) (by omega), hr (2 * (i / 5) + 1) (by omega) (by omega), hr (2 * (i / 5) + 2) (by omega) (by omega)]
def upd {α : Type} (f : Nat → α) (i : Nat) (x : α) : Nat → α := fun j => if j = i then x else f j
theorem upd_at {α : Type} (f : Nat → α) (i : Nat) (x : α) : upd f i x i = x := by simp [upd]
theorem upd_ne {α : Type} (f : Nat → α) {i j : Nat} (x : α) (h : j ≠ i) : upd f i x j = f j := by simp [upd, h]
/-- which cell of the nodes' row holds the row i -/
def at5 (i : Nat) : Nat := (i - 1) / 2 * 5 + (3 + (i - 1) % 2)
theorem nds_set (f : Nat → Nd) (rv : Nat → Value) {n i : Nat} (h1 : 1 ≤ i) (h2 : i < 2 * n + 1) (x : Value) : (nds f rv n).set (at5 i) x = nds f (upd rv i x) n := by
  apply List.ext_getElem?
  intro j
  by_cases hj : j < n * 5
  · obtain ⟨k, c, hk, hc, rfl⟩ : ∃ k c, k < n ∧ c < 5 ∧ j = k * 5 + c := ⟨j / 5, j % 5, by omega, by omega, by omega⟩
    rw [nds_get f _ hk hc]
    by_cases e : k * 5 + c = at5 i
    · rw [← e, List.getElem?_set_self (by rw [nds_len]; omega)]
      unfold at5 at e
      have e1 : k = (i - 1) / 2 := by omega
      have e2 : c = 3 + (i - 1) % 2 := by omega
      unfold cell
      rw [if_neg (by omega), if_neg (by omega), if_neg (by omega)]
      by_cases e3 : c = 3
      · rw [if_pos e3, show 2 * k + 1 = i by omega, upd_at]
      · rw [if_neg e3, show 2 * k + 2 = i by omega, upd_at]
    · rw [List.getElem?_set_ne (fun h => e h.symm), nds_get f _ hk hc]
      unfold cell
      unfold at5 at e
      by_cases e3 : c = 3
      · subst e3
        simp only [show ¬ (3 = 0) by omega, show ¬ (3 = 1) by omega, show ¬ (3 = 2) by omega, if_false, if_true]
        rw [upd_ne _ _ (by omega)]
      · by_cases e4 : c = 4
        · subst e4
          simp only [show ¬ (4 = 0) by omega, show ¬ (4 = 1) by omega, show ¬ (4 = 2) by omega, show ¬ (4 = 3) by omega, if_false]
          rw [upd_ne _ _ (by omega)]
        · have : c = 0 ∨ c = 1 ∨ c = 2 := by omega
          rcases this with rfl | rfl | rfl <;> simp
  · rw [List.getElem?_eq_none (by rw [List.length_set, nds_len]; omega), List.getElem?_eq_none (by rw [nds_len]; omega)]
theorem nds_succ (f : Nat → Nd) (rv : Nat → Value) (n : Nat) (x : Nd) (u v : Value) : nds (upd f n x) (upd (upd rv (2 * n + 1) u) (2 * n + 2) v) (n + 1) = nds f rv n ++ [.int .u64 x.1, .int .i64 x.2.1, .int .i64 x.2.2, u, v] := by
  have e : nds (upd f n x) (upd (upd rv (2 * n + 1) u) (2 * n + 2) v) n = nds f rv n := nds_congr (fun k hk => upd_ne _ _ (by omega)) (fun i _ hi => by rw [upd_ne _ _ (by omega), upd_ne _ _ (by omega)])
  rw [← e]
  unfold nds
  rw [show (n + 1) * 5 = n * 5 + 1 + 1 + 1 + 1 + 1 by omega, List.range_succ, List.range_succ, List.range_succ, List.range_succ, List.range_succ]
  simp only [List.map_append, List.map_cons, List.map_nil, List.append_assoc, List.cons_append, List.nil_append]
  congr 1
  have q : ∀ c, c < 5 → (n * 5 + c) / 5 = n ∧ (n * 5 + c) % 5 = c := fun c hc => ⟨by omega, by omega⟩
  have q0 := q 0 (by omega); have q1 := q 1 (by omega); have q2 := q 2 (by omega); have q3 := q 3 (by omega); have q4 := q 4 (by omega)
  simp only [Nat.add_zero] at q0
  simp only [q0.1, q0.2, q1.1, q1.2, q2.1, q2.2, q3.1, q3.2, q4.1, q4.2]
  simp [cell, upd]
/-- a tree in memory: n nodes, what each is of (f), its rows of numbers (0: where words end; 2k + 1: the node k's children; 2k + 2: its words) as slices (rv) and as numbers (xs) -/
structure TrX (w : World) (B tb nb nc n : Nat) (f : Nat → Nd) (rv : Nat → Value) (xs : Nat → List Int) : Prop where
  low : B ≤ tb
  pos : 0 < n
  box : w.heap[tb]? = some (.cells #[.slice (some ⟨nb, 0, none⟩) n nc, rv 0] 82 (0, 0))
  row : w.ownsRow B 79 5 (.slice (some ⟨nb, 0, none⟩) n nc) n (nds f rv n)
  rows : ∀ i, i < 2 * n + 1 → w.ownsRow B 3 1 (rv i) (xs i).length ((xs i).map (Value.int .i64))
  apart : ∀ i j, i < 2 * n + 1 → j < 2 * n + 1 → i ≠ j → (rv i).ownBlock = none ∨ (rv i).ownBlock ≠ (rv j).ownBlock
/-- the blocks that it lies in -/
def Fp (tb nb n : Nat) (rv : Nat → Value) (g : Nat) : Prop := g = tb ∨ g = nb ∨ ∃ i, i < 2 * n + 1 ∧ (rv i).ownBlock = some g
theorem own_type {w : World} {B : Nat} {e : TypeId} {size : Nat} {v : Value} {n : Nat} {xs : List Value} {g : Nat} (h : w.ownsRow B e size v n xs) (hg : v.ownBlock = some g) : ∃ cur, w.heap[g]? = some (.cells cur e (0, 0)) := by
  rcases h.2 with ⟨rfl, _⟩ | ⟨j, cap, cur, rfl, _, hj, _⟩
  · simp [Value.ownBlock] at hg
  · simp [Value.ownBlock] at hg; subst hg; exact ⟨cur, hj⟩
theorem own_of_block {w w' : World} {B : Nat} {e : TypeId} {size : Nat} {v : Value} {n : Nat} {xs : List Value} (h : w.ownsRow B e size v n xs) (hb : ∀ g, v.ownBlock = some g → w'.heap[g]? = w.heap[g]?) : w'.ownsRow B e size v n xs := by
  refine ⟨h.1, ?_⟩
  rcases h.2 with hn | ⟨j, cap, cur, rfl, h1, hj, r⟩
  · exact .inl hn
  · exact .inr ⟨j, cap, cur, rfl, h1, (hb j rfl).trans hj, r⟩
section
variable {w : World} {B tb nb nc n : Nat} {f : Nat → Nd} {rv : Nat → Value} {xs : Nat → List Int}
theorem TrX.lt (h : TrX w B tb nb nc n f rv xs) {g : Nat} (hg : Fp tb nb n rv g) : B ≤ g ∧ g < w.heap.size := by
  rcases hg with rfl | rfl | ⟨i, hi, hg⟩
  · exact ⟨h.low, (Array.getElem?_eq_some_iff.1 h.box).1⟩
  · exact h.row.lt _ rfl
  · exact (h.rows i hi).lt _ hg
theorem TrX.tb_ne (h : TrX w B tb nb nc n f rv xs) : tb ≠ nb := by
  intro e
  obtain ⟨cur, hc⟩ := own_type h.row rfl
  rw [← e, h.box] at hc
  injection hc with hc; injection hc with _ ht _
  exact absurd ht (by decide)
theorem TrX.row_ne (h : TrX w B tb nb nc n f rv xs) {i : Nat} (hi : i < 2 * n + 1) : (rv i).ownBlock ≠ some nb := by
  intro e
  obtain ⟨cur, hc⟩ := own_type h.row rfl
  obtain ⟨cur', hc'⟩ := own_type (h.rows i hi) e
  rw [hc] at hc'
  injection hc' with hc'; injection hc' with _ ht _
  exact absurd ht (by decide)
theorem TrX.box_ne (h : TrX w B tb nb nc n f rv xs) {i : Nat} (hi : i < 2 * n + 1) : (rv i).ownBlock ≠ some tb := by
  intro e
  obtain ⟨cur', hc'⟩ := own_type (h.rows i hi) e
  rw [h.box] at hc'
  injection hc' with hc'; injection hc' with _ ht _
  exact absurd ht (by decide)
theorem TrX.of_blocks (h : TrX w B tb nb nc n f rv xs) {w' : World} (hb : ∀ g, Fp tb nb n rv g → w'.heap[g]? = w.heap[g]?) : TrX w' B tb nb nc n f rv xs :=
  ⟨h.low, h.pos, (hb _ (.inl rfl)).trans h.box, own_of_block h.row fun g e => hb g (.inr (.inl (by simpa [Value.ownBlock] using e.symm))), fun i hi => own_of_block (h.rows i hi) fun g e => hb g (.inr (.inr ⟨i, hi, e⟩)), h.apart⟩
theorem TrX.later (h : TrX w B tb nb nc n f rv xs) {w' : World} (hb : Below w.heap.size w w') : TrX w' B tb nb nc n f rv xs := h.of_blocks fun g hg => hb.block g (h.lt hg).2
theorem TrX.congr (h : TrX w B tb nb nc n f rv xs) {g : Nat → Nd} {ys : Nat → List Int} (hf : ∀ k, k < n → f k = g k) (hx : ∀ i, i < 2 * n + 1 → xs i = ys i) : TrX w B tb nb nc n g rv ys :=
  ⟨h.low, h.pos, h.box, by rw [← nds_congr hf (fun i _ _ => rfl)]; exact h.row, fun i hi => by rw [← hx i hi]; exact h.rows i hi, h.apart⟩
/-- a cell of a node -/
theorem TrX.cell (h : TrX w B tb nb nc n f rv xs) {k c : Nat} (hk : k < n) (hc : c < 5) : w.cell? ⟨nb, k * 5 + c, none⟩ = some (cell f rv k c) := by
  rw [h.row.cellAt _ (by omega), nds_get f rv hk hc]
theorem TrX.cells (h : TrX w B tb nb nc n f rv xs) {k : Nat} (hk : k < n) : w.cell? ⟨nb, k * 5, none⟩ = some (.int .u64 (f k).1) ∧ w.cell? ⟨nb, k * 5 + 1, none⟩ = some (.int .i64 (f k).2.1) ∧ w.cell? ⟨nb, k * 5 + 2, none⟩ = some (.int .i64 (f k).2.2) ∧ w.cell? ⟨nb, k * 5 + 3, none⟩ = some (rv (2 * k + 1)) ∧ w.cell? ⟨nb, k * 5 + 4, none⟩ = some (rv (2 * k + 2)) := by
  exact ⟨by simpa [Tr.cell] using h.cell hk (c := 0) (by omega), by simpa [Tr.cell] using h.cell hk (c := 1) (by omega), by simpa [Tr.cell] using h.cell hk (c := 2) (by omega), by simpa [Tr.cell] using h.cell hk (c := 3) (by omega), by simpa [Tr.cell] using h.cell hk (c := 4) (by omega)⟩
theorem TrX.fr (h : TrX w B tb nb nc n f rv xs) (i : Nat) : w.frozen? ⟨nb, i, none⟩ = false := h.row.frozenAt i
theorem TrX.cap (h : TrX w B tb nb nc n f rv xs) : n ≤ nc ∧ nc ≤ maxLen := by
  rcases h.row.2 with ⟨e, _⟩ | ⟨_, _, _, e, _, _, h1, h2, _⟩
  · cases e
  · cases e; exact ⟨h1, h2⟩
theorem TrX.boxes (h : TrX w B tb nb nc n f rv xs) : w.cell? ⟨tb, 0, none⟩ = some (.slice (some ⟨nb, 0, none⟩) n nc) ∧ w.cell? ⟨tb, 1, none⟩ = some (rv 0) := by
  have h' := h.box
  constructor <;> simp [World.cell?, h']
theorem TrX.bfr (h : TrX w B tb nb nc n f rv xs) (i : Nat) : w.frozen? ⟨tb, i, none⟩ = false := by
  have h' := h.box
  simp [World.frozen?, h']
theorem set_same {w : World} {b : Nat} {cs : Array Value} {t : TypeId} (i : Nat) (v : Value) (h : w.heap[b]? = some (.cells cs t (0, 0))) : (w.setCell ⟨b, i, none⟩ v).heap[b]? = some (.cells (cs.setIfInBounds i v) t (0, 0)) := by
  simpa using Go.heap_setCell_same w b i _ t v h
/-- a row of numbers is another one now, behind a store into the cell that holds it -/
theorem TrX.push (h : TrX w B tb nb nc n f rv xs) {w1 : World} {i : Nat} (hi : i < 2 * n + 1) {v' : Value} {ys : List Int} (hrow : w1.ownsRow B 3 1 v' ys.length (ys.map (Value.int .i64))) (hg : w.grownBy w1 (rv i).ownBlock) (hat : v'.ownBlock = (rv i).ownBlock ∨ ∃ g, v'.ownBlock = some g ∧ w.heap.size ≤ g) (a : Addr) (ha : a = if i = 0 then ⟨tb, 1, none⟩ else ⟨nb, at5 i, none⟩) :
    TrX (w1.setCell a v') B tb nb nc n f (upd rv i v') (upd xs i ys) := by
  have hap : ∀ j, j < 2 * n + 1 → j ≠ i → (rv j).ownBlock = none ∨ (rv j).ownBlock ≠ (rv i).ownBlock := fun j hj hne => h.apart j i hj hi hne
  have hnb : w1.heap[nb]? = w.heap[nb]? := hg.block nb (h.lt (.inr (.inl rfl))).2 (fun e => h.row_ne hi e.symm)
  have htb : w1.heap[tb]? = w.heap[tb]? := hg.block tb (h.lt (.inl rfl)).2 (fun e => h.box_ne hi e.symm)
  have hv' : v'.ownBlock ≠ some nb ∧ v'.ownBlock ≠ some tb := by
    rcases hat with e | ⟨g, e, hlt⟩
    · rw [e]; exact ⟨h.row_ne hi, h.box_ne hi⟩
    · have h1 := (h.lt (.inr (.inl rfl))).2
      have h2 := (h.lt (.inl rfl)).2
      rw [e]; exact ⟨fun k => by injection k with k; omega, fun k => by injection k with k; omega⟩
  have hblk : ∀ g, g ≠ a.block → (w1.setCell a v').heap[g]? = w1.heap[g]? := fun g hne => Below.heap_setCell w1 a v' g hne
  have hab : a.block = tb ∨ a.block = nb := by rw [ha]; split <;> simp
  have hrows : ∀ j, j < 2 * n + 1 → (w1.setCell a v').ownsRow B 3 1 (upd rv i v' j) (upd xs i ys j).length ((upd xs i ys j).map (Value.int .i64)) := by
    intro j hj
    by_cases e : j = i
    · subst e
      rw [upd_at, upd_at]
      exact own_of_block hrow fun g hg' => hblk g (fun e2 => by
        rcases hab with h3 | h3
        · exact hv'.2 (by rw [hg', e2, h3])
        · exact hv'.1 (by rw [hg', e2, h3]))
    · rw [upd_ne _ _ e, upd_ne _ _ e]
      refine own_of_block (h.rows j hj) fun g hg' => ?_
      rw [hblk g (fun e2 => by
        rcases hab with h3 | h3
        · exact h.box_ne hj (by rw [hg', e2, h3])
        · exact h.row_ne hj (by rw [hg', e2, h3]))]
      refine hg.block g ((h.rows j hj).lt _ hg').2 (fun e3 => ?_)
      rcases hap j hj e with h4 | h4
      · rw [hg'] at h4; cases h4
      · exact h4 (by rw [hg', e3])
  have happ : ∀ j k, j < 2 * n + 1 → k < 2 * n + 1 → j ≠ k → (upd rv i v' j).ownBlock = none ∨ (upd rv i v' j).ownBlock ≠ (upd rv i v' k).ownBlock := by
    have key : ∀ j, j < 2 * n + 1 → j ≠ i → (rv j).ownBlock = none ∨ (rv j).ownBlock ≠ v'.ownBlock := fun j hj hne => by
      rcases hat with e | ⟨g, e, hlt⟩
      · rw [e]; exact hap j hj hne
      · cases ho : (rv j).ownBlock with
        | none => exact .inl rfl
        | some g' =>
          right
          rw [e]
          intro k; injection k with k
          have := ((h.rows j hj).lt _ ho).2
          omega
    intro j k hj hk hne
    by_cases e : j = i
    · subst e
      rw [upd_at, upd_ne _ _ (fun e => hne e.symm)]
      rcases key k hk (fun e => hne e.symm) with h1 | h1
      · cases ho : v'.ownBlock with
        | none => exact .inl rfl
        | some g => right; rw [h1]; simp
      · exact .inr (fun e => h1 e.symm)
    · rw [upd_ne _ _ e]
      by_cases e2 : k = i
      · subst e2; rw [upd_at]; exact key j hj e
      · rw [upd_ne _ _ e2]; exact h.apart j k hj hk hne
  by_cases h0 : i = 0
  · subst h0
    rw [if_pos rfl] at ha
    refine ⟨h.low, h.pos, ?_, ?_, hrows, happ⟩
    · rw [ha, upd_at]
      simpa using set_same 1 v' (htb.trans h.box)
    · rw [nds_congr (f := f) (g := f) (rv := upd rv 0 v') (ru := rv) (fun _ _ => rfl) (fun j h1 hj => upd_ne _ _ (by omega))]
      refine own_of_block h.row fun g hg' => ?_
      have eg : g = nb := by simpa [Value.ownBlock] using hg'.symm
      rw [hblk g (by rw [ha, eg]; exact h.tb_ne.symm), eg]; exact hnb
  · rw [if_neg h0] at ha
    refine ⟨h.low, h.pos, ?_, ?_, hrows, happ⟩
    · rw [hblk tb (by rw [ha]; exact h.tb_ne), htb, upd_ne _ _ (fun e => h0 e.symm)]; exact h.box
    · have h1 : w1.ownsRow B 79 5 (.slice (some ⟨nb, 0, none⟩) n nc) n (nds f rv n) := own_of_block h.row fun g hg' => by
        have eg : g = nb := by simpa [Value.ownBlock] using hg'.symm
        rw [eg]; exact hnb
      have h2 := (h1.stored (at5 i) v').1
      rw [nds_set f rv (by omega) hi] at h2
      rw [ha]; exact h2
/-- one node more, of no children and no words -/
theorem TrX.more (h : TrX w B tb nb nc n f rv xs) {w1 : World} {g cap : Nat} {x : Nd} (hrow : w1.ownsRow B 79 5 (.slice (some ⟨g, 0, none⟩) (n + 1) cap) (n + 1) (nds f rv n ++ [.int .u64 x.1, .int .i64 x.2.1, .int .i64 x.2.2, .slice none 0 0, .slice none 0 0])) (hg : w.grownBy w1 (some nb)) (hat : g = nb ∨ w.heap.size ≤ g) :
    TrX (w1.setCell ⟨tb, 0, none⟩ (.slice (some ⟨g, 0, none⟩) (n + 1) cap)) B tb g cap (n + 1) (upd f n x) (upd (upd rv (2 * n + 1) (.slice none 0 0)) (2 * n + 2) (.slice none 0 0)) (upd (upd xs (2 * n + 1) []) (2 * n + 2) []) := by
  have htb : w1.heap[tb]? = w.heap[tb]? := hg.block tb (h.lt (.inl rfl)).2 (fun e => by injection e with e; exact h.tb_ne e)
  have hgt : g ≠ tb := by
    rcases hat with e | e
    · rw [e]; exact h.tb_ne.symm
    · have := (h.lt (.inl rfl)).2; omega
  have hblk : ∀ k, k ≠ tb → (w1.setCell ⟨tb, 0, none⟩ (.slice (some ⟨g, 0, none⟩) (n + 1) cap)).heap[k]? = w1.heap[k]? := fun k hne => Below.heap_setCell w1 _ _ k hne
  have hpos := h.pos
  refine ⟨h.low, by omega, ?_, ?_, fun j hj => ?_, fun j k hj hk hne => ?_⟩
  · rw [upd_ne _ _ (by omega), upd_ne _ _ (by omega)]
    simpa using set_same 0 (.slice (some ⟨g, 0, none⟩) (n + 1) cap) (htb.trans h.box)
  · rw [nds_succ]
    refine own_of_block hrow fun k hk => ?_
    have ek : k = g := by simpa [Value.ownBlock] using hk.symm
    exact hblk k (by rw [ek]; exact hgt)
  · by_cases e1 : j = 2 * n + 2
    · subst e1; rw [upd_at, upd_at]; exact World.ownsRow_nil _ _ _ _
    · by_cases e2 : j = 2 * n + 1
      · subst e2; rw [upd_ne _ _ e1, upd_ne _ _ e1, upd_at, upd_at]; exact World.ownsRow_nil _ _ _ _
      · rw [upd_ne _ _ e1, upd_ne _ _ e1, upd_ne _ _ e2, upd_ne _ _ e2]
        have hj' : j < 2 * n + 1 := by omega
        refine own_of_block (h.rows j hj') fun k hk => ?_
        rw [hblk k (fun e => h.box_ne hj' (by rw [hk, e]))]
        exact hg.block k ((h.rows j hj').lt _ hk).2 (fun e => by injection e with e; exact h.row_ne hj' (by rw [hk, e]))
  · have none_at : ∀ i, i < 2 * (n + 1) + 1 → ¬ i < 2 * n + 1 → (upd (upd rv (2 * n + 1) (Value.slice none 0 0)) (2 * n + 2) (.slice none 0 0) i).ownBlock = none := fun i h1 h2 => by
      by_cases e1 : i = 2 * n + 2
      · subst e1; rw [upd_at]; rfl
      · have e2 : i = 2 * n + 1 := by omega
        subst e2; rw [upd_ne _ _ e1, upd_at]; rfl
    have old_at : ∀ i, i < 2 * n + 1 → upd (upd rv (2 * n + 1) (Value.slice none 0 0)) (2 * n + 2) (.slice none 0 0) i = rv i := fun i h1 => by rw [upd_ne _ _ (by omega), upd_ne _ _ (by omega)]
    by_cases hj' : j < 2 * n + 1
    · by_cases hk' : k < 2 * n + 1
      · rw [old_at j hj', old_at k hk']; exact h.apart j k hj' hk' hne
      · rw [none_at k hk hk']
        cases ho : (upd (upd rv (2 * n + 1) (Value.slice none 0 0)) (2 * n + 2) (.slice none 0 0) j).ownBlock with
        | none => exact .inl rfl
        | some z => right; simp
    · exact .inl (none_at j hj hj')
end
/-- what stands in a tree of these paths and words -/
def fd (L : LL) (k : Nat) : Nd := (num L k, parV L k, depV L k)
def data (L W : LL) (i : Nat) : List Int := if i = 0 then endsV L W else if i % 2 = 1 then (kids L (i / 2)).map (fun (j : Nat) => (j : Int)) else wordsV L W ((i / 2 - 1 : Nat) : Int)
theorem data_ends (L W : LL) : data L W 0 = endsV L W := rfl
theorem data_kids (L W : LL) (k : Nat) : data L W (2 * k + 1) = (kids L k).map (fun (j : Nat) => (j : Int)) := by
  unfold data; rw [if_neg (by omega), if_pos (by omega), show (2 * k + 1) / 2 = k by omega]
theorem data_words (L W : LL) (k : Nat) : data L W (2 * k + 2) = wordsV L W (k : Int) := by
  unfold data; rw [if_neg (by omega), if_neg (by omega), show (2 * k + 2) / 2 - 1 = k by omega]
/-- the tree of these paths and words lies there, in blocks of Z -/
def TrW (Z : Nat → Prop) (w : World) (tb : Nat) (L W : LL) : Prop := ∃ B nb nc rv, TrX w B tb nb nc L.length (fd L) rv (data L W) ∧ ∀ g, Fp tb nb L.length rv g → Z g
theorem TrW.later {Z : Nat → Prop} {w w' : World} {tb : Nat} {L W : LL} (h : TrW Z w tb L W) (hb : Below w.heap.size w w') : TrW Z w' tb L W := by
  obtain ⟨B, nb, nc, rv, h1, h2⟩ := h
  exact ⟨B, nb, nc, rv, h1.later hb, h2⟩
end Tr
end Go.Proofs.Ytehmbnloplamaaa
