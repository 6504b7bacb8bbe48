/- Words looked for all at once: last numbers, falls, links, what ends; nodes by their depth: plain facts. No condition. -/
import Derived.Test.YtehmbnloplamaaaTrPut
namespace Go.Proofs.Ytehmbnloplamaaa
set_option linter.unusedVariables false
open Tr
namespace Au
/-- the longest last numbers that a path is of -/
def suf (L : LL) : List Int → List Int
  | [] => []
  | x :: t => if (x :: t) ∈ L then x :: t else suf L t
theorem suf_nil (L : LL) : suf L [] = [] := rfl
theorem suf_in {L : LL} {x : Int} {t : List Int} (h : (x :: t) ∈ L) : suf L (x :: t) = x :: t := by rw [suf, if_pos h]
theorem suf_out {L : LL} {x : Int} {t : List Int} (h : (x :: t) ∉ L) : suf L (x :: t) = suf L t := by rw [suf, if_neg h]
theorem suf_self {L : LL} {l : List Int} (h : l ∈ L) : suf L l = l := by
  cases l with
  | nil => rfl
  | cons x t => exact suf_in h
theorem suf_mem {L : LL} (h : Inv L) : ∀ l, suf L l ∈ L
  | [] => h.nil
  | x :: t => by
    by_cases hm : (x :: t) ∈ L
    · rw [suf_in hm]; exact hm
    · rw [suf_out hm]; exact suf_mem h t
theorem suf_suffix (L : LL) : ∀ l, suf L l <:+ l
  | [] => List.suffix_refl _
  | x :: t => by
    by_cases hm : (x :: t) ∈ L
    · rw [suf_in hm]; exact List.suffix_refl _
    · rw [suf_out hm]; exact (suf_suffix L t).trans (List.suffix_cons _ _)
theorem suf_len (L : LL) (l : List Int) : (suf L l).length ≤ l.length := (suf_suffix L l).length_le
theorem suf_long {L : LL} : ∀ {l s : List Int}, s <:+ l → s ∈ L → s <:+ suf L l
  | [], s, h, _ => h
  | x :: t, s, h, hs => by
    by_cases hm : (x :: t) ∈ L
    · rw [suf_in hm]; exact h
    · rw [suf_out hm]
      rcases List.suffix_cons_iff.1 h with e | h
      · exact absurd (e ▸ hs) hm
      · exact suf_long h hs
theorem suf_app {L : LL} (h : Inv L) (p : Int) : ∀ l, suf L (l ++ [p]) = suf L (suf L l ++ [p])
  | [] => rfl
  | x :: t => by
    by_cases hm : (x :: t) ∈ L
    · rw [suf_in hm]
    · rw [suf_out hm, ← suf_app h p t, List.cons_append, suf_out]
      intro hh
      have := h.path hh (by simp)
      rw [← List.cons_append, List.dropLast_concat] at this
      exact hm this
theorem suf_snoc_in {L : LL} {q : List Int} {p : Int} (h : (q ++ [p]) ∈ L) : suf L (q ++ [p]) = q ++ [p] := suf_self h
theorem suf_snoc_out {L : LL} {q : List Int} {p : Int} (hI : Inv L) (h : (q ++ [p]) ∉ L) (h0 : q ≠ []) : suf L (q ++ [p]) = suf L (suf L q.tail ++ [p]) := by
  cases q with
  | nil => exact absurd rfl h0
  | cons x t =>
    have h' : (x :: (t ++ [p])) ∉ L := h
    rw [List.cons_append, suf_out h', List.tail_cons, ← suf_app hI]
/-- the node of the longest last numbers -/
def deep (L : LL) (l : List Int) : Nat := idx L (suf L l)
theorem deep_lt {L : LL} (h : Inv L) (l : List Int) : deep L l < L.length := idx_lt_iff.2 (suf_mem h l)
theorem deep_at {L : LL} (h : Inv L) (l : List Int) : L.getD (deep L l) [] = suf L l := idx_at (suf_mem h l)
theorem idx_nil {L : LL} (h : Inv L) : idx L [] = 0 := idx_hit h.pos h.root (fun j hj => by omega)
theorem deep_nil {L : LL} (h : Inv L) : deep L [] = 0 := idx_nil h
theorem idx_getD {L : LL} (h : Inv L) {k : Nat} (hk : k < L.length) : idx L (L.getD k []) = k := by
  have h1 := findV_self h.nd hk
  rw [findV_mem (gD_mem hk)] at h1
  omega
theorem path_ne {L : LL} (h : Inv L) {k : Nat} (h1 : 1 ≤ k) (h2 : k < L.length) : L.getD k [] ≠ [] := (h.up k h1 h2).1
def fallV (L : LL) (k : Int) : Int := if k < 1 ∨ (L.length : Int) ≤ k then -1 else (deep L (L.getD k.toNat []).tail : Nat)
def nextV (L : LL) (k p : Int) : Int := if out L k then -1 else (deep L (L.getD k.toNat [] ++ [p]) : Nat)
theorem fall_at {L : LL} {k : Nat} (h1 : 1 ≤ k) (h2 : k < L.length) : fallV L k = (deep L (L.getD k []).tail : Nat) := by
  unfold fallV; rw [if_neg (by omega), Int.toNat_natCast]
theorem fall_zero (L : LL) : fallV L 0 = -1 := by unfold fallV; rw [if_pos (by omega)]
theorem fall_out {L : LL} {k : Int} (h : out L k) : fallV L k = -1 := by
  unfold fallV; rw [if_pos]; rcases h with h | h
  · left; omega
  · right; exact h
theorem next_at {L : LL} {k : Nat} (h2 : k < L.length) (p : Int) : nextV L k p = (deep L (L.getD k [] ++ [p]) : Nat) := by
  unfold nextV; rw [if_neg (by unfold out; omega), Int.toNat_natCast]
theorem next_out {L : LL} {k : Int} (h : out L k) (p : Int) : nextV L k p = -1 := by unfold nextV; rw [if_pos h]
/-- a fall is less deep -/
theorem fall_less {L : LL} (h : Inv L) {k : Nat} (h1 : 1 ≤ k) (h2 : k < L.length) : (L.getD (deep L (L.getD k []).tail) []).length < (L.getD k []).length := by
  rw [deep_at h]
  have h3 := suf_len L (L.getD k []).tail
  have h4 := path_ne h h1 h2
  have h5 : 0 < (L.getD k []).length := List.length_pos_iff.2 h4
  rw [List.length_tail] at h3
  omega
/-- behind a number: a child -/
theorem next_child {L : LL} {k : Nat} (hk : k < L.length) {p : Int} (h : childV L k p ≠ -1) : nextV L k p = childV L k p := by
  have hm : (L.getD k [] ++ [p]) ∈ L := by
    unfold childV at h
    rw [if_neg (by unfold out; omega), Int.toNat_natCast] at h
    refine findV_pos.1 ?_
    have := findV_in L (L.getD k [] ++ [p])
    omega
  rw [next_at hk]
  unfold childV
  rw [if_neg (by unfold out; omega), Int.toNat_natCast, findV_mem hm]
  unfold deep
  rw [suf_self hm]
theorem next_root {L : LL} (hI : Inv L) {p : Int} (h : childV L (0 : Nat) p = -1) : nextV L (0 : Nat) p = 0 := by
  have hp := hI.pos
  have hm : ([] ++ [p]) ∉ L := by
    intro hm
    unfold childV at h
    rw [if_neg (by unfold out; omega), Int.toNat_natCast, hI.root, findV_mem hm] at h
    omega
  rw [next_at hp, hI.root]
  unfold deep
  rw [List.nil_append] at hm ⊢
  rw [suf_out hm, suf_nil, idx_nil hI]; rfl
theorem next_fall {L : LL} (hI : Inv L) {k : Nat} (h1 : 1 ≤ k) (hk : k < L.length) {p : Int} (h : childV L k p = -1) : nextV L k p = nextV L (deep L (L.getD k []).tail : Nat) p := by
  have hm : (L.getD k [] ++ [p]) ∉ L := by
    intro hm
    unfold childV at h
    rw [if_neg (by unfold out; omega), Int.toNat_natCast, findV_mem hm] at h
    omega
  rw [next_at hk, next_at (deep_lt hI _), deep_at hI]
  unfold deep
  rw [suf_snoc_out hI hm (path_ne hI h1 hk)]
/-- the state that numbers lead to from the root on -/
theorem next_run {L : LL} (hI : Inv L) (l : List Int) (p : Int) : nextV L (deep L l : Nat) p = (deep L (l ++ [p]) : Nat) := by
  rw [next_at (deep_lt hI _), deep_at hI]
  unfold deep
  rw [← suf_app hI]
/-- a node's fall, by its parent's -/
theorem fall_child {L : LL} (hI : Inv L) {j : Nat} (h1 : 1 ≤ j) (hj : j < L.length) {u : Nat} (hu : parV L j = (u : Int)) (hu1 : 1 ≤ u) (hul : u < L.length) :
    fallV L j = nextV L (deep L (L.getD u []).tail : Nat) (num L j) := by
  have hk := (kid_iff hI hul hj).1 (by unfold isKid; exact decide_eq_true hu)
  have hne := path_ne hI hu1 hul
  rw [fall_at h1 hj, next_run hI, hk.2, List.tail_append_of_ne_nil hne]
theorem fall_first {L : LL} (hI : Inv L) {j : Nat} (h1 : 1 ≤ j) (hj : j < L.length) (hu : parV L j = 0) : fallV L j = 0 := by
  have hk := (kid_iff hI hI.pos hj).1 (by unfold isKid; exact decide_eq_true hu)
  rw [fall_at h1 hj, hk.2, hI.root]
  show ((deep L [] : Nat) : Int) = 0
  rw [deep_nil hI]; rfl
/-- the longest last numbers that are a word -/
def lnk (W : LL) : List Int → List Int
  | [] => []
  | x :: t => if (x :: t) ∈ W then x :: t else lnk W t
theorem lnk_in {L : LL} {x : Int} {t : List Int} (h : (x :: t) ∈ L) : lnk L (x :: t) = x :: t := by rw [lnk, if_pos h]
theorem lnk_out {L : LL} {x : Int} {t : List Int} (h : (x :: t) ∉ L) : lnk L (x :: t) = lnk L t := by rw [lnk, if_neg h]
theorem lnk_self {L : LL} {l : List Int} (h : l ∈ L) : lnk L l = l := by
  cases l with
  | nil => rfl
  | cons x t => exact lnk_in h
theorem lnk_suffix (L : LL) : ∀ l, lnk L l <:+ l
  | [] => List.suffix_refl _
  | x :: t => by
    by_cases hm : (x :: t) ∈ L
    · rw [lnk_in hm]; exact List.suffix_refl _
    · rw [lnk_out hm]; exact (lnk_suffix L t).trans (List.suffix_cons _ _)
theorem lnk_mem {L : LL} : ∀ {l : List Int}, lnk L l ≠ [] → lnk L l ∈ L
  | [], h => absurd rfl h
  | x :: t, h => by
    by_cases hm : (x :: t) ∈ L
    · rw [lnk_in hm]; exact hm
    · rw [lnk_out hm] at h ⊢; exact lnk_mem h
theorem lnk_long {L : LL} : ∀ {l s : List Int}, s <:+ l → s ∈ L → s <:+ lnk L l
  | [], s, h, _ => h
  | x :: t, s, h, hs => by
    by_cases hm : (x :: t) ∈ L
    · rw [lnk_in hm]; exact h
    · rw [lnk_out hm]
      rcases List.suffix_cons_iff.1 h with e | h
      · exact absurd (e ▸ hs) hm
      · exact lnk_long h hs
theorem lnk_suf {L W : LL} (hW : ∀ x ∈ W, x ∈ L) : ∀ l, lnk W l = lnk W (suf L l)
  | [] => rfl
  | x :: t => by
    by_cases hm : (x :: t) ∈ L
    · rw [suf_in hm]
    · rw [suf_out hm, lnk_out (fun h => hm (hW _ h)), lnk_suf hW t]
def nodeV (L : LL) (p : List Int) : Int := if p = [] then -1 else (idx L p : Nat)
def endV (L W : LL) (k : Int) : Int := if out L k then -1 else nodeV L (lnk W (L.getD k.toNat []))
def linkV (L W : LL) (k : Int) : Int := if out L k then -1 else nodeV L (lnk W (L.getD k.toNat []).tail)
theorem end_at {L W : LL} {k : Nat} (h : k < L.length) : endV L W k = nodeV L (lnk W (L.getD k [])) := by unfold endV; rw [if_neg (by unfold out; omega), Int.toNat_natCast]
theorem link_at {L W : LL} {k : Nat} (h : k < L.length) : linkV L W k = nodeV L (lnk W (L.getD k []).tail) := by unfold linkV; rw [if_neg (by unfold out; omega), Int.toNat_natCast]
theorem end_out {L W : LL} {k : Int} (h : out L k) : endV L W k = -1 := by unfold endV; rw [if_pos h]
theorem link_out {L W : LL} {k : Int} (h : out L k) : linkV L W k = -1 := by unfold linkV; rw [if_pos h]
theorem link_zero {L : LL} (hI : Inv L) (W : LL) : linkV L W 0 = -1 := by
  have h := link_at (W := W) hI.pos
  rw [hI.root] at h
  exact h
theorem words_ne {L W : LL} (hI : Inv L) {k : Nat} (hk : k < L.length) : wordsV L W k ≠ [] ↔ L.getD k [] ∈ W := by
  unfold wordsV
  rw [Ne, List.map_eq_nil_iff, List.filter_eq_nil_iff]
  constructor
  · intro h
    simp only [List.mem_range, decide_eq_true_eq] at h
    apply Classical.byContradiction
    intro hn
    refine h fun i hi e => hn ?_
    rw [findV_eq hI.nd hk] at e
    rw [← e]; exact gD_mem hi
  · intro h hn
    have hi := idx_lt_iff.2 h
    refine hn _ (List.mem_range.2 hi) ?_
    rw [decide_eq_true_iff, findV_eq hI.nd hk, idx_at h]
theorem end_words {L W : LL} (hI : Inv L) {k : Nat} (hk : k < L.length) (h : wordsV L W k ≠ []) (hW0 : [] ∉ W) : endV L W k = k := by
  have hm := (words_ne hI hk).1 h
  rw [end_at hk, lnk_self hm]
  unfold nodeV
  rw [if_neg (fun e => hW0 (by rw [e] at hm; exact hm)), idx_getD hI hk]
theorem end_link {L W : LL} (hI : Inv L) {k : Nat} (hk : k < L.length) (h : wordsV L W k = []) : endV L W k = linkV L W k := by
  have hm : L.getD k [] ∉ W := fun hm => (words_ne hI hk).2 hm h
  rw [end_at hk, link_at hk]
  cases hq : L.getD k [] with
  | nil => rfl
  | cons x t => rw [hq] at hm; rw [lnk_out hm]; rfl
/-- a link is what ends at the fall -/
theorem link_fall {L W : LL} (hI : Inv L) (hW : ∀ x ∈ W, x ∈ L) {k : Nat} (hk : k < L.length) : linkV L W k = endV L W (deep L (L.getD k []).tail : Nat) := by
  rw [link_at hk, end_at (deep_lt hI _), deep_at hI, ← lnk_suf hW]
theorem node_in {L W : LL} (hW : ∀ x ∈ W, x ∈ L) (l : List Int) : nodeV L (lnk W l) = -1 ∨ ∃ e : Nat, nodeV L (lnk W l) = (e : Int) ∧ e < L.length ∧ L.getD e [] = lnk W l ∧ lnk W l ∈ W ∧ lnk W l ≠ [] := by
  unfold nodeV
  by_cases h : lnk W l = []
  · rw [if_pos h]; exact .inl rfl
  · rw [if_neg h]
    exact .inr ⟨_, rfl, idx_lt_iff.2 (hW _ (lnk_mem h)), idx_at (hW _ (lnk_mem h)), lnk_mem h, h⟩
/-- the words that are these numbers; all that end, longest first; what ends, rising -/
def same (W : LL) (q : List Int) : List Int := ((List.range W.length).filter fun i => decide (W.getD i [] = q)).map fun (i : Nat) => (i : Int)
def chain (W : LL) : List Int → List Int
  | [] => []
  | x :: t => same W (x :: t) ++ chain W t
def fin (W : LL) (q : List Int) : List Int := ((List.range W.length).filter fun i => decide (W.getD i [] <:+ q)).map fun (i : Nat) => (i : Int)
def finV (L W : LL) (k : Int) : List Int := if out L k then [] else fin W (L.getD k.toNat [])
theorem fin_at {L W : LL} {k : Nat} (h : k < L.length) : finV L W k = fin W (L.getD k []) := by unfold finV; rw [if_neg (by unfold out; omega), Int.toNat_natCast]
theorem same_words {L W : LL} (hI : Inv L) {k : Nat} (hk : k < L.length) : wordsV L W k = same W (L.getD k []) := by
  unfold wordsV same
  congr 1
  refine List.filter_congr fun i _ => ?_
  rw [decide_eq_decide, findV_eq hI.nd hk]
theorem same_none {W : LL} {q : List Int} (h : q ∉ W) : same W q = [] := by
  unfold same
  rw [List.map_eq_nil_iff, List.filter_eq_nil_iff]
  intro i hi
  rw [decide_eq_true_iff]
  intro e
  exact h (by rw [← e]; exact gD_mem (List.mem_range.1 hi))
theorem chain_lnk (W : LL) : ∀ l, chain W l = chain W (lnk W l)
  | [] => rfl
  | x :: t => by
    by_cases hm : (x :: t) ∈ W
    · rw [lnk_in hm]
    · rw [lnk_out hm, chain, same_none hm, List.nil_append, chain_lnk W t]
theorem chain_step {W : LL} {q : List Int} (h : q ≠ []) : chain W q = same W q ++ chain W q.tail := by
  cases q with
  | nil => exact absurd rfl h
  | cons x t => rfl
theorem mem_same {W : LL} {q : List Int} {z : Int} : z ∈ same W q ↔ ∃ i : Nat, z = i ∧ i < W.length ∧ W.getD i [] = q := by
  unfold same
  simp only [List.mem_map, List.mem_filter, List.mem_range, decide_eq_true_eq]
  constructor
  · rintro ⟨i, ⟨h1, h2⟩, rfl⟩; exact ⟨i, rfl, h1, h2⟩
  · rintro ⟨i, rfl, h1, h2⟩; exact ⟨i, ⟨h1, h2⟩, rfl⟩
theorem mem_fin {W : LL} {q : List Int} {z : Int} : z ∈ fin W q ↔ ∃ i : Nat, z = i ∧ i < W.length ∧ W.getD i [] <:+ q := by
  unfold fin
  simp only [List.mem_map, List.mem_filter, List.mem_range, decide_eq_true_eq]
  constructor
  · rintro ⟨i, ⟨h1, h2⟩, rfl⟩; exact ⟨i, rfl, h1, h2⟩
  · rintro ⟨i, rfl, h1, h2⟩; exact ⟨i, ⟨h1, h2⟩, rfl⟩
theorem mem_chain {W : LL} (hW : [] ∉ W) : ∀ {q : List Int} {z : Int}, z ∈ chain W q ↔ ∃ i : Nat, z = i ∧ i < W.length ∧ W.getD i [] <:+ q
  | [], z => by
    constructor
    · intro h; cases h
    · rintro ⟨i, rfl, h1, h2⟩
      have := List.suffix_nil.1 h2
      exact absurd (by rw [← this]; exact gD_mem h1) hW
  | x :: t, z => by
    rw [chain, List.mem_append, mem_same, mem_chain hW]
    constructor
    · rintro (⟨i, rfl, h1, h2⟩ | ⟨i, rfl, h1, h2⟩)
      · exact ⟨i, rfl, h1, by rw [h2]; exact List.suffix_refl _⟩
      · exact ⟨i, rfl, h1, h2.trans (List.suffix_cons _ _)⟩
    · rintro ⟨i, rfl, h1, h2⟩
      rcases List.suffix_cons_iff.1 h2 with e | e
      · exact .inl ⟨i, rfl, h1, e⟩
      · exact .inr ⟨i, rfl, h1, e⟩
theorem range_up (n : Nat) (p : Nat → Bool) : (((List.range n).filter p).map fun (i : Nat) => (i : Int)).Pairwise (· < ·) := by
  rw [List.pairwise_map]
  exact (List.pairwise_lt_range.filter p).imp (fun h => by omega)
theorem same_up (W : LL) (q : List Int) : (same W q).Pairwise (· < ·) := range_up _ _
theorem fin_up (W : LL) (q : List Int) : (fin W q).Pairwise (· < ·) := range_up _ _
theorem up_nodup {l : List Int} (h : l.Pairwise (· < ·)) : l.Nodup := h.imp (fun h e => by omega)
theorem chain_nodup {W : LL} (hW : [] ∉ W) : ∀ q, (chain W q).Nodup
  | [] => List.nodup_nil
  | x :: t => by
    rw [chain, List.nodup_append]
    refine ⟨up_nodup (same_up _ _), chain_nodup hW t, fun a ha b hb e => ?_⟩
    subst e
    obtain ⟨i, rfl, h1, h2⟩ := mem_same.1 ha
    obtain ⟨j, e, h3, h4⟩ := (mem_chain hW).1 hb
    have e' : i = j := by omega
    subst e'
    rw [h2] at h4
    have := h4.length_le
    rw [List.length_cons] at this
    omega
theorem chain_perm {W : LL} (hW : [] ∉ W) (q : List Int) : (chain W q).Perm (fin W q) :=
  (List.perm_ext_iff_of_nodup (chain_nodup hW q) (up_nodup (fin_up W q))).2 fun z => by rw [mem_chain hW, mem_fin]
theorem sorted_eq : ∀ {l m : List Int}, l.Perm m → l.Pairwise (· ≤ ·) → m.Pairwise (· ≤ ·) → l = m
  | [], m, h, _, _ => (List.Perm.nil_eq h)
  | x :: l, [], h, _, _ => absurd h.symm.nil_eq (by simp)
  | x :: l, y :: m, h, h1, h2 => by
    rw [List.pairwise_cons] at h1 h2
    have e : x = y := by
      have a : x ∈ y :: m := h.mem_iff.1 (List.mem_cons_self ..)
      have b : y ∈ x :: l := h.mem_iff.2 (List.mem_cons_self ..)
      rcases List.mem_cons.1 a with a | a
      · exact a
      · rcases List.mem_cons.1 b with b | b
        · exact b.symm
        · have := h1.1 _ b; have := h2.1 _ a; omega
    subst e
    rw [sorted_eq h.cons_inv h1.2 h2.2]
theorem sort_chain {W : LL} (hW : [] ∉ W) (q : List Int) : (chain W q).mergeSort (fun x y => decide (x ≤ y)) = fin W q := by
  refine sorted_eq ((List.mergeSort_perm _ _).trans (chain_perm hW q)) ?_ ((fin_up W q).imp (fun h => by omega))
  have := List.pairwise_mergeSort (le := fun (x y : Int) => decide (x ≤ y)) (fun a b c h1 h2 => by simp at *; omega) (fun a b => by simp; omega) (chain W q)
  exact this.imp (fun h => by simpa using h)
theorem fin_len (W : LL) (q : List Int) : (fin W q).length ≤ W.length := by
  unfold fin; rw [List.length_map]; exact Nat.le_trans (List.length_filter_le _ _) (by simp)
theorem chain_len {W : LL} (hW : [] ∉ W) (q : List Int) : (chain W q).length ≤ W.length := by rw [(chain_perm hW q).length_eq]; exact fin_len _ _
/-- what ends at numbers ends at the state that they lead to -/
theorem fin_suf {L W : LL} (hW : ∀ x ∈ W, x ∈ L) (l : List Int) : fin W (suf L l) = fin W l := by
  unfold fin
  congr 1
  refine List.filter_congr fun i hi => ?_
  rw [decide_eq_decide]
  exact ⟨fun h => h.trans (suf_suffix _ _), fun h => suf_long h (hW _ (gD_mem (List.mem_range.1 hi)))⟩
theorem fin_lnk {W : LL} (l : List Int) : fin W (lnk W l) = fin W l := by
  unfold fin
  congr 1
  refine List.filter_congr fun i hi => ?_
  rw [decide_eq_decide]
  exact ⟨fun h => h.trans (lnk_suffix _ _), fun h => lnk_long h (gD_mem (List.mem_range.1 hi))⟩
theorem lnk_nil_iff {W : LL} (hW : [] ∉ W) (l : List Int) : lnk W l = [] ↔ fin W l = [] := by
  constructor
  · intro h
    rw [← fin_lnk, h]
    apply List.eq_nil_iff_forall_not_mem.2
    intro z hz
    obtain ⟨i, rfl, h1, h2⟩ := mem_fin.1 hz
    have := List.suffix_nil.1 h2
    exact hW (by rw [← this]; exact gD_mem h1)
  · intro h
    apply Classical.byContradiction
    intro hn
    have hm := lnk_mem hn
    have : ((idx W (lnk W l) : Nat) : Int) ∈ fin W l := mem_fin.2 ⟨_, rfl, idx_lt_iff.2 hm, by rw [idx_at hm]; exact lnk_suffix _ _⟩
    rw [h] at this; cases this
theorem lnk_eq_iff {W : LL} (hW : [] ∉ W) (l m : List Int) : lnk W l = lnk W m ↔ fin W l = fin W m := by
  constructor
  · intro h; rw [← fin_lnk l, h, fin_lnk]
  · intro h
    have half : ∀ {l m : List Int}, fin W l = fin W m → lnk W l <:+ lnk W m := fun {l m} h => by
      by_cases hn : lnk W l = []
      · rw [hn]; exact List.nil_suffix
      · have hm := lnk_mem hn
        have : ((idx W (lnk W l) : Nat) : Int) ∈ fin W m := by
          rw [← h]; exact mem_fin.2 ⟨_, rfl, idx_lt_iff.2 hm, by rw [idx_at hm]; exact lnk_suffix _ _⟩
        obtain ⟨i, e, h1, h2⟩ := mem_fin.1 this
        have e' : idx W (lnk W l) = i := by omega
        subst e'
        rw [idx_at hm] at h2
        exact lnk_long h2 hm
    exact (half h).eq_of_length_le (half h.symm).length_le
theorem node_eq_iff {L W : LL} (hI : Inv L) (hW : ∀ x ∈ W, x ∈ L) (l m : List Int) : nodeV L (lnk W l) = nodeV L (lnk W m) ↔ lnk W l = lnk W m := by
  constructor
  · intro h
    unfold nodeV at h
    by_cases h1 : lnk W l = []
    · by_cases h2 : lnk W m = []
      · rw [h1, h2]
      · rw [if_pos h1, if_neg h2] at h; omega
    · by_cases h2 : lnk W m = []
      · rw [if_neg h1, if_pos h2] at h; omega
      · rw [if_neg h1, if_neg h2] at h
        have e : idx L (lnk W l) = idx L (lnk W m) := by omega
        rw [← idx_at (hW _ (lnk_mem h1)), e, idx_at (hW _ (lnk_mem h2))]
  · intro h; rw [h]
end Au
end Go.Proofs.Ytehmbnloplamaaa
