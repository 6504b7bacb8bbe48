/- Sets of rows, plainly: which rows there are, what ends where, which widths. No condition. -/
import Derived.Test.YtpkikhoicobmcaaZgAA
namespace Go.Proofs.Ytpkikhoicobmcaa
set_option linter.unusedVariables false
open Tr Au
namespace Wd
/-- a row more -/
def addS (S : LL) (w : List Int) : LL := if w = [] then S else if w ∈ S then S else S ++ [w]
def setOf (own : LL) : LL := own.foldl addS []
structure Ok (S : LL) : Prop where
  nd : S.Nodup
  ne : [] ∉ S
theorem Ok.nil : Ok [] := ⟨List.nodup_nil, by simp⟩
theorem Ok.add {S : LL} (h : Ok S) (w : List Int) : Ok (addS S w) := by
  unfold addS
  split
  · exact h
  · split
    · exact h
    · rename_i h1 h2
      exact ⟨List.nodup_append.2 ⟨h.nd, by simp, fun a ha b hb => by simp at hb; subst hb; exact fun e => h2 (e ▸ ha)⟩, fun e => by
        rcases List.mem_append.1 e with e | e
        · exact h.ne e
        · simp at e; exact h1 e⟩
theorem addS_len (S : LL) (w : List Int) : (addS S w).length ≤ S.length + 1 := by unfold addS; split; omega; split; omega; simp
theorem setOf_take {own : LL} {k : Nat} (hk : k < own.length) : setOf (own.take (k + 1)) = addS (setOf (own.take k)) (own.getD k []) := by
  unfold setOf; rw [List.take_succ_eq_append_getElem hk, List.foldl_append, gD hk]; rfl
theorem foldl_ok : ∀ (own : LL) {S : LL}, Ok S → Ok (own.foldl addS S)
  | [], _, h => h
  | x :: r, _, h => foldl_ok r (h.add x)
theorem setOf_ok (own : LL) : Ok (setOf own) := foldl_ok own Ok.nil
theorem foldl_len : ∀ (own : LL) (S : LL), (own.foldl addS S).length ≤ S.length + own.length
  | [], S => by simp
  | x :: r, S => by
    have h1 := foldl_len r (addS S x)
    have h2 := addS_len S x
    rw [List.foldl_cons, List.length_cons]; omega
theorem setOf_len (own : LL) : (setOf own).length ≤ own.length := by have := foldl_len own []; simpa [setOf] using this
theorem addS_sub {S : LL} {w x : List Int} (h : x ∈ addS S w) : x ∈ S ∨ x = w := by
  unfold addS at h
  split at h
  · exact .inl h
  · split at h
    · exact .inl h
    · rcases List.mem_append.1 h with h | h
      · exact .inl h
      · simp at h; exact .inr h
theorem foldl_sub : ∀ (own : LL) (S : LL) {x : List Int}, x ∈ own.foldl addS S → x ∈ S ∨ x ∈ own
  | [], S, x, h => .inl h
  | y :: r, S, x, h => by
    rcases foldl_sub r (addS S y) h with h | h
    · rcases addS_sub h with h | h
      · exact .inl h
      · exact .inr (h ▸ List.mem_cons_self)
    · exact .inr (List.mem_cons_of_mem _ h)
theorem setOf_short {own : LL} (h : ∀ r ∈ own, r.length ≤ 5) : ∀ r ∈ setOf own, r.length ≤ 5 := fun r hr => by
  rcases foldl_sub own [] hr with e | e
  · cases e
  · exact h r e
/-- the tree of a set -/
def pathsOf (S : LL) : LL := (treeOf S).1
theorem tree_words {S : LL} (h : Ok S) : (treeOf S).2 = S := by
  rw [treeOf_words]
  exact List.filter_eq_self.2 fun w hw => decide_eq_true fun e => h.ne (e ▸ hw)
theorem paths_iw {S : LL} (h : Ok S) : Iw (pathsOf S) S := by
  have := treeOf_iw S
  rw [tree_words h] at this; exact this
theorem paths_add {S : LL} (h : Ok S) {w : List Int} (h0 : w ≠ []) : pathsOf (S ++ [w]) = putL (pathsOf S) w := by
  unfold pathsOf
  rw [treeOf_snoc]; unfold Tr.stepT; rw [if_neg h0]
theorem paths_len {S : LL} (h : ∀ r ∈ S, r.length ≤ 5) : (pathsOf S).length ≤ 1 + 5 * S.length := (treeOf_len S h).1
theorem paths_dep {S : LL} (h : ∀ r ∈ S, r.length ≤ 5) : ∀ p ∈ pathsOf S, p.length ≤ 5 := paths_short' h
where
  paths_short' {S : LL} (h : ∀ r ∈ S, r.length ≤ 5) : ∀ p ∈ pathsOf S, p.length ≤ 5 := fun p hp => by
    rcases (foldl_mem S ([[]], [])).1 hp with e | ⟨v, hv, j, _, _, rfl⟩
    · simp at e; subst e; simp
    · have := h v hv; rw [List.length_take]; omega
theorem paths_nil : pathsOf [] = [[]] := rfl
/-- the row that just a node's numbers are -/
def numV (S : LL) (n : Int) : Int := (wordsV (pathsOf S) S n).headD (-1)
theorem same_head (W : LL) (q : List Int) : (same W q).headD (-1) = findV W q := by
  by_cases hq : q ∈ W
  · rw [findV_mem hq]
    have hi := idx_lt_iff.2 hq
    have hm : (idx W q : Int) ∈ same W q := mem_same.2 ⟨_, rfl, hi, idx_at hq⟩
    have hp := same_up W q
    cases hs : same W q with
    | nil => rw [hs] at hm; cases hm
    | cons x r =>
      show x = _
      rw [hs] at hm hp
      obtain ⟨i, rfl, h1, h2⟩ := mem_same.1 (hs ▸ List.mem_cons_self : x ∈ same W q)
      rcases List.mem_cons.1 hm with e | e
      · exact e.symm
      · have h3 := (List.pairwise_cons.1 hp).1 _ e
        exfalso
        unfold idx at h3
        have h4 : W.findIdx (fun x => decide (x = q)) ≤ i := by
          rcases Nat.lt_or_ge i (W.findIdx (fun x => decide (x = q))) with h | h
          · have := List.not_of_lt_findIdx h
            rw [gD h1] at h2
            simp [h2] at this
          · exact h
        omega
  · rw [same_none hq, findV_not hq]; rfl
theorem numV_at {S : LL} (h : Ok S) {k : Nat} (hk : k < (pathsOf S).length) : numV S k = findV S ((pathsOf S).getD k []) := by
  unfold numV; rw [same_words (paths_iw h).inv hk, same_head]
theorem numV_out {S : LL} (h : Ok S) {n : Int} (hn : out (pathsOf S) n) : numV S n = -1 := by
  unfold numV; rw [wordsV_out (fun x hx => ((paths_iw h).ws x hx).1) hn]; rfl
theorem numV_find {S : LL} (h : Ok S) {w : List Int} (hw : w ∈ pathsOf S) : numV S (findV (pathsOf S) w) = findV S w := by
  rw [findV_mem hw, numV_at h (idx_lt_iff.2 hw), idx_at hw]
theorem in_paths {S : LL} (h : Ok S) {w : List Int} (hw : w ∈ S) : w ∈ pathsOf S := ((paths_iw h).ws w hw).1
/-- how wide rows are -/
def hasW (S : LL) (x : Int) : Bool := decide (∃ r ∈ S, (r.length : Int) = x)
theorem hasW_iff {S : LL} {x : Int} : hasW S x = true ↔ ∃ r ∈ S, (r.length : Int) = x := by unfold hasW; exact decide_eq_true_iff
theorem hasW_add (S : LL) (w : List Int) (x : Int) : hasW (S ++ [w]) x = (hasW S x || decide ((w.length : Int) = x)) := by
  rw [Bool.eq_iff_iff, Bool.or_eq_true, hasW_iff, hasW_iff, decide_eq_true_iff]
  constructor
  · rintro ⟨r, hr, e⟩
    rcases List.mem_append.1 hr with h | h
    · exact .inl ⟨r, h, e⟩
    · simp at h; subst h; exact .inr e
  · rintro (⟨r, hr, e⟩ | e)
    · exact ⟨r, List.mem_append_left _ hr, e⟩
    · exact ⟨w, by simp, e⟩
def topV (S : LL) : Nat := (S.map List.length).foldl max 0
theorem foldl_max : ∀ (l : List Nat) (a : Nat), a ≤ l.foldl max a ∧ ∀ x ∈ l, x ≤ l.foldl max a
  | [], a => by simp
  | y :: r, a => by
    obtain ⟨h1, h2⟩ := foldl_max r (max a y)
    rw [List.foldl_cons]
    refine ⟨by omega, fun x hx => ?_⟩
    rcases List.mem_cons.1 hx with rfl | hx
    · omega
    · exact h2 x hx
theorem top_ge {S : LL} {r : List Int} (h : r ∈ S) : r.length ≤ topV S := (foldl_max _ 0).2 _ (List.mem_map_of_mem h)
theorem top_take {S : LL} {k : Nat} (h : k < S.length) : topV (S.take (k + 1)) = max (topV (S.take k)) (S.getD k []).length := by
  unfold topV; rw [List.take_succ_eq_append_getElem h, List.map_append, List.foldl_append, gD h]; rfl
theorem foldl_max_le : ∀ (l : List Nat) (a m : Nat), a ≤ m → (∀ x ∈ l, x ≤ m) → l.foldl max a ≤ m
  | [], a, m, h, _ => h
  | y :: r, a, m, h, k => by
    rw [List.foldl_cons]
    exact foldl_max_le r _ m (by have := k y List.mem_cons_self; omega) fun x hx => k x (List.mem_cons_of_mem _ hx)
theorem top_le {S : LL} {m : Nat} (h : ∀ r ∈ S, r.length ≤ m) : topV S ≤ m := foldl_max_le _ _ _ (Nat.zero_le _) fun x hx => by
  obtain ⟨r, hr, rfl⟩ := List.mem_map.1 hx
  exact h r hr
/-- the widths up to one -/
def widK (S : LL) (k : Nat) : List Int := ((List.range (k + 1)).filter fun (w : Nat) => decide (1 ≤ w) && hasW S w).map fun (w : Nat) => (w : Int)
def widV (S : LL) : List Int := widK S (topV S)
theorem widK_zero (S : LL) : widK S 0 = [] := by unfold widK; rfl
theorem widK_succ (S : LL) (k : Nat) : widK S (k + 1) = if hasW S ((k + 1 : Nat) : Int) = true then widK S k ++ [((k + 1 : Nat) : Int)] else widK S k := by
  unfold widK
  rw [List.range_succ (n := k + 1), List.filter_append, List.map_append]
  by_cases h : hasW S ((k + 1 : Nat) : Int) = true
  · have e : [k + 1].filter (fun (w : Nat) => decide (1 ≤ w) && hasW S w) = [k + 1] := by rw [List.filter_cons, if_pos (by rw [h, decide_eq_true (by omega)]; rfl)]; rfl
    rw [if_pos h, e]; rfl
  · have e : [k + 1].filter (fun (w : Nat) => decide (1 ≤ w) && hasW S w) = [] := by rw [List.filter_cons, if_neg (by rw [Bool.and_eq_true]; exact fun k => h k.2)]; rfl
    rw [if_neg h, e]; simp
theorem mem_widV {S : LL} (h : Ok S) {x : Int} : x ∈ widV S ↔ hasW S x = true := by
  unfold widV widK
  rw [List.mem_map]
  constructor
  · rintro ⟨w, hw, rfl⟩
    have := (List.mem_filter.1 hw).2
    simp at this; exact this.2
  · intro hx
    obtain ⟨r, hr, rfl⟩ := hasW_iff.1 hx
    refine ⟨r.length, List.mem_filter.2 ⟨List.mem_range.2 (by have := top_ge hr; omega), ?_⟩, rfl⟩
    have h0 : 1 ≤ r.length := by
      cases r with
      | nil => exact absurd hr h.ne
      | cons => simp
    rw [hx, decide_eq_true h0]; rfl
theorem widV_up (S : LL) : (widV S).Pairwise (· < ·) := by unfold widV widK; exact range_up _ _
/-- what was collected, sorted, is the widths -/
theorem sort_wid {S : LL} (h : Ok S) {l : List Int} (hn : l.Nodup) (hm : ∀ x, x ∈ l ↔ hasW S x = true) : l.mergeSort (fun x y => decide (x ≤ y)) = widV S := by
  have hp : l.Perm (widV S) := (List.perm_ext_iff_of_nodup hn (up_nodup (widV_up S))).2 fun x => by rw [hm, mem_widV h]
  refine sorted_eq ((List.mergeSort_perm _ _).trans hp) ?_ ((widV_up S).imp (fun h => by omega))
  exact (List.pairwise_mergeSort (fun a b c h1 h2 => by simp at *; omega) (fun a b => by simp; omega) l).imp (fun h => by simpa using h)
/-- the last k numbers -/
def lastK (k : Nat) (l : List Int) : List Int := l.drop (l.length - k)
theorem lastK_snoc (k : Nat) (l : List Int) (p : Int) : lastK k l ++ [p] = lastK (k + 1) (l ++ [p]) := by
  unfold lastK
  rw [List.drop_append, List.length_append, List.length_singleton, show l.length + 1 - (k + 1) = l.length - k by omega, show l.length - k - l.length = 0 by omega]
  rfl
theorem lastK_len (k : Nat) (l : List Int) : (lastK k l).length = min k l.length := by unfold lastK; rw [List.length_drop]; omega
theorem lastK_suf (k : Nat) (l : List Int) : lastK k l <:+ l := List.drop_suffix _ _
theorem lastK_tail {k : Nat} {l : List Int} (h : (lastK (k + 1) l).length = k + 1) : (lastK (k + 1) l).tail = lastK k l := by
  rw [lastK_len] at h
  unfold lastK
  rw [List.tail_drop, show l.length - (k + 1) + 1 = l.length - k by omega]
theorem lastK_same {k : Nat} {l : List Int} (h : l.length ≤ k) : lastK k l = l := by unfold lastK; rw [show l.length - k = 0 by omega]; rfl
theorem suf_lastK {k : Nat} {s l : List Int} (h : s <:+ l) (hk : s.length ≤ k) : s <:+ lastK k l := by
  obtain ⟨t, rfl⟩ := h
  unfold lastK
  rw [List.drop_append, List.length_append]
  rw [show t.length + s.length - k - t.length = 0 by omega]
  exact ⟨_, rfl⟩
/-- the state that Label goes to, of rows of w = v + 1 numbers -/
theorem lab_fall {L : LL} (hI : Inv L) (v : Nat) (l : List Int) (h : (suf L (lastK (v + 1) l)).length = v + 1) : suf L (suf L (lastK (v + 1) l)).tail = suf L (lastK v l) := by
  have h1 := suf_suffix L (lastK (v + 1) l)
  have h2 : suf L (lastK (v + 1) l) = lastK (v + 1) l := h1.eq_of_length (by have := h1.length_le; have := lastK_len (v + 1) l; omega)
  rw [h2] at h ⊢
  rw [lastK_tail h]
theorem lab_keep {L : LL} (hI : Inv L) (v : Nat) (l : List Int) (h : (suf L (lastK (v + 1) l)).length ≠ v + 1) : suf L (lastK (v + 1) l) = suf L (lastK v l) := by
  by_cases hv : l.length ≤ v
  · rw [lastK_same hv, lastK_same (by omega)]
  · have hl : (lastK (v + 1) l).length = v + 1 := by rw [lastK_len]; omega
    have ht := lastK_tail hl
    cases hc : lastK (v + 1) l with
    | nil => rw [hc] at hl; simp at hl
    | cons x t =>
      rw [hc] at ht h hl
      rw [show t = lastK v l from ht] at h hl ⊢
      refine suf_out fun hm => h ?_
      rw [suf_in hm]; exact hl
/-- the row of a width that is the last numbers -/
def labV (S : LL) (q : List Int) (w : Int) : Int := if S.findIdx (fun r => decide ((r.length : Int) = w) && decide (r <:+ q)) < S.length then (S.findIdx (fun r => decide ((r.length : Int) = w) && decide (r <:+ q)) : Int) else -1
theorem lab_none {S : LL} {q : List Int} {w : Int} (h : ∀ r ∈ S, (r.length : Int) = w → ¬ r <:+ q) : labV S q w = -1 := by
  unfold labV
  rw [if_neg]
  intro hl
  have := List.findIdx_getElem (w := hl)
  simp only [Bool.and_eq_true, decide_eq_true_eq] at this
  exact h _ (List.getElem_mem hl) this.1 this.2
theorem lab_no {S : LL} {q : List Int} {w : Int} (h : hasW S w = false) : labV S q w = -1 := lab_none fun r hr e => by
  have := hasW_iff.2 ⟨r, hr, e⟩
  rw [h] at this; cases this
theorem lab_hit {S : LL} {q : List Int} {v : Nat} (h : (lastK v q).length = v) : labV S q (v : Int) = findV S (lastK v q) := by
  have e : (fun r : List Int => decide ((r.length : Int) = (v : Int)) && decide (r <:+ q)) = fun r => decide (r = lastK v q) := by
    funext r
    rw [Bool.eq_iff_iff, Bool.and_eq_true, decide_eq_true_iff, decide_eq_true_iff, decide_eq_true_iff]
    constructor
    · rintro ⟨h1, h2⟩
      have h3 := suf_lastK (k := v) h2 (by omega)
      exact h3.eq_of_length (by omega)
    · rintro rfl
      exact ⟨by omega, lastK_suf _ _⟩
  unfold labV findV idx
  rw [e]
/-- what stands at the node that Label goes to -/
theorem lab_node {S : LL} (h : Ok S) (v : Nat) (q : List Int) : labV S q ((v + 1 : Nat) : Int) = if (suf (pathsOf S) (lastK (v + 1) q)).length = v + 1 then findV S (suf (pathsOf S) (lastK (v + 1) q)) else -1 := by
  have hs := suf_suffix (pathsOf S) (lastK (v + 1) q)
  by_cases hl : (suf (pathsOf S) (lastK (v + 1) q)).length = v + 1
  · rw [if_pos hl]
    have h1 := hs.length_le
    have h2 := lastK_len (v + 1) q
    have h3 : suf (pathsOf S) (lastK (v + 1) q) = lastK (v + 1) q := hs.eq_of_length (by omega)
    rw [h3, lab_hit (by rw [← h3]; exact hl)]
  · rw [if_neg hl]
    refine lab_none fun r hr e hq => hl ?_
    have h1 := suf_lastK (k := v + 1) hq (by omega)
    have h2 := suf_long h1 (in_paths h hr)
    have h3 := h2.length_le
    have h4 := hs.length_le
    have h5 := lastK_len (v + 1) q
    omega
/-- what the document's Ends is, row by row -/
theorem fin_take {S : LL} {q : List Int} {k : Nat} (hk : k < S.length) : ((List.range (k + 1)).filter fun i => decide (S.getD i [] <:+ q)).map (fun (i : Nat) => (i : Int)) = ((List.range k).filter fun i => decide (S.getD i [] <:+ q)).map (fun (i : Nat) => (i : Int)) ++ (if S.getD k [] <:+ q then [(k : Int)] else []) := by
  rw [List.range_succ, List.filter_append, List.map_append]
  by_cases h : S.getD k [] <:+ q
  · have e : [k].filter (fun i => decide (S.getD i [] <:+ q)) = [k] := by rw [List.filter_cons, if_pos (decide_eq_true h)]; rfl
    rw [if_pos h, e]; rfl
  · have e : [k].filter (fun i => decide (S.getD i [] <:+ q)) = [] := by rw [List.filter_cons, if_neg (by rw [decide_eq_true_iff]; exact h)]; rfl
    rw [if_neg h, e]; simp
end Wd
end Go.Proofs.Ytpkikhoicobmcaa
