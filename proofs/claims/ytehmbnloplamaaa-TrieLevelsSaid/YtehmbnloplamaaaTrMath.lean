/- Words by their beginnings, as a list of paths and a list of words: plain facts. No condition. -/
import Derived.Test.YtehmbnloplamaaaBox
namespace Go.Proofs.Ytehmbnloplamaaa
set_option linter.unusedVariables false
namespace Tr
abbrev LL := List (List Int)
theorem gD {α : Type} {L : List α} {k : Nat} {d : α} (h : k < L.length) : L.getD k d = L[k] := by rw [List.getD_eq_getElem?_getD, List.getElem?_eq_getElem h]; rfl
theorem gD_app {α : Type} {L M : List α} {k : Nat} {d : α} (h : k < L.length) : (L ++ M).getD k d = L.getD k d := by
  rw [List.getD_eq_getElem?_getD, List.getD_eq_getElem?_getD, List.getElem?_append_left h]
theorem gD_new {α : Type} (L : List α) (x d : α) : (L ++ [x]).getD L.length d = x := by
  rw [List.getD_eq_getElem?_getD, List.getElem?_append_right (Nat.le_refl _)]; simp
theorem gD_mem {α : Type} {L : List α} {k : Nat} {d : α} (h : k < L.length) : L.getD k d ∈ L := by rw [gD h]; exact List.getElem_mem _
/-- where a path stands; the list's length: nowhere -/
def idx (L : LL) (p : List Int) : Nat := L.findIdx (fun x => decide (x = p))
def findV (L : LL) (p : List Int) : Int := if idx L p < L.length then (idx L p : Int) else -1
theorem idx_hit {L : LL} {p : List Int} {k : Nat} (hk : k < L.length) (hp : L.getD k [] = p) (h : ∀ j, j < k → L.getD j [] ≠ p) : idx L p = k := by
  unfold idx
  rw [List.findIdx_eq hk]
  refine ⟨by rw [gD hk] at hp; simpa using hp, fun j hj => ?_⟩
  have := h j hj
  rw [gD (by omega)] at this
  simpa using this
theorem idx_lt_iff {L : LL} {p : List Int} : idx L p < L.length ↔ p ∈ L := by
  unfold idx; rw [List.findIdx_lt_length]; simp
theorem idx_at {L : LL} {p : List Int} (h : p ∈ L) : L.getD (idx L p) [] = p := by
  have h1 := idx_lt_iff.2 h
  rw [gD h1]
  exact of_decide_eq_true (@List.findIdx_getElem _ (fun x => decide (x = p)) L h1)
theorem findV_hit {L : LL} {p : List Int} {k : Nat} (hk : k < L.length) (hp : L.getD k [] = p) (h : ∀ j, j < k → L.getD j [] ≠ p) : findV L p = (k : Int) := by
  unfold findV; rw [idx_hit hk hp h, if_pos hk]
theorem findV_mem {L : LL} {p : List Int} (h : p ∈ L) : findV L p = (idx L p : Int) := by unfold findV; rw [if_pos (idx_lt_iff.2 h)]
theorem findV_not {L : LL} {p : List Int} (h : p ∉ L) : findV L p = -1 := by unfold findV; rw [if_neg (fun k => h (idx_lt_iff.1 k))]
theorem findV_none {L : LL} {p : List Int} (h : ∀ j, j < L.length → L.getD j [] ≠ p) : findV L p = -1 := by
  refine findV_not fun hm => h _ (idx_lt_iff.2 hm) (idx_at hm)
theorem findV_in (L : LL) (p : List Int) : -1 ≤ findV L p ∧ findV L p < L.length := by
  unfold findV; split <;> omega
theorem findV_pos {L : LL} {p : List Int} : 0 ≤ findV L p ↔ p ∈ L := by
  by_cases h : p ∈ L
  · rw [findV_mem h]; simp [h]
  · rw [findV_not h]; simp [h]
theorem findV_self {L : LL} (hn : L.Nodup) {k : Nat} (hk : k < L.length) : findV L (L.getD k []) = (k : Int) := by
  refine findV_hit hk rfl fun j hj e => ?_
  rw [gD hk, gD (by omega)] at e
  exact (List.pairwise_iff_getElem.1 hn) j k (by omega) hk hj e
theorem idx_old {L M : LL} {p : List Int} (h : p ∈ L) : idx (L ++ M) p = idx L p := by
  have h1 := idx_lt_iff.2 h
  unfold idx at h1 ⊢; rw [List.findIdx_append, if_pos h1]
theorem findV_old {L M : LL} {p : List Int} (h : p ∈ L) : findV (L ++ M) p = findV L p := by
  rw [findV_mem h, findV_mem (List.mem_append_left _ h), idx_old h]
theorem findV_new {L : LL} {p : List Int} (h : p ∉ L) : findV (L ++ [p]) p = (L.length : Int) := by
  refine findV_hit (by simp) (gD_new _ _ _) fun j hj e => ?_
  rw [gD_app hj] at e
  exact h (by rw [← e]; exact gD_mem hj)
theorem findV_eq {L : LL} (hn : L.Nodup) {p : List Int} {k : Nat} (hk : k < L.length) : findV L p = (k : Int) ↔ p = L.getD k [] := by
  constructor
  · intro h
    have hm : p ∈ L := findV_pos.1 (by rw [h]; omega)
    rw [findV_mem hm] at h
    have : idx L p = k := by omega
    rw [← this, idx_at hm]
  · rintro rfl; exact findV_self hn hk
/-- the numbers that a node is of last -/
def num (L : LL) (n : Nat) : Int := (L.getD n []).getLastD 0
abbrev out (L : LL) (k : Int) : Prop := k < 0 ∨ (L.length : Int) ≤ k
def parV (L : LL) (k : Int) : Int := if k < 1 ∨ (L.length : Int) ≤ k then -1 else findV L (L.getD k.toNat []).dropLast
def depV (L : LL) (k : Int) : Int := if out L k then -1 else ((L.getD k.toNat []).length : Int)
def pathV (L : LL) (k : Int) : List Int := if out L k then [] else L.getD k.toNat []
def childV (L : LL) (k p : Int) : Int := if out L k then -1 else findV L (L.getD k.toNat [] ++ [p])
/-- the place of a number in a row of rising ones -/
def place (K : List Int) (p : Int) : Nat := K.findIdx (fun x => decide (p ≤ x))
def insP (K : List Int) (p : Int) : List Int := K.take (place K p) ++ p :: K.drop (place K p)
def insN (L : LL) (acc : List Nat) (j : Nat) : List Nat := acc.take (place (acc.map (num L)) (num L j)) ++ j :: acc.drop (place (acc.map (num L)) (num L j))
def isKid (L : LL) (n : Int) (j : Nat) : Bool := decide (parV L j = n)
def kids (L : LL) (n : Nat) : List Nat := ((List.range L.length).filter (isKid L n)).foldl (insN L) []
def kidsV (L : LL) (k : Int) : List Int := if out L k then [] else (kids L k.toNat).map (num L)
/-- a tree's paths: each behind the path that it makes longer -/
structure Inv (L : LL) : Prop where
  pos : 0 < L.length
  root : L.getD 0 [] = []
  nd : L.Nodup
  up : ∀ j, 1 ≤ j → j < L.length → L.getD j [] ≠ [] ∧ (L.getD j []).dropLast ∈ L ∧ idx L (L.getD j []).dropLast < j
theorem Inv.start : Inv [[]] := ⟨by simp, rfl, by simp, fun j h1 h2 => by simp at h2; omega⟩
theorem Inv.path {L : LL} (h : Inv L) {p : List Int} (hp : p ∈ L) (h0 : p ≠ []) : p.dropLast ∈ L := by
  have h1 := idx_lt_iff.2 hp
  by_cases hz : idx L p = 0
  · have := idx_at hp; rw [hz, h.root] at this; exact absurd this.symm h0
  · have := (h.up _ (by omega) h1).2.1; rwa [idx_at hp] at this
theorem Inv.nil {L : LL} (h : Inv L) : [] ∈ L := by have := gD_mem (d := []) h.pos; rwa [h.root] at this
theorem Inv.take {L : LL} (h : Inv L) {p : List Int} (hp : p ∈ L) (k : Nat) : p.take k ∈ L := by
  by_cases hk : p.length ≤ k
  · rwa [List.take_of_length_le hk]
  · have H : ∀ d, d ≤ p.length → p.take (p.length - d) ∈ L := by
      intro d
      induction d with
      | zero => intro _; simpa using hp
      | succ d ih =>
        intro hd
        have hm := ih (by omega)
        have := h.path hm (by intro e; have := congrArg List.length e; rw [List.length_take] at this; simp at this; omega)
        rw [List.dropLast_eq_take, List.length_take, List.take_take] at this
        rwa [show min (min (p.length - d) p.length - 1) (p.length - d) = p.length - (d + 1) by omega] at this
    have := H (p.length - k) (by omega)
    rwa [show p.length - (p.length - k) = k by omega] at this
theorem Inv.add {L : LL} (h : Inv L) {x : List Int} (h1 : x ∉ L) (h2 : x.dropLast ∈ L) : Inv (L ++ [x]) := by
  have h0 : x ≠ [] := fun e => h1 (by rw [e]; exact h.nil)
  refine ⟨by simp, by rw [gD_app h.pos]; exact h.root, ?_, fun j hj1 hj2 => ?_⟩
  · rw [List.nodup_append]
    refine ⟨h.nd, by simp, fun a ha b hb => ?_⟩
    simp at hb; subst hb
    intro e; exact h1 (by rw [← e]; exact ha)
  · rw [List.length_append, List.length_singleton] at hj2
    by_cases hj : j < L.length
    · obtain ⟨a, b, c⟩ := h.up j hj1 hj
      rw [gD_app hj]
      exact ⟨a, List.mem_append_left _ b, by rw [idx_old b]; exact c⟩
    · obtain rfl : j = L.length := by omega
      rw [gD_new]
      exact ⟨h0, List.mem_append_left _ h2, by rw [idx_old h2]; exact idx_lt_iff.2 h2⟩
theorem num_old {L : LL} {x : List Int} {i : Nat} (hi : i < L.length) : num (L ++ [x]) i = num L i := by unfold num; rw [gD_app hi]
theorem num_new {L : LL} {x : List Int} : num (L ++ [x]) L.length = x.getLastD 0 := by unfold num; rw [gD_new]
theorem parV_in (L : LL) (k : Int) : -1 ≤ parV L k ∧ parV L k < L.length := by
  unfold parV; split
  · omega
  · exact findV_in _ _
theorem par_at {L : LL} {j : Nat} (h1 : 1 ≤ j) (h2 : j < L.length) : parV L j = findV L (L.getD j []).dropLast := by
  unfold parV; rw [if_neg (by omega)]; simp
theorem par_old {L : LL} (h : Inv L) {x : List Int} {j : Nat} (hj : j < L.length) : parV (L ++ [x]) j = parV L j := by
  by_cases h0 : j = 0
  · subst h0; unfold parV; simp
  · rw [par_at (by omega) (by simp; omega), par_at (by omega) hj, gD_app hj, findV_old (h.up j (by omega) hj).2.1]
theorem par_new {L : LL} (h : Inv L) {x : List Int} (h2 : x.dropLast ∈ L) : parV (L ++ [x]) L.length = findV L x.dropLast := by
  have := h.pos
  rw [par_at (by omega) (by simp), gD_new, findV_old h2]
theorem last_split {p : List Int} (h : p ≠ []) : p.dropLast ++ [p.getLastD 0] = p := by
  rw [List.getLastD_eq_getLast?, List.getLast?_eq_some_getLast h]; exact List.dropLast_concat_getLast h
theorem kid_iff {L : LL} (h : Inv L) {n j : Nat} (hn : n < L.length) (hj : j < L.length) : isKid L n j = true ↔ 1 ≤ j ∧ L.getD j [] = L.getD n [] ++ [num L j] := by
  unfold isKid
  rw [decide_eq_true_iff]
  constructor
  · intro e
    have h1 : 1 ≤ j := by
      rcases Nat.eq_zero_or_pos j with h0 | h0
      · subst h0; unfold parV at e; rw [if_pos (Or.inl (by omega))] at e; omega
      · exact h0
    refine ⟨h1, ?_⟩
    rw [par_at h1 hj, findV_eq h.nd hn] at e
    rw [← e]; exact (last_split (h.up j h1 hj).1).symm
  · rintro ⟨h1, e⟩
    rw [par_at h1 hj, findV_eq h.nd hn, e]; simp
theorem insN_mem {L : LL} {acc : List Nat} {j i : Nat} : i ∈ insN L acc j ↔ i = j ∨ i ∈ acc := by
  unfold insN
  rw [List.mem_append, List.mem_cons]
  constructor
  · rintro (h | h | h)
    · exact .inr (List.mem_of_mem_take h)
    · exact .inl h
    · exact .inr (List.mem_of_mem_drop h)
  · rintro (h | h)
    · exact .inr (.inl h)
    · rw [← List.take_append_drop (place (acc.map (num L)) (num L j)) acc, List.mem_append] at h
      rcases h with h | h
      · exact .inl h
      · exact .inr (.inr h)
theorem foldl_insN_mem {L : LL} : ∀ (l acc : List Nat) {i : Nat}, i ∈ l.foldl (insN L) acc ↔ i ∈ l ∨ i ∈ acc
  | [], acc, i => by simp
  | j :: l, acc, i => by
    rw [List.foldl_cons, foldl_insN_mem l, insN_mem, List.mem_cons]
    constructor
    · rintro (h | h | h)
      · exact .inl (.inr h)
      · exact .inl (.inl h)
      · exact .inr h
    · rintro ((h | h) | h)
      · exact .inr (.inl h)
      · exact .inl h
      · exact .inr (.inr h)
theorem kids_mem {L : LL} {n i : Nat} : i ∈ kids L n ↔ i < L.length ∧ isKid L n i = true := by
  unfold kids; rw [foldl_insN_mem, List.mem_filter, List.mem_range]; simp
theorem insN_len (L : LL) (acc : List Nat) (j : Nat) : (insN L acc j).length = acc.length + 1 := by
  unfold insN; rw [List.length_append, List.length_cons, List.length_take, List.length_drop]; omega
theorem foldl_insN_len {L : LL} : ∀ (l acc : List Nat), (l.foldl (insN L) acc).length = acc.length + l.length
  | [], acc => by simp
  | j :: l, acc => by rw [List.foldl_cons, foldl_insN_len l, insN_len, List.length_cons]; omega
theorem kids_len (L : LL) (n : Nat) : (kids L n).length ≤ L.length := by
  unfold kids
  rw [foldl_insN_len, List.length_nil, Nat.zero_add]
  exact Nat.le_trans (List.length_filter_le _ _) (by simp)
theorem insN_congr {L M : LL} {acc : List Nat} {j : Nat} (h : ∀ i, i ∈ acc → num L i = num M i) (hj : num L j = num M j) : insN L acc j = insN M acc j := by
  unfold insN
  rw [List.map_congr_left h, hj]
theorem foldl_congr {L M : LL} : ∀ (l acc : List Nat), (∀ i, i ∈ l → num L i = num M i) → (∀ i, i ∈ acc → num L i = num M i) → l.foldl (insN L) acc = l.foldl (insN M) acc
  | [], acc, _, _ => rfl
  | j :: l, acc, h1, h2 => by
    have hj := h1 j (List.mem_cons_self ..)
    rw [List.foldl_cons, List.foldl_cons, insN_congr h2 hj]
    refine foldl_congr l _ (fun i hi => h1 i (List.mem_cons_of_mem _ hi)) fun i hi => ?_
    rcases insN_mem.1 hi with rfl | hi
    · exact hj
    · exact h2 i hi
theorem kids_old {L : LL} (h : Inv L) {x : List Int} (h1 : x ∉ L) (h2 : x.dropLast ∈ L) {n : Nat} (hn : n < L.length) :
    kids (L ++ [x]) n = if findV L x.dropLast = n then insN (L ++ [x]) (kids L n) L.length else kids L n := by
  unfold kids
  rw [List.length_append, List.length_singleton, List.range_succ, List.filter_append, List.foldl_append]
  have e1 : (List.range L.length).filter (isKid (L ++ [x]) n) = (List.range L.length).filter (isKid L n) := by
    refine List.filter_congr fun j hj => ?_
    unfold isKid; rw [par_old h (List.mem_range.1 hj)]
  have e2 : ((List.range L.length).filter (isKid L n)).foldl (insN (L ++ [x])) [] = ((List.range L.length).filter (isKid L n)).foldl (insN L) [] := by
    refine foldl_congr _ _ (fun i hi => num_old (List.mem_range.1 (List.mem_filter.1 hi).1)) (fun i hi => by cases hi)
  rw [e1, e2]
  have e3 : isKid (L ++ [x]) n L.length = decide (findV L x.dropLast = n) := by unfold isKid; rw [par_new h h2]
  by_cases e : findV L x.dropLast = n
  · rw [if_pos e, List.filter_cons, e3, decide_eq_true e]; rfl
  · rw [if_neg e, List.filter_cons, e3, decide_eq_false e]; rfl
theorem kids_new {L : LL} (h : Inv L) {x : List Int} (h1 : x ∉ L) (h2 : x.dropLast ∈ L) : kids (L ++ [x]) L.length = [] := by
  apply List.eq_nil_iff_forall_not_mem.2
  intro i hi
  obtain ⟨a, b⟩ := kids_mem.1 hi
  have hI := h.add h1 h2
  obtain ⟨c, d⟩ := (kid_iff hI (by simp) a).1 b
  rw [gD_new] at d
  have := (hI.up i c a).2.1
  rw [d] at this
  rw [List.length_append, List.length_singleton] at a
  by_cases hi' : i < L.length
  · have h5 := (h.up i c hi').2.1
    rw [gD_app hi'] at d
    rw [d] at h5
    simp at h5
    exact h1 h5
  · obtain rfl : i = L.length := by omega
    rw [gD_new] at d
    have := congrArg List.length d
    simp at this
/-- rising -/
def Ris (K : List Int) : Prop := K.Pairwise (· ≤ ·)
theorem place_le (K : List Int) (p : Int) : place K p ≤ K.length := List.findIdx_le_length
theorem place_lt {K : List Int} {p : Int} {i : Nat} (h : i < place K p) : K.getD i 0 < p := by
  have hl := place_le K p
  have := @List.not_of_lt_findIdx _ (fun x => decide (p ≤ x)) K i h
  rw [gD (by omega)]
  simpa using this
theorem place_at {K : List Int} {p : Int} (h : place K p < K.length) : p ≤ K.getD (place K p) 0 := by
  rw [gD h]
  exact of_decide_eq_true (@List.findIdx_getElem _ (fun x => decide (p ≤ x)) K h)
theorem place_eq {K : List Int} {p : Int} {k : Nat} (hk : k ≤ K.length) (h1 : ∀ i, i < k → K.getD i 0 < p) (h2 : k < K.length → p ≤ K.getD k 0) : place K p = k := by
  rcases Nat.lt_trichotomy (place K p) k with h | h | h
  · have := h1 _ h
    have := place_at (K := K) (p := p) (by omega)
    omega
  · exact h
  · have h3 := place_lt h
    have := place_le K p
    have := h2 (by omega)
    omega
theorem ris_get {K : List Int} (h : Ris K) {i j : Nat} (hij : i ≤ j) (hj : j < K.length) : K.getD i 0 ≤ K.getD j 0 := by
  rw [gD (by omega), gD hj]
  rcases Nat.eq_or_lt_of_le hij with rfl | hlt
  · exact Int.le_refl _
  · exact (List.pairwise_iff_getElem.1 h) i j (by omega) hj hlt
theorem ris_ins {K : List Int} (h : Ris K) (p : Int) : Ris (insP K p) := by
  unfold insP Ris
  have ht := List.take_append_drop (place K p) K
  have hp : (K.take (place K p) ++ K.drop (place K p)).Pairwise (· ≤ ·) := by rw [ht]; exact h
  rw [List.pairwise_append] at hp ⊢
  obtain ⟨a, b, c⟩ := hp
  have A : ∀ x ∈ K.take (place K p), x ≤ p := by
    intro x hx
    obtain ⟨i, hi, rfl⟩ := List.getElem_of_mem hx
    rw [List.length_take] at hi
    have := place_lt (K := K) (p := p) (i := i) (by omega)
    rw [gD (by omega)] at this
    rw [List.getElem_take]; omega
  have B : ∀ x ∈ K.drop (place K p), p ≤ x := by
    intro x hx
    obtain ⟨i, hi, rfl⟩ := List.getElem_of_mem hx
    rw [List.length_drop] at hi
    have h1 := place_at (K := K) (p := p) (by omega)
    have h2 := ris_get h (i := place K p) (j := place K p + i) (by omega) (by omega)
    rw [List.getElem_drop]
    rw [gD (k := place K p + i) (by omega)] at h2
    omega
  refine ⟨a, List.pairwise_cons.2 ⟨B, b⟩, fun x hx y hy => ?_⟩
  rcases List.mem_cons.1 hy with rfl | hy
  · exact A x hx
  · exact c x hx y hy
theorem map_insN (L : LL) (acc : List Nat) (j : Nat) : (insN L acc j).map (num L) = insP (acc.map (num L)) (num L j) := by
  unfold insN insP
  rw [List.map_append, List.map_cons, List.map_take, List.map_drop]
theorem foldl_ris {L : LL} : ∀ (l acc : List Nat), Ris (acc.map (num L)) → Ris ((l.foldl (insN L) acc).map (num L))
  | [], acc, h => h
  | j :: l, acc, h => by rw [List.foldl_cons]; exact foldl_ris l _ (by rw [map_insN]; exact ris_ins h _)
theorem kids_ris (L : LL) (n : Nat) : Ris ((kids L n).map (num L)) := foldl_ris _ _ List.Pairwise.nil
theorem map_foldl (L : LL) : ∀ (l acc : List Nat), (l.foldl (insN L) acc).map (num L) = (l.map (num L)).foldl insP (acc.map (num L))
  | [], acc => rfl
  | j :: l, acc => by rw [List.foldl_cons, map_foldl L l, map_insN, List.map_cons, List.foldl_cons]
/-- a node's child, looked for in its children -/
theorem child_hit {L : LL} (h : Inv L) {n : Nat} (hn : n < L.length) {p : Int} {q : Nat} (hq : q < (kids L n).length) (e : num L ((kids L n).getD q 0) = p) : childV L n p = ((kids L n).getD q 0 : Nat) := by
  have hm := kids_mem.1 (gD_mem (d := 0) hq)
  have := (kid_iff h hn hm.1).1 hm.2
  unfold childV out
  rw [if_neg (by omega), Int.toNat_natCast, findV_eq h.nd hm.1, this.2, e]
theorem child_none {L : LL} (h : Inv L) {n : Nat} (hn : n < L.length) {p : Int} (hp : place ((kids L n).map (num L)) p = (kids L n).length ∨ num L ((kids L n).getD (place ((kids L n).map (num L)) p) 0) ≠ p) : childV L n p = -1 := by
  unfold childV out
  rw [if_neg (by omega), Int.toNat_natCast]
  refine findV_not fun hm => ?_
  have h1 := idx_lt_iff.2 hm
  have h2 := idx_at hm
  generalize idx L (L.getD n [] ++ [p]) = j at h1 h2
  have hj1 : 1 ≤ j := by
    rcases Nat.eq_zero_or_pos j with h0 | h0
    · subst h0; rw [h.root] at h2; simp at h2
    · exact h0
  have hnum : num L j = p := by unfold num; rw [h2]; simp
  have hk : j ∈ kids L n := kids_mem.2 ⟨h1, (kid_iff h hn h1).2 ⟨hj1, by rw [hnum]; exact h2⟩⟩
  obtain ⟨i, hi, hij⟩ := List.getElem_of_mem hk
  have hnk : ∀ i, i < (kids L n).length → ((kids L n).map (num L)).getD i 0 = num L ((kids L n).getD i 0) := fun i hi => by
    rw [gD (by simpa using hi), gD hi, List.getElem_map]
  have hi2 : ((kids L n).map (num L)).getD i 0 = p := by rw [hnk i hi, gD hi, hij, hnum]
  have hpl := place_le ((kids L n).map (num L)) p
  rw [List.length_map] at hpl
  rcases Nat.lt_or_ge i (place ((kids L n).map (num L)) p) with hlt | hge
  · have := place_lt hlt; omega
  · rcases hp with hp | hp
    · omega
    · refine hp ?_
      rw [← hnk _ (by omega)]
      have h3 := place_at (K := (kids L n).map (num L)) (p := p) (by rw [List.length_map]; omega)
      have h4 := ris_get (kids_ris L n) hge (by rw [List.length_map]; omega)
      omega
end Tr
end Go.Proofs.Ytehmbnloplamaaa
