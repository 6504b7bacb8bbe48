/- A word put into paths; how far it is known; where words end; rows of words: plain facts. No condition. -/
import Derived.Test.YtehmbnloplamaaaTrMath
namespace Go.Proofs.Ytehmbnloplamaaa
set_option linter.unusedVariables false
namespace Tr
def kn (L : LL) (w : List Int) : Nat → Nat
  | 0 => 0
  | k + 1 => if w.take (k + 1) ∈ L then k + 1 else kn L w k
theorem kn_le (L : LL) (w : List Int) : ∀ k, kn L w k ≤ k
  | 0 => Nat.le_refl _
  | k + 1 => by
    have := kn_le L w k
    unfold kn; split <;> omega
theorem kn_mem {L : LL} (h : Inv L) (w : List Int) : ∀ k, w.take (kn L w k) ∈ L
  | 0 => by simpa [kn] using h.nil
  | k + 1 => by
    unfold kn; split
    · assumption
    · exact kn_mem h w k
theorem kn_above {L : LL} (w : List Int) : ∀ k {j}, kn L w k < j → j ≤ k → w.take j ∉ L
  | 0, j, h1, h2 => by omega
  | k + 1, j, h1, h2 => by
    unfold kn at h1
    split at h1
    · omega
    · rename_i hk
      by_cases e : j = k + 1
      · subst e; exact hk
      · exact kn_above w k h1 (by omega)
def known (L : LL) (w : List Int) : Nat := kn L w w.length
theorem known_le (L : LL) (w : List Int) : known L w ≤ w.length := kn_le _ _ _
theorem known_mem {L : LL} (h : Inv L) (w : List Int) : w.take (known L w) ∈ L := kn_mem h w _
theorem known_above {L : LL} {w : List Int} {j : Nat} (h1 : known L w < j) (h2 : j ≤ w.length) : w.take j ∉ L := kn_above w _ h1 h2
theorem known_below {L : LL} (h : Inv L) {w : List Int} {j : Nat} (h1 : j ≤ known L w) : w.take j ∈ L := by
  have := h.take (known_mem h w) j
  rwa [List.take_take, Nat.min_eq_left h1] at this
theorem known_eq {L : LL} (h : Inv L) {w : List Int} {k : Nat} (hk : k ≤ w.length) (hm : w.take k ∈ L) (hn : k = w.length ∨ w.take (k + 1) ∉ L) : known L w = k := by
  have h1 := known_le L w
  rcases Nat.lt_trichotomy (known L w) k with hlt | e | hgt
  · exact absurd hm (known_above hlt hk)
  · exact e
  · rcases hn with hn | hn
    · omega
    · exact absurd (known_below h (by omega)) hn
def walkN (L : LL) (w : List Int) : Int := findV L (w.take (known L w))
def putK (L : LL) (w : List Int) : Nat → LL
  | 0 => L
  | k + 1 => if w.take (k + 1) ∈ putK L w k then putK L w k else putK L w k ++ [w.take (k + 1)]
def putL (L : LL) (w : List Int) : LL := putK L w w.length
theorem take_drop1 {w : List Int} {k : Nat} (hk : k < w.length) : (w.take (k + 1)).dropLast = w.take k := by
  rw [List.dropLast_eq_take, List.length_take, List.take_take]; congr 1; omega
theorem putK_inv {L : LL} (h : Inv L) (w : List Int) : ∀ k, k ≤ w.length → Inv (putK L w k) ∧ w.take k ∈ putK L w k
  | 0, _ => ⟨h, by simpa [putK] using h.nil⟩
  | k + 1, hk => by
    obtain ⟨a, b⟩ := putK_inv h w k (by omega)
    unfold putK
    split
    · exact ⟨a, by assumption⟩
    · exact ⟨a.add (by assumption) (by rw [take_drop1 (by omega)]; exact b), by simp⟩
theorem putK_mem {L : LL} {w : List Int} : ∀ {k x}, x ∈ putK L w k ↔ x ∈ L ∨ ∃ j, 1 ≤ j ∧ j ≤ k ∧ x = w.take j
  | 0, x => by
    unfold putK
    constructor
    · exact .inl
    · rintro (h | ⟨j, a, b, _⟩)
      · exact h
      · omega
  | k + 1, x => by
    have ih := @putK_mem L w k
    have H : x ∈ putK L w (k + 1) ↔ x ∈ putK L w k ∨ x = w.take (k + 1) := by
      conv => lhs; unfold putK
      split
      · constructor
        · exact .inl
        · rintro (h | h)
          · exact h
          · rw [h]; assumption
      · rw [List.mem_append, List.mem_singleton]
    rw [H, ih]
    constructor
    · rintro ((h | ⟨j, a, b, c⟩) | h)
      · exact .inl h
      · exact .inr ⟨j, a, by omega, c⟩
      · exact .inr ⟨k + 1, by omega, Nat.le_refl _, h⟩
    · rintro (h | ⟨j, a, b, c⟩)
      · exact .inl (.inl h)
      · by_cases e : j = k + 1
        · exact .inr (by rw [c, e])
        · exact .inl (.inr ⟨j, a, by omega, c⟩)
theorem putK_app (L : LL) (w : List Int) : ∀ k, ∃ M, putK L w k = L ++ M ∧ M.length ≤ k
  | 0 => ⟨[], by simp [putK], Nat.le_refl _⟩
  | k + 1 => by
    obtain ⟨M, e, hl⟩ := putK_app L w k
    unfold putK
    split
    · exact ⟨M, e, by omega⟩
    · exact ⟨M ++ [w.take (k + 1)], by rw [e, List.append_assoc], by rw [List.length_append, List.length_singleton]; omega⟩
theorem putK_len (L : LL) (w : List Int) (k : Nat) : L.length ≤ (putK L w k).length ∧ (putK L w k).length ≤ L.length + k := by
  obtain ⟨M, e, hl⟩ := putK_app L w k
  rw [e, List.length_append]; omega
theorem putK_below {L : LL} (h : Inv L) (w : List Int) : ∀ k, k ≤ known L w → putK L w k = L
  | 0, _ => rfl
  | k + 1, hk => by
    unfold putK
    rw [putK_below h w k (by omega), if_pos (known_below h hk)]
theorem putK_fresh {L : LL} {w : List Int} {k : Nat} (h1 : known L w ≤ k) (h2 : k < w.length) : w.take (k + 1) ∉ putK L w k := by
  intro hm
  rcases putK_mem.1 hm with hm | ⟨j, a, b, c⟩
  · exact known_above (by omega) (by omega) hm
  · have := congrArg List.length c
    rw [List.length_take, List.length_take] at this
    omega
theorem putK_above {L : LL} {w : List Int} {k : Nat} (h1 : known L w ≤ k) (h2 : k < w.length) : putK L w (k + 1) = putK L w k ++ [w.take (k + 1)] := by
  conv => lhs; unfold putK
  rw [if_neg (putK_fresh h1 h2)]
theorem putL_inv {L : LL} (h : Inv L) (w : List Int) : Inv (putL L w) := (putK_inv h w _ (Nat.le_refl _)).1
theorem putL_self {L : LL} (h : Inv L) (w : List Int) : w ∈ putL L w := by
  have := (putK_inv h w _ (Nat.le_refl _)).2
  rwa [List.take_of_length_le (Nat.le_refl _)] at this
theorem putL_keeps {L : LL} {w x : List Int} (h : x ∈ L) : x ∈ putL L w := putK_mem.2 (.inl h)
theorem putL_old {L : LL} {w x : List Int} (h : x ∈ L) : findV (putL L w) x = findV L x := by
  obtain ⟨M, e, _⟩ := putK_app L w w.length
  unfold putL; rw [e]; exact findV_old h
/-- where words end -/
def wordV (L W : LL) (i : Int) : Int := if out W i then -1 else findV L (W.getD i.toNat [])
def wordsV (L W : LL) (n : Int) : List Int := ((List.range W.length).filter fun i => decide (findV L (W.getD i []) = n)).map fun (i : Nat) => (i : Int)
def endsV (L W : LL) : List Int := W.map (findV L)
theorem wordsV_out {L W : LL} (hW : ∀ x ∈ W, x ∈ L) {n : Int} (hn : out L n) : wordsV L W n = [] := by
  unfold wordsV
  rw [List.map_eq_nil_iff, List.filter_eq_nil_iff]
  intro i hi
  have h1 := findV_in L (W.getD i [])
  have h2 := findV_pos.2 (hW _ (gD_mem (d := []) (List.mem_range.1 hi)))
  unfold out at hn
  rw [decide_eq_true_iff]; omega
theorem wordsV_grow {L W : LL} (hW : ∀ x ∈ W, x ∈ L) (M : LL) (n : Int) : wordsV (L ++ M) W n = wordsV L W n := by
  unfold wordsV
  congr 1
  refine List.filter_congr fun i hi => ?_
  rw [findV_old (hW _ (gD_mem (d := []) (List.mem_range.1 hi)))]
theorem endsV_grow {L W : LL} (hW : ∀ x ∈ W, x ∈ L) (M : LL) : endsV (L ++ M) W = endsV L W := List.map_congr_left fun x hx => findV_old (hW x hx)
theorem wordsV_add (L W : LL) (w : List Int) (n : Int) : wordsV L (W ++ [w]) n = if findV L w = n then wordsV L W n ++ [(W.length : Int)] else wordsV L W n := by
  unfold wordsV
  rw [List.length_append, List.length_singleton, List.range_succ, List.filter_append, List.map_append]
  have e1 : ((List.range W.length).filter fun i => decide (findV L ((W ++ [w]).getD i []) = n)) = ((List.range W.length).filter fun i => decide (findV L (W.getD i []) = n)) := by
    refine List.filter_congr fun i hi => ?_
    rw [gD_app (List.mem_range.1 hi)]
  rw [e1]
  by_cases e : findV L w = n
  · rw [if_pos e, List.filter_cons, gD_new, decide_eq_true e]; rfl
  · rw [if_neg e, List.filter_cons, gD_new, decide_eq_false e]; simp
theorem wordsV_len (L W : LL) (n : Int) : (wordsV L W n).length ≤ W.length := by
  unfold wordsV; rw [List.length_map]
  exact Nat.le_trans (List.length_filter_le _ _) (by simp)
/-- a tree with its words -/
structure Iw (L W : LL) : Prop where
  inv : Inv L
  ws : ∀ x ∈ W, x ∈ L ∧ x ≠ []
def stepT (T : LL × LL) (w : List Int) : LL × LL := if w = [] then T else (putL T.1 w, T.2 ++ [w])
theorem stepT_iw {T : LL × LL} (h : Iw T.1 T.2) (w : List Int) : Iw (stepT T w).1 (stepT T w).2 := by
  unfold stepT
  split
  · exact h
  · refine ⟨putL_inv h.inv w, fun x hx => ?_⟩
    rcases List.mem_append.1 hx with hx | hx
    · exact ⟨putL_keeps (h.ws x hx).1, (h.ws x hx).2⟩
    · rw [List.mem_singleton] at hx; subst hx
      exact ⟨putL_self h.inv _, by assumption⟩
def treeOf (ws : LL) : LL × LL := ws.foldl stepT ([[]], [])
theorem treeOf_snoc (ws : LL) (w : List Int) : treeOf (ws ++ [w]) = stepT (treeOf ws) w := by unfold treeOf; rw [List.foldl_append]; rfl
theorem foldl_iw : ∀ (ws : LL) {T : LL × LL}, Iw T.1 T.2 → Iw (ws.foldl stepT T).1 (ws.foldl stepT T).2
  | [], _, h => h
  | w :: ws, _, h => foldl_iw ws (stepT_iw h w)
theorem treeOf_iw (ws : LL) : Iw (treeOf ws).1 (treeOf ws).2 := foldl_iw ws ⟨Inv.start, fun x hx => by cases hx⟩
theorem foldl_words : ∀ (ws : LL) (T : LL × LL), (ws.foldl stepT T).2 = T.2 ++ ws.filter (fun w => decide (w ≠ []))
  | [], T => by simp
  | w :: ws, T => by
    rw [List.foldl_cons, foldl_words ws, List.filter_cons]
    unfold stepT
    by_cases h : w = []
    · simp [h]
    · simp [h]
theorem treeOf_words (ws : LL) : (treeOf ws).2 = ws.filter (fun w => decide (w ≠ [])) := by unfold treeOf; rw [foldl_words]; rfl
theorem foldl_mem : ∀ (ws : LL) (T : LL × LL) {x : List Int}, x ∈ (ws.foldl stepT T).1 ↔ x ∈ T.1 ∨ ∃ w ∈ ws, ∃ j, 1 ≤ j ∧ j ≤ w.length ∧ x = w.take j
  | [], T, x => by simp
  | w :: ws, T, x => by
    rw [List.foldl_cons, foldl_mem ws]
    have H : x ∈ (stepT T w).1 ↔ x ∈ T.1 ∨ ∃ j, 1 ≤ j ∧ j ≤ w.length ∧ x = w.take j := by
      unfold stepT
      split
      · rename_i h; subst h
        constructor
        · exact .inl
        · rintro (h | ⟨j, a, b, _⟩)
          · exact h
          · simp at b; omega
      · exact putK_mem
    rw [H]
    constructor
    · rintro ((h | h) | ⟨v, hv, h⟩)
      · exact .inl h
      · exact .inr ⟨w, List.mem_cons_self .., h⟩
      · exact .inr ⟨v, List.mem_cons_of_mem _ hv, h⟩
    · rintro (h | ⟨v, hv, h⟩)
      · exact .inl (.inl h)
      · rcases List.mem_cons.1 hv with rfl | hv
        · exact .inl (.inr h)
        · exact .inr ⟨v, hv, h⟩
theorem foldl_len : ∀ (ws : LL) (T : LL × LL), (∀ w ∈ ws, w.length ≤ 5) → (ws.foldl stepT T).1.length ≤ T.1.length + 5 * ws.length ∧ (ws.foldl stepT T).2.length ≤ T.2.length + ws.length
  | [], T, _ => ⟨Nat.le_refl _, Nat.le_refl _⟩
  | w :: ws, T, h => by
    have h1 := foldl_len ws (stepT T w) (fun v hv => h v (List.mem_cons_of_mem _ hv))
    have h2 := h w (List.mem_cons_self ..)
    have h3 : (stepT T w).1.length ≤ T.1.length + 5 ∧ (stepT T w).2.length ≤ T.2.length + 1 := by
      unfold stepT
      split
      · exact ⟨by omega, by omega⟩
      · have := (putK_len T.1 w w.length).2
        refine ⟨?_, by simp⟩
        show (putK T.1 w w.length).length ≤ _
        omega
    rw [List.foldl_cons, List.length_cons]; omega
theorem treeOf_len (ws : LL) (h : ∀ w ∈ ws, w.length ≤ 5) : (treeOf ws).1.length ≤ 1 + 5 * ws.length ∧ (treeOf ws).2.length ≤ ws.length := by
  have := foldl_len ws ([[]], []) h
  unfold treeOf
  simp only [List.length_singleton, List.length_nil] at this
  omega
theorem putL_twice {L : LL} {w : List Int} (h : Inv L) (hw : w ∈ L) : putL L w = L := by
  refine putK_below h w _ ?_
  rw [known_eq h (Nat.le_refl _) (by rwa [List.take_of_length_le (Nat.le_refl _)]) (.inl rfl)]
  exact Nat.le_refl _
end Tr
end Go.Proofs.Ytehmbnloplamaaa
