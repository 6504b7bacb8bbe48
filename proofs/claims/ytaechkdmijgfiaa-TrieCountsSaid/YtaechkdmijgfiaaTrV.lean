/- Two trees of the same words, put in two rows: plain facts. No condition. -/
import Derived.Test.YtaechkdmijgfiaaTrPut
namespace Go.Proofs.Ytaechkdmijgfiaa
set_option linter.unusedVariables false
namespace Tr
theorem wordsV_cnt {L : LL} (n : Int) : ∀ V : LL, (wordsV L V.reverse n).length = (V.reverse.filter fun x => decide (findV L x = n)).length
  | [] => rfl
  | v :: V => by
    rw [List.reverse_cons, wordsV_add, List.filter_append, List.length_append, ← wordsV_cnt n V]
    by_cases e : findV L v = n
    · rw [if_pos e, List.length_append, List.filter_cons, decide_eq_true e]; rfl
    · rw [if_neg e, List.filter_cons, decide_eq_false e]; rfl
theorem words_count {L W : LL} (hn : L.Nodup) (hW : ∀ x ∈ W, x ∈ L) {n : Nat} (hl : n < L.length) : (wordsV L W n).length = (W.filter fun x => decide (x = L.getD n [])).length := by
  have h := wordsV_cnt (L := L) (n : Int) W.reverse
  rw [List.reverse_reverse] at h
  rw [h]
  congr 1
  refine List.filter_congr fun x hx => ?_
  rw [decide_eq_decide]
  exact findV_eq hn hl
/-- the trees of a list of words and of the list turned round -/
structure Twin (L W U V : LL) : Prop where
  iu : Iw U V
  same : ∀ p, p ∈ L ↔ p ∈ U
  len : L.length = U.length
  turned : V = W.reverse
theorem foldl_ne : ∀ (ws : LL) (T : LL × LL), (∀ x ∈ ws, x ≠ []) → (ws.foldl stepT T).2 = T.2 ++ ws
  | [], T, _ => by simp
  | w :: ws, T, h => by
    rw [List.foldl_cons, foldl_ne ws _ (fun x hx => h x (List.mem_cons_of_mem _ hx))]
    unfold stepT
    rw [if_neg (h w (List.mem_cons_self ..))]
    simp
theorem twin_of {own : LL} : Twin (treeOf own).1 (treeOf own).2 (treeOf (treeOf own).2.reverse).1 (treeOf (treeOf own).2.reverse).2 := by
  have hW := treeOf_words own
  have hi := treeOf_iw own
  have hu := treeOf_iw (treeOf own).2.reverse
  have hsame : ∀ p, p ∈ (treeOf own).1 ↔ p ∈ (treeOf (treeOf own).2.reverse).1 := fun p => by
    unfold treeOf
    rw [foldl_mem, foldl_mem]
    have e : ∀ v : List Int, (∃ j, 1 ≤ j ∧ j ≤ v.length ∧ p = v.take j) → v ≠ [] := fun v ⟨j, h1, h2, _⟩ e => by subst e; simp at h2; omega
    have hW' : (own.foldl stepT ([[]], [])).2 = own.filter (fun w => decide (w ≠ [])) := hW
    rw [hW']
    constructor
    · rintro (h | ⟨v, hv, h⟩)
      · exact .inl h
      · exact .inr ⟨v, List.mem_reverse.2 (List.mem_filter.2 ⟨hv, by simpa using e v h⟩), h⟩
    · rintro (h | ⟨v, hv, h⟩)
      · exact .inl h
      · exact .inr ⟨v, (List.mem_filter.1 (List.mem_reverse.1 hv)).1, h⟩
  refine ⟨hu, hsame, ?_, ?_⟩
  · exact (List.perm_iff_count.2 fun p => by
      rw [List.Nodup.count hi.inv.nd, List.Nodup.count hu.inv.nd]
      by_cases h : p ∈ (treeOf own).1
      · rw [if_pos h, if_pos ((hsame p).1 h)]
      · rw [if_neg h, if_neg (fun k => h ((hsame p).2 k))]).length_eq
  · have := foldl_ne (treeOf own).2.reverse ([[]], []) (fun x hx => (hi.ws x (List.mem_reverse.1 hx)).2)
    unfold treeOf at this ⊢
    rw [this]; rfl
theorem Twin.walk {L W U V : LL} (h : Twin L W U V) (hi : Iw L W) {i : Nat} (hl : i < L.length) : known U (L.getD i []) = (L.getD i []).length ∧ ∃ n : Nat, walkN U (L.getD i []) = (n : Int) ∧ n < U.length ∧ U.getD n [] = L.getD i [] ∧ (wordsV U V n).length = (wordsV L W i).length := by
  have hm : L.getD i [] ∈ U := (h.same _).1 (gD_mem hl)
  have hk : known U (L.getD i []) = (L.getD i []).length := known_eq h.iu.inv (Nat.le_refl _) (by rwa [List.take_of_length_le (Nat.le_refl _)]) (.inl rfl)
  refine ⟨hk, idx U (L.getD i []), ?_, idx_lt_iff.2 hm, idx_at hm, ?_⟩
  · unfold walkN; rw [hk, List.take_of_length_le (Nat.le_refl _), findV_mem hm]
  · rw [words_count h.iu.inv.nd (fun x hx => (h.iu.ws x hx).1) (idx_lt_iff.2 hm), words_count hi.inv.nd (fun x hx => (hi.ws x hx).1) hl, idx_at hm, h.turned, List.filter_reverse, List.length_reverse]
end Tr
end Go.Proofs.Ytaechkdmijgfiaa
