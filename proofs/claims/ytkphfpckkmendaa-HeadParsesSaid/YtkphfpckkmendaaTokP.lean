/- What a reader says of a number's decimals, of blanks and of remarks: plain facts. No condition. -/
import Derived.Test.YtkphfpckkmendaaTokMath
import Derived.Test.YtkphfpckkmendaaDec
namespace Go.Proofs.Ytkphfpckkmendaa
open Go.RowKit
set_option linter.unusedVariables false
namespace Tk
/-- told the list it goes on, and is then where t says -/
def runs (m : Int) : S → List Int → S → Prop
  | s, [], t => s = t
  | s, c :: cs, t => (put m s c).k ≤ 3 ∧ runs m (put m s c) cs t
theorem runs_app {m : Int} : ∀ (a : List Int) {b : List Int} {s t v : S}, runs m s a t → runs m t b v → runs m s (a ++ b) v
  | [], b, s, t, v, h, k => by have : s = t := h; subst this; exact k
  | c :: cs, b, s, t, v, h, k => ⟨h.1, runs_app cs h.2 k⟩
theorem allF_runs {m : Int} : ∀ (l : List Int) {s t : S}, runs m s l t → ∀ (i : Nat) (u : Int) (acc r : List Int), allF m s i u acc (l ++ r) = allF m t (i + l.length) u acc r
  | [], s, t, h, i, u, acc, r => by have : s = t := h; subst this; rfl
  | c :: cs, s, t, h, i, u, acc, r => by
    have h5 : ¬ (put m s c).k = 5 := by have := h.1; omega
    have h4 : ¬ (put m s c).k = 4 := by have := h.1; omega
    rw [List.cons_append, allF, if_neg h5, if_neg h4, allF_runs cs h.2, List.length_cons, show i + 1 + cs.length = i + (cs.length + 1) by omega]
/-- told digits it took digits, and goes on -/
def digs (m : Int) : S → List Int → S → Prop
  | s, [], t => s = t
  | s, c :: cs, t => (put m s c).k = 2 ∧ digs m (put m s c) cs t
theorem digs_runs {m : Int} : ∀ (l : List Int) {s t : S}, digs m s l t → runs m s l t
  | [], s, t, h => h
  | c :: cs, s, t, h => ⟨by have := h.1; omega, digs_runs cs h.2⟩
theorem step_digit {n c m : Int} (h : (Nu.stepV n c m).2 = 0) : 48 ≤ c ∧ c ≤ 57 := by
  unfold Nu.stepV at h
  split at h
  · simp at h
  · rename_i h1; omega
theorem put_digit {m : Int} {s : S} {c : Int} (hk : s.k = 0 ∨ s.k = 2) (he : s.e = 9) (h : (Nu.stepV s.n c m).2 = 0) : put m s c = ⟨2, (Nu.stepV s.n c m).1, 9, true⟩ := by
  obtain ⟨h1, h2⟩ := step_digit h
  have hb : ¬ blank c = true := by unfold blank; simp; omega
  unfold put
  rw [if_neg (by omega), if_neg (by omega), if_neg (by omega), if_neg (by omega), if_neg hb, if_pos h, he]
theorem digs_parse {m v : Int} : ∀ (l : List Int) (s : S), (s.k = 0 ∨ s.k = 2) → s.e = 9 → (l = [] → s = ⟨2, v, 9, true⟩) → Nu.parseF m s.n l = (v, 0) → digs m s l ⟨2, v, 9, true⟩
  | [], s, hk, he, h0, h => h0 rfl
  | c :: cs, s, hk, he, h0, h => by
    rw [Nu.parseF] at h
    by_cases hs : (Nu.stepV s.n c m).2 = 0
    · rw [if_pos hs] at h
      have hp := put_digit hk he hs
      refine ⟨by rw [hp], ?_⟩
      rw [hp]
      refine digs_parse cs _ (.inr rfl) rfl (fun e => ?_) h
      subst e
      simp only [Nu.parseF] at h
      have := (Prod.mk.inj h).1
      rw [this]
    · rw [if_neg hs] at h
      have h2 := (Prod.mk.inj h).2
      exact absurd h2 hs
theorem digs_dec {m k : Int} (h0 : 0 ≤ k) (h1 : k ≤ m) : digs m new (Nu.decV k) ⟨2, k, 9, true⟩ := by
  refine digs_parse _ _ (.inl rfl) rfl (fun e => absurd e (Nu.decV_ne h0)) ?_
  show Nu.parseF m 0 _ = _
  rw [Nu.decV_up h0, Nu.parse_dig m (by omega) k h0, if_pos h1]
theorem digs_noughts {m k : Int} (h0 : 0 ≤ k) (h1 : k ≤ m) (r : Nat) : digs m new (List.replicate r 48 ++ Nu.decV k) ⟨2, k, 9, true⟩ := by
  refine digs_parse _ _ (.inl rfl) rfl (fun e => absurd (List.append_eq_nil_iff.1 e).2 (Nu.decV_ne h0)) ?_
  show Nu.parseF m 0 _ = _
  induction r with
  | zero => rw [List.replicate_zero, List.nil_append, Nu.decV_up h0, Nu.parse_dig m (by omega) k h0, if_pos h1]
  | succ r ih => rw [List.replicate_succ, List.cons_append, Nu.parse_nought m (by omega)]; exact ih
theorem blank_35 {c : Int} (h : blank c = true) : ¬ c = 35 := by unfold blank at h; simp at h; omega
theorem put_end {m k c : Int} (h : blank c = true) : put m ⟨2, k, 9, true⟩ c = ⟨4, k, 0, true⟩ := by simp [put, blank_35 h, h]
theorem put_ahead {m c : Int} (h : blank c = true) : put m new c = new := by
  have := blank_35 h
  simp [put, new, this, h]
theorem put_remA (m : Int) : put m new 35 = ⟨1, 0, 9, false⟩ := by simp [put, new]
theorem put_remD (m k : Int) : put m ⟨2, k, 9, true⟩ 35 = ⟨3, k, 9, true⟩ := by simp [put]
theorem put_in1 {m c : Int} (h : line c = false) : put m ⟨1, 0, 9, false⟩ c = ⟨1, 0, 9, false⟩ := by simp [put, h]
theorem put_in3 {m k c : Int} (h : line c = false) : put m ⟨3, k, 9, true⟩ c = ⟨3, k, 9, true⟩ := by simp [put, h]
theorem put_out1 {m c : Int} (h : line c = true) : put m ⟨1, 0, 9, false⟩ c = new := by simp [put, h, new]
theorem put_out3 {m k c : Int} (h : line c = true) : put m ⟨3, k, 9, true⟩ c = ⟨4, k, 0, true⟩ := by simp [put, h]
theorem runs_in1 {m : Int} : ∀ (l : List Int), (∀ c ∈ l, line c = false) → runs m ⟨1, 0, 9, false⟩ l ⟨1, 0, 9, false⟩
  | [], _ => rfl
  | c :: cs, h => by
    have e := put_in1 (m := m) (h c (by simp))
    exact ⟨by rw [e]; decide, by rw [e]; exact runs_in1 cs fun d hd => h d (by simp [hd])⟩
theorem runs_in3 {m k : Int} : ∀ (l : List Int), (∀ c ∈ l, line c = false) → runs m ⟨3, k, 9, true⟩ l ⟨3, k, 9, true⟩
  | [], _ => rfl
  | c :: cs, h => by
    have e := put_in3 (m := m) (k := k) (h c (by simp))
    exact ⟨by rw [e]; simp, by rw [e]; exact runs_in3 cs fun d hd => h d (by simp [hd])⟩
/-- a number's decimals and a blank are read as the number -/
theorem all_dec {M k c : Int} (h0 : 0 ≤ k) (h1 : k ≤ M) (hc : blank c = true) (i : Nat) (u : Int) (acc r : List Int) : allF M new i u acc (Nu.decV k ++ [c] ++ r) = allF M new (i + ((Nu.decV k).length + 1)) ((i + ((Nu.decV k).length + 1) : Nat) : Int) (acc ++ [k]) r := by
  rw [List.append_assoc, allF_runs _ (digs_runs _ (digs_dec h0 h1)), List.singleton_append, allF, put_end hc, if_neg (by simp), if_pos rfl]
  rw [show i + (Nu.decV k).length + 1 = i + ((Nu.decV k).length + 1) by omega]
  congr 1
end Tk
end Go.Proofs.Ytkphfpckkmendaa
