/- A reader of a number tells its number; what a reader's block leaves of a row. Condition: its greatest number fits. -/
import Derived.Test.YtkphfpckkmendaaTokD
import Derived.Lib.Hide
namespace Go.Proofs.Ytkphfpckkmendaa
open Go.RowKit
set_option linter.unusedVariables false

theorem value_s {w : World} {b : Nat} {m : Int} {s : Tk.S} (h : RdS w b m s) :
    Calls Try.prog 39 #[.pointer (some ⟨b, 0, none⟩)] w fun e w' => e = .returned (.tuple #[.int .i64 (Tk.val s).1, .int .i64 (Tk.val s).2]) ∧ w.grownBy w' none := by
  obtain ⟨⟨h1, h2, h3, h4, h5, h6, h7, h8⟩, v, f, x, r1, r2, r3, r4⟩ := h
  obtain ⟨k, n, er, bg⟩ := s
  simp only at h1 h2 h3 h4 h5 h6 h7 h8 r2 r3 r4
  by_cases k4 : k = 4
  · subst k4
    have hv := r2 (by omega)
    have he := h5 rfl
    subst hv he
    have r1' : RdC w b m v bg 1 f x := r1
    have hc1 := r1'.c1
    have hc3 := r1'.c3
    clear r1 r1' r2 r3 r4 h1 h2 h3 h4 h5 h6 h7 h8
    go_enter Try.func39, Try.ntmps39
    go_wp2
    go_ret2
    exact ⟨rfl, .refl _ _⟩
  by_cases k5 : k = 5
  · subst k5
    have hf := r4 rfl
    have he : er ≠ 0 := by have := h6 rfl; omega
    subst hf
    have r1' : RdC w b m v bg 2 f x := r1
    have X : Hid (Tk.val ⟨5, n, f, bg⟩ = (0, f)) := by show _ = _; unfold Tk.val; exact if_neg he
    have hc4 := r1'.c4
    have hc3 := r1'.c3
    clear r1 r1' r2 r3 r4 h1 h2 h3 h4 h5 h6 h7 h8 he
    go_enter Try.func39, Try.ntmps39
    go_wp2_with (go_quiet (fail))
    go_ret2
    exact ⟨(by rw [X.out]; rfl), grown_drew _ _ _⟩
  · have he := h4 (by omega)
    subst he
    have hst : Tk.st ⟨k, n, 9, bg⟩ = 0 := by unfold Tk.st; simp [k4, k5]
    rw [hst] at r1
    have hc3 := r1.c3
    clear r1 r2 r3 r4 h1 h2 h3 h4 h5 h6 h7 h8 hst
    go_enter Try.func39, Try.ntmps39
    go_wp2
    go_ret2
    exact ⟨rfl, .refl _ _⟩
theorem RdS.not_row {w : World} {b : Nat} {m : Int} {s : Tk.S} (h : RdS w b m s) {e : TypeId} (hte : 78 ≠ e) {base size k : Nat} {v : Value} {xs : List Value} (hr : w.ownsRow base e size v k xs) : some b ≠ v.ownBlock := by
  obtain ⟨_, _, f, x, h1, _⟩ := h
  have h1' : w.heap[b]? = _ := h1
  rcases hr.2 with ⟨hv, _⟩ | ⟨j, cap, cur, hv, _, hj, _⟩
  · rw [hv]; simp [Value.ownBlock]
  · rw [hv]; intro e2
    have e2 : b = j := by simpa [Value.ownBlock] using e2
    subst e2
    rw [h1'] at hj
    injection hj with hj
    injection hj with _ ht _
    exact hte ht
theorem row_keep {w w' : World} {b base size k : Nat} {e : TypeId} {v : Value} {xs : List Value} (hr : w.ownsRow base e size v k xs) (hg : w.grownBy w' (some b)) (hne : some b ≠ v.ownBlock) : w'.ownsRow base e size v k xs := hr.kept hg (.inr (Ne.symm hne))
theorem row_none {w w' : World} {base size k : Nat} {e : TypeId} {v : Value} {xs : List Value} (hr : w.ownsRow base e size v k xs) (hg : w.grownBy w' none) : w'.ownsRow base e size v k xs := by
  refine hr.kept hg ?_
  cases h : v.ownBlock with
  | none => exact .inl rfl
  | some j => exact .inr (by simp)
theorem row_below {w w' : World} {base size k : Nat} {e : TypeId} {v : Value} {xs : List Value} (hr : w.ownsRow base e size v k xs) (hb : Below w.heap.size w w') : w'.ownsRow base e size v k xs := row_none hr ⟨hb.os, hb.tape, hb.output, hb.size, fun k hk _ => hb.block k hk⟩
end Go.Proofs.Ytkphfpckkmendaa
