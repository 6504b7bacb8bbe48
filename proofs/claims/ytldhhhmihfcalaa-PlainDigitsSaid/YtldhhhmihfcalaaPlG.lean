/- Which heads are read as rasters of digits, and a new reader of one, over any memory. Condition: a head's numbers fit. -/
import Derived.Test.YtldhhhmihfcalaaPlF
namespace Go.Proofs.Ytldhhhmihfcalaa
open Go.RowKit
set_option linter.unusedVariables false

instance (h : Hd.H) : Decidable (Pl.May h) := by unfold Pl.May; infer_instance
theorem Pl.may_no {h : Hd.H} (h1 : ¬ Hd.May h) : decide (Pl.May h) = false := decide_eq_false fun H => h1 H.1
set_option maxHeartbeats 1000000 in
theorem plMay_any (h : Hd.H) (hf : Hj.Fit h) (w : World) :
    Calls Try.prog 75 #[agH h] w fun e w' => e = .returned (.bool (decide (Pl.May h))) ∧ Below w.heap.size w w' := by
  have HM := Lib.hid (hmay_any h hf)
  by_cases h1 : Hd.May h
  · have HR := Lib.hid (hraw_any h h1)
    simp only [decide_eq_true h1] at HM
    by_cases h2 : h.kd ≤ 3
    · have X := Lib.hid (show decide (Pl.May h) = true from decide_eq_true ⟨h1, h2⟩)
      simp only [decide_eq_false (show ¬ 3 < h.kd by omega)] at HR
      unfold agH at HM HR ⊢
      clear h1 h2
      go_enter Try.func75, Try.ntmps75
      go_wp2_with (first | (go_at_call 107; refine (HM.out _).mono ?_; rintro e w9 ⟨rfl, hb9⟩; have hBz := Lib.hid (((Below.refl _ w).alloc (Nat.le_refl _) _).trans (hb9.mono (by simp))); obtain ⟨n0, n1, n2, n3⟩ := ((Hb.new w 51 h).later hb9).cells; clear hb9) | (go_at_call 103; refine (HR.out _).mono ?_; rintro e w8 ⟨rfl, hb8⟩))
      go_ret
      exact ⟨ret_b X.out.symm, hBz.out.trans (hb8.mono hBz.out.size)⟩
    · have X := Lib.hid (show decide (Pl.May h) = false from decide_eq_false fun H => h2 H.2)
      simp only [decide_eq_true (show 3 < h.kd by omega)] at HR
      unfold agH at HM HR ⊢
      clear h1 h2
      go_enter Try.func75, Try.ntmps75
      go_wp2_with (first | (go_at_call 107; refine (HM.out _).mono ?_; rintro e w9 ⟨rfl, hb9⟩; have hBz := Lib.hid (((Below.refl _ w).alloc (Nat.le_refl _) _).trans (hb9.mono (by simp))); obtain ⟨n0, n1, n2, n3⟩ := ((Hb.new w 51 h).later hb9).cells; clear hb9) | (go_at_call 103; refine (HR.out _).mono ?_; rintro e w8 ⟨rfl, hb8⟩))
      go_ret
      exact ⟨ret_b X.out.symm, hBz.out.trans (hb8.mono hBz.out.size)⟩
  · have X := Lib.hid (Pl.may_no h1)
    simp only [decide_eq_false h1] at HM
    unfold agH at HM ⊢
    clear h1
    go_enter Try.func75, Try.ntmps75
    go_wp2_with (go_at_call 107; refine (HM.out _).mono ?_; rintro e w9 ⟨rfl, hb9⟩; have hBz := Lib.hid (((Below.refl _ w).alloc (Nat.le_refl _) _).trans (hb9.mono (by simp))))
    go_ret
    exact ⟨ret_b X.out.symm, hBz.out⟩
set_option maxHeartbeats 1000000 in
theorem refPlMay_any (h : Hd.H) (hf : Hj.Fit h) (w : World) :
    Calls Try.prog 53 #[agH h] w fun e w' => e = .returned (.bool (decide (Pl.May h))) ∧ Below w.heap.size w w' := by
  have HM := Lib.hid (refMay_any h hf)
  by_cases h1 : Hd.May h
  · simp only [decide_eq_true h1] at HM
    have X := Lib.hid (show decide (Pl.May h) = decide (h.kd < 4) by
      by_cases h2 : h.kd ≤ 3
      · rw [decide_eq_true (show h.kd < 4 by omega)]; exact decide_eq_true ⟨h1, h2⟩
      · rw [decide_eq_false (show ¬ h.kd < 4 by omega)]; exact decide_eq_false fun H => h2 H.2)
    unfold agH at HM ⊢
    clear h1
    go_enter Try.func53, Try.ntmps53
    go_wp2_with (go_at_call 67; refine (HM.out _).mono ?_; rintro e w9 ⟨rfl, hb9⟩; have hBz := Lib.hid (((Below.refl _ w).alloc (Nat.le_refl _) _).trans (hb9.mono (by simp))); obtain ⟨n0, n1, n2, n3⟩ := ((Hb.new w 42 h).later hb9).cells; clear hb9)
    go_ret
    exact ⟨ret_b X.out.symm, hBz.out⟩
  · have X := Lib.hid (Pl.may_no h1)
    simp only [decide_eq_false h1] at HM
    unfold agH at HM ⊢
    clear h1
    go_enter Try.func53, Try.ntmps53
    go_wp2_with (go_at_call 67; refine (HM.out _).mono ?_; rintro e w9 ⟨rfl, hb9⟩; have hBz := Lib.hid (((Below.refl _ w).alloc (Nat.le_refl _) _).trans (hb9.mono (by simp))); obtain ⟨n0, n1, n2, n3⟩ := ((Hb.new w 42 h).later hb9).cells; clear hb9)
    go_ret
    exact ⟨ret_b X.out.symm, hBz.out⟩
/-- a new reader -/
def PlNewR (h : Hd.H) (w : World) (e : Ending) (w' : World) : Prop :=
  ∃ b, e = .returned (.tuple #[.pointer (some ⟨b, 0, none⟩), .int .i64 0]) ∧ w.heap.size ≤ b ∧ PlX w' b (.slice none 0 0) (.slice none 0 0) (Pl.new h) ∧ Below w.heap.size w w'
theorem new_x {w : World} {b : Nat} {h : Hd.H} (hm : Pl.May h) {x : Value} (hx : x = stOf (Pl.new h)) (H : PlC w b h 0 (.slice none 0 0) (.slice none 0 0) 0 0 0 x) : PlX w b (.slice none 0 0) (.slice none 0 0) (Pl.new h) :=
  ⟨Pl.good_new hm, (fun k hk => hk.elim (fun h => by subst h; exact ⟨Nat.le_refl _, H.lt⟩) fun h => h.elim (fun h => by cases h) fun h => by cases h), 0, x, H, fun _ => ⟨rfl, hx, World.ownsRow_nil _ _ _ _, World.ownsRow_nil _ _ _ _⟩⟩
set_option maxRecDepth 100000 in
set_option maxHeartbeats 1000000 in
theorem plNew_yes (h : Hd.H) (hf : Hj.Fit h) (hm : Pl.May h) (w : World) :
    Calls Try.prog 42 #[agH h] w (PlNewR h w) := by
  have HM := Lib.hid (plMay_any h hf)
  simp only [decide_eq_true hm] at HM
  by_cases hk : h.kd = 1
  · have hx : stB = stOf (Pl.new h) := by unfold stOf; rw [if_pos (show (Pl.new h).h.kd = 1 from hk)]
    have HX := Lib.hid hx
    have hk' : (h.kd == 1) = true := by simpa using hk
    have HM' := Lib.hid hm
    unfold agH at HM ⊢
    clear hk hx hm
    go_enter Try.func42, Try.ntmps42
    go_wp2_with (go_at_call 75; refine (HM.out _).mono ?_; rintro e w9 ⟨rfl, hb9⟩; have hBz := Lib.hid (((Below.refl _ w).alloc (Nat.le_refl _) _).trans (hb9.mono (by simp))); have hz9 := Lib.hid (show w.heap.size + 1 ≤ w9.heap.size by have := hb9.size; simpa using this); obtain ⟨n0, n1, n2, n3⟩ := ((Hb.new w 51 h).later hb9).cells; have hlt : w.heap.size < w9.heap.size := (by have := hb9.size; simp at this; omega); have hne : ¬ w.heap.size = w9.heap.size := Nat.ne_of_lt hlt; clear hb9)
    go_ret2
    refine ⟨w9.heap.size, rfl, by have := hBz.out.size; omega, new_x HM'.out HX.out ?_, ?_⟩
    · exact (plain_cells w9 h (.slice none 0 0) (.slice none 0 0) 0 0 0 0 stB)
    · exact hBz.out.alloc hBz.out.size _
  · have hx : stA = stOf (Pl.new h) := by unfold stOf; rw [if_neg (show ¬ (Pl.new h).h.kd = 1 from hk)]; rfl
    have HX := Lib.hid hx
    have hk' : (h.kd == 1) = false := by simpa using hk
    have HM' := Lib.hid hm
    unfold agH at HM ⊢
    clear hk hx hm
    go_enter Try.func42, Try.ntmps42
    go_wp2_with (go_at_call 75; refine (HM.out _).mono ?_; rintro e w9 ⟨rfl, hb9⟩; have hBz := Lib.hid (((Below.refl _ w).alloc (Nat.le_refl _) _).trans (hb9.mono (by simp))); obtain ⟨n0, n1, n2, n3⟩ := ((Hb.new w 51 h).later hb9).cells; have hlt : w.heap.size < w9.heap.size := (by have := hb9.size; simp at this; omega); have hne : ¬ w.heap.size = w9.heap.size := Nat.ne_of_lt hlt; clear hb9)
    go_ret2
    refine ⟨w9.heap.size, rfl, by have := hBz.out.size; omega, new_x HM'.out HX.out ?_, ?_⟩
    · exact (plain_cells w9 h (.slice none 0 0) (.slice none 0 0) 0 0 0 0 stA)
    · exact hBz.out.alloc hBz.out.size _
set_option maxHeartbeats 1000000 in
theorem plNew_no (h : Hd.H) (hf : Hj.Fit h) (hm : ¬ Pl.May h) (w : World) :
    Calls Try.prog 42 #[agH h] w fun e w' => e = .returned (.tuple #[.pointer none, .int .i64 1]) ∧ Below w.heap.size w w' := by
  have HM := Lib.hid (plMay_any h hf)
  simp only [decide_eq_false hm] at HM
  unfold agH at HM ⊢
  clear hm
  go_enter Try.func42, Try.ntmps42
  go_wp2_with (go_at_call 75; refine (HM.out _).mono ?_; rintro e w9 ⟨rfl, hb9⟩; have hBz := Lib.hid (((Below.refl _ w).alloc (Nat.le_refl _) _).trans (hb9.mono (by simp))))
  go_ret2
  exact ⟨rfl, hBz.out⟩
end Go.Proofs.Ytldhhhmihfcalaa
