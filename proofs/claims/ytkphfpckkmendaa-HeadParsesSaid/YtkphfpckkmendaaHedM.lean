/- Which heads may be, told by head and by the document, over any memory. Condition: numbers fit their kinds. -/
import Derived.Test.YtkphfpckkmendaaHedJ
import Derived.Test.YtkphfpckkmendaaHedC
namespace Go.Proofs.Ytkphfpckkmendaa
open Go.RowKit
set_option linter.unusedVariables false

theorem Hj.ret_d {p : Prop} [Decidable p] {b : Bool} (h : decide p = b) : Ending.returned (.bool b) = .returned (.bool (decide p)) := by rw [h]
set_option maxHeartbeats 2000000 in
theorem refMay_any (h : Hd.H) (hf : Hj.Fit h) (w : World) :
    Calls Try.prog 18 #[agH h] w fun e w' => e = .returned (.bool (decide (Hd.May h))) ∧ Below w.heap.size w w' := by
  obtain ⟨kd, ww, hh, m⟩ := h
  have HB := Lib.hid (bits_any kd)
  unfold agH
  by_cases a1 : kd < 1
  · have X := Lib.hid (show decide (Hd.May ⟨kd, ww, hh, m⟩) = false from decide_eq_false (fun h => by have := h.1.1; simp only at this; omega))
    go_enter Try.func18, Try.ntmps18
    go_wp2
    go_ret
    exact ⟨Hj.ret_d X.out, by go_grown⟩
  by_cases a2 : 6 < kd
  · have X := Lib.hid (show decide (Hd.May ⟨kd, ww, hh, m⟩) = false from decide_eq_false (fun h => by have := h.1.2; simp only at this; omega))
    go_enter Try.func18, Try.ntmps18
    go_wp2
    go_ret
    exact ⟨Hj.ret_d X.out, by go_grown⟩
  by_cases b1 : ww < 1
  · have X := Lib.hid (show decide (Hd.May ⟨kd, ww, hh, m⟩) = false from decide_eq_false (fun h => by have := h.2.1.1; simp only at this; omega))
    go_enter Try.func18, Try.ntmps18
    go_wp2
    go_ret
    exact ⟨Hj.ret_d X.out, by go_grown⟩
  by_cases b2 : 4096 < ww
  · have X := Lib.hid (show decide (Hd.May ⟨kd, ww, hh, m⟩) = false from decide_eq_false (fun h => by have := h.2.1.2; simp only at this; omega))
    go_enter Try.func18, Try.ntmps18
    go_wp2
    go_ret
    exact ⟨Hj.ret_d X.out, by go_grown⟩
  by_cases c1 : hh < 1
  · have X := Lib.hid (show decide (Hd.May ⟨kd, ww, hh, m⟩) = false from decide_eq_false (fun h => by have := h.2.2.1.1; simp only at this; omega))
    go_enter Try.func18, Try.ntmps18
    go_wp2
    go_ret
    exact ⟨Hj.ret_d X.out, by go_grown⟩
  by_cases c2 : 65536 < hh
  · have X := Lib.hid (show decide (Hd.May ⟨kd, ww, hh, m⟩) = false from decide_eq_false (fun h => by have := h.2.2.1.2; simp only at this; omega))
    go_enter Try.func18, Try.ntmps18
    go_wp2
    go_ret
    exact ⟨Hj.ret_d X.out, by go_grown⟩
  by_cases d1 : m < 1
  · have X := Lib.hid (show decide (Hd.May ⟨kd, ww, hh, m⟩) = false from decide_eq_false (fun h => by have := h.2.2.2.1.1; simp only at this; omega))
    go_enter Try.func18, Try.ntmps18
    go_wp2
    go_ret
    exact ⟨Hj.ret_d X.out, by go_grown⟩
  by_cases d2 : 65535 < m
  · have X := Lib.hid (show decide (Hd.May ⟨kd, ww, hh, m⟩) = false from decide_eq_false (fun h => by have := h.2.2.2.1.2; simp only at this; omega))
    go_enter Try.func18, Try.ntmps18
    go_wp2
    go_ret
    exact ⟨Hj.ret_d X.out, by go_grown⟩
  by_cases e1 : m = 1
  · subst e1
    have X := Lib.hid (show decide (Hd.May ⟨kd, ww, hh, 1⟩) = true from decide_eq_true ⟨⟨by simp only []; omega, by simp only []; omega⟩, ⟨by simp only []; omega, by simp only []; omega⟩, ⟨by simp only []; omega, by simp only []; omega⟩, ⟨by simp, by simp⟩, fun _ => rfl⟩)
    go_enter Try.func18, Try.ntmps18
    go_wp2
    go_ret
    exact ⟨Hj.ret_d X.out, by go_grown⟩
  · have k1 : (m == 1) = false := by simpa using e1
    obtain ⟨g, hg⟩ : ∃ g, Hd.bits kd = g := ⟨_, rfl⟩
    have X : Hid (decide (Hd.May ⟨kd, ww, hh, m⟩) = !g) := by
      show _ = _
      cases g with
      | true => exact decide_eq_false (fun h => e1 (h.2.2.2.2 hg))
      | false => exact decide_eq_true ⟨⟨by simp only []; omega, by simp only []; omega⟩, ⟨by simp only []; omega, by simp only []; omega⟩, ⟨by simp only []; omega, by simp only []; omega⟩, ⟨by simp only []; omega, by simp only []; omega⟩, fun h => absurd (hg.symm.trans h) (by decide)⟩
    rw [hg] at HB
    go_enter Try.func18, Try.ntmps18
    go_wp2_with (go_at_call 19; refine (HB.out _).mono ?_; rintro e w9 ⟨rfl, rfl⟩)
    go_ret
    exact ⟨Hj.ret_d X.out, by go_grown⟩
end Go.Proofs.Ytkphfpckkmendaa
