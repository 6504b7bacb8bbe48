/- The format of a head's pixels, whether its raster is raw, how many bytes that has: of head and of the document, over any memory. Condition: the head may be. -/
import Derived.Test.YtmnhiagppicegaaGreatZgAA
namespace Go.Proofs.YtmnhiagppicegaaGreat
open Go.RowKit
set_option linter.unusedVariables false

theorem Hj.chan_at (h : Hd.H) : Hj.chan h = 1 ∨ Hj.chan h = 3 := by unfold Hj.chan; split <;> simp
theorem Hj.kinds {k : Int} (h1 : 1 ≤ k) (h6 : k ≤ 6) : k = 1 ∨ k = 2 ∨ k = 3 ∨ k = 4 ∨ k = 5 ∨ k = 6 := by omega
/-- a format, as a value -/
def Hj.fm (h : Hd.H) : Value := .agg #[.int .i64 (Hj.chan h), .int .i64 h.m]
set_option maxHeartbeats 1000000 in
theorem hformat_any (h : Hd.H) (hm : Hd.May h) (w : World) :
    Calls Tryz.prog 59 #[agH h] w fun e w' => e = .returned (Hj.fm h) ∧ Below w.heap.size w w' := by
  obtain ⟨kd, ww, hh, m⟩ := h
  obtain ⟨⟨a1, a2⟩, _⟩ := hm
  unfold agH Hj.fm
  rcases Hj.kinds a1 a2 with h | h | h | h | h | h
  all_goals
    simp only at h
    subst h
    clear a1 a2
    go_enter Tryz.func59, Tryz.ntmps59
    go_wp2
    go_returns
    exact ⟨rfl, by go_grown⟩
set_option maxHeartbeats 1000000 in
theorem refFormat_any (h : Hd.H) (hm : Hd.May h) (w : World) :
    Calls Tryz.prog 70 #[agH h] w fun e w' => e = .returned (Hj.fm h) ∧ Below w.heap.size w w' := by
  obtain ⟨kd, ww, hh, m⟩ := h
  obtain ⟨⟨a1, a2⟩, _⟩ := hm
  unfold agH Hj.fm
  rcases Hj.kinds a1 a2 with h | h | h | h | h | h
  all_goals
    simp only at h
    subst h
    clear a1 a2
    go_enter Tryz.func70, Tryz.ntmps70
    go_wp2
    go_returns
    exact ⟨rfl, by go_grown⟩
set_option maxHeartbeats 1000000 in
theorem hraw_any (h : Hd.H) (hm : Hd.May h) (w : World) :
    Calls Tryz.prog 80 #[agH h] w fun e w' => e = .returned (.bool (decide (3 < h.kd))) ∧ Below w.heap.size w w' := by
  obtain ⟨kd, ww, hh, m⟩ := h
  obtain ⟨⟨a1, a2⟩, _⟩ := hm
  unfold agH
  rcases Hj.kinds a1 a2 with h | h | h | h | h | h
  all_goals
    simp only at h
    subst h
    clear a1 a2
    go_enter Tryz.func80, Tryz.ntmps80
    go_wp2
    go_ret
    exact ⟨rfl, by go_grown⟩
end Go.Proofs.YtmnhiagppicegaaGreat
