/- Which heads may be, told by head, over any memory. Condition: numbers fit their kinds. -/
import Derived.Test.YtkphfpckkmendaaHedM
import Derived.Test.YtkphfpckkmendaaHedQ
namespace Go.Proofs.Ytkphfpckkmendaa
open Go.RowKit
set_option linter.unusedVariables false

theorem Hd.lim_self {n hi : Int} (h : 1 ≤ hi) : Hd.lim n hi = n ↔ 1 ≤ n ∧ n ≤ hi := by
  unfold Hd.lim; split
  · constructor <;> intro h <;> omega
  · split
    · constructor <;> intro h <;> omega
    · constructor <;> intro h <;> omega
theorem Hj.may_eq {kd w h m : Int} : decide (Hd.May ⟨kd, w, h, m⟩) = (((kd == Hd.lim kd 6) && (w == Hd.lim w 4096)) && (h == Hd.lim h 65536) && (m == Hd.lim m (if Hd.bits kd = true then 1 else 65535))) := by
  have e1 := Hd.lim_self (n := kd) (hi := 6) (by omega)
  have e2 := Hd.lim_self (n := w) (hi := 4096) (by omega)
  have e3 := Hd.lim_self (n := h) (hi := 65536) (by omega)
  have e4 := Hd.lim_self (n := m) (hi := if Hd.bits kd = true then 1 else 65535) (by split <;> omega)
  rw [Bool.eq_iff_iff]
  simp only [decide_eq_true_eq, Bool.and_eq_true, beq_iff_eq]
  rw [eq_comm (a := kd), eq_comm (a := w), eq_comm (a := h), eq_comm (a := m), e1, e2, e3, e4]
  unfold Hd.May
  simp only []
  constructor
  · rintro ⟨h1, h2, h3, h4, h5⟩
    refine ⟨⟨⟨h1, h2⟩, h3⟩, h4.1, ?_⟩
    split
    · rename_i hb; rw [h5 hb]; omega
    · exact h4.2
  · rintro ⟨⟨⟨h1, h2⟩, h3⟩, h4, h5⟩
    refine ⟨h1, h2, h3, ⟨h4, ?_⟩, fun hb => ?_⟩
    · split at h5 <;> omega
    · rw [if_pos hb] at h5; omega
end Go.Proofs.Ytkphfpckkmendaa
