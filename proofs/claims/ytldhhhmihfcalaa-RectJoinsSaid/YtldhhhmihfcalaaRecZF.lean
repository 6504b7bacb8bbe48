/- Two matrices that do not go together, by the document. Condition: both may be. -/
import Derived.Test.YtldhhhmihfcalaaRecZD
import Derived.Test.YtldhhhmihfcalaaRecX
import Derived.Deep.Cut
namespace Go.Proofs.Ytldhhhmihfcalaa
open Go.RowKit
set_option linter.unusedVariables false

set_option maxRecDepth 100000 in
set_option maxHeartbeats 4000000 in
theorem refAbove_no (Wa Ha Wb Hb : Int) (aa ab : Option Addr) (ca cb : Nat) (La Lb : List Int) (ha : Rc.Ok Wa Ha La) (hb : Rc.Ok Wb Hb Lb) (heq : ¬ Wa = Wb) (w : World) :
    Calls Try.prog 18 #[.agg #[.int .i64 Wa, .int .i64 Ha, .slice aa La.length ca], .agg #[.int .i64 Wb, .int .i64 Hb, .slice ab Lb.length cb]] w fun e w' =>
      e = .returned (.tuple #[.agg #[.int .i64 0, .int .i64 0, .slice none 0 0], .int .i64 1]) ∧ Below w.heap.size w w' := by
  have hna := ok_len ha; have hnb := ok_len hb
  have hMa := Lib.hid (fun W2 => refMay_any Wa Ha aa La.length ca (by omega) W2)
  have hMb := Lib.hid (fun W2 => refMay_any Wb Hb ab Lb.length cb (by omega) W2)
  rw [Rc.ok_may ha] at hMa
  rw [Rc.ok_may hb] at hMb
  have hne : (Wa != Wb) = true := by simp; exact heq
  generalize La.length = na at hMa ⊢
  generalize Lb.length = nb at hMb ⊢
  clear ha hb hna hnb
  have hA : Sb (((w.alloc (.cells #[.int .i64 Wa, .int .i64 Ha, .slice aa na ca] 24)).alloc (.cells #[.int .i64 Wb, .int .i64 Hb, .slice ab nb cb] 24)).alloc (.cells #[.int .i64 0, .int .i64 0, .slice none 0 0] 24)) w.heap.size 24 (.int .i64 Wa) (.int .i64 Ha) (.slice aa na ca) := ((Sb.new _ _ _ _ _).alloc _).alloc _
  have hBm : Sb (((w.alloc (.cells #[.int .i64 Wa, .int .i64 Ha, .slice aa na ca] 24)).alloc (.cells #[.int .i64 Wb, .int .i64 Hb, .slice ab nb cb] 24)).alloc (.cells #[.int .i64 0, .int .i64 0, .slice none 0 0] 24)) (w.heap.size + 1) 24 (.int .i64 Wb) (.int .i64 Hb) (.slice ab nb cb) := Sb.alloc (by simpa using Sb.new (w.alloc (.cells #[.int .i64 Wa, .int .i64 Ha, .slice aa na ca] 24)) 24 (.int .i64 Wb) (.int .i64 Hb) (.slice ab nb cb)) _
  have hZ : Sb (((w.alloc (.cells #[.int .i64 Wa, .int .i64 Ha, .slice aa na ca] 24)).alloc (.cells #[.int .i64 Wb, .int .i64 Hb, .slice ab nb cb] 24)).alloc (.cells #[.int .i64 0, .int .i64 0, .slice none 0 0] 24)) (w.heap.size + 1 + 1) 24 (.int .i64 0) (.int .i64 0) (.slice none 0 0) := by
    have := heapNew ((w.alloc (.cells #[.int .i64 Wa, .int .i64 Ha, .slice aa na ca] 24)).alloc (.cells #[.int .i64 Wb, .int .i64 Hb, .slice ab nb cb] 24)) (.cells #[.int .i64 0, .int .i64 0, .slice none 0 0] 24)
    simp only [World.size_alloc] at this
    exact this
  have hB : Below w.heap.size w (((w.alloc (.cells #[.int .i64 Wa, .int .i64 Ha, .slice aa na ca] 24)).alloc (.cells #[.int .i64 Wb, .int .i64 Hb, .slice ab nb cb] 24)).alloc (.cells #[.int .i64 0, .int .i64 0, .slice none 0 0] 24)) := by go_grown
  have HA := Lib.hid hA; have HBm := Lib.hid hBm; have HZ := Lib.hid hZ; have HB := Lib.hid hB
  clear hA hBm hZ hB
  go_enter Try.func18, Try.ntmps18
  go_upto_region 1 with fail
  obtain ⟨W0, hW0⟩ : ∃ W0, (((w.alloc (.cells #[.int .i64 Wa, .int .i64 Ha, .slice aa na ca] 24)).alloc (.cells #[.int .i64 Wb, .int .i64 Hb, .slice ab nb cb] 24)).alloc (.cells #[.int .i64 0, .int .i64 0, .slice none 0 0] 24)) = W0 := ⟨_, rfl⟩
  have hs0 : W0.heap.size = w.heap.size + 3 := by rw [← hW0]; simp
  rw [hW0] at HA HBm HZ HB ⊢
  obtain ⟨a0, a1, a2⟩ := HA.out.cells
  clear hW0
  go_wp2_with fail
  refine (hMa.out _).mono ?_
  rintro e w1 ⟨rfl, hb1⟩
  have A1 := Lib.hid (HA.out.later hb1); have B1 := Lib.hid (HBm.out.later hb1); have Z1 := Lib.hid (HZ.out.later hb1); have V1 := Lib.hid (bel_step HB.out hb1)
  have hs1 := hb1.size
  obtain ⟨b0, b1, b2⟩ := B1.out.cells
  clear hb1 a0 a1 a2
  go_wp2_with fail
  refine (hMb.out _).mono ?_
  rintro e w2 ⟨rfl, hb2⟩
  have A2 := Lib.hid (A1.out.later hb2); have B2 := Lib.hid (B1.out.later hb2); have Z2 := Lib.hid (Z1.out.later hb2); have V2 := Lib.hid (bel_step V1.out hb2)
  have hs2 := hb2.size
  obtain ⟨a0, a1, a2⟩ := A2.out.cells
  clear hb2 b0 b1 b2
  obtain ⟨b0, b1, b2⟩ := B2.out.cells
  obtain ⟨z0, z1, z2⟩ := Z2.out.cells
  obtain ⟨y0, y1, y2⟩ := Z2.out.fr
  go_wp2_with fail
  have R := Z2.out.put (.int .i64 0) (.int .i64 0) (.slice none 0 0)
  refine bodyPost_ret (ret_cell2 Try.results18 _ _ _ _ rfl (load_m R)) rfl ?_
  exact ⟨rfl, ((V2.out.setCell (p := ⟨w.heap.size + 1 + 1, 0, none⟩) (by simp; omega) (.int .i64 0)).setCell (p := ⟨w.heap.size + 1 + 1, 1, none⟩) (by simp; omega) (.int .i64 0)).setCell (p := ⟨w.heap.size + 1 + 1, 2, none⟩) (by simp; omega) (.slice none 0 0)⟩
set_option maxRecDepth 100000 in
set_option maxHeartbeats 4000000 in
theorem refBeside_no (Wa Ha Wb Hb : Int) (aa ab : Option Addr) (ca cb : Nat) (La Lb : List Int) (ha : Rc.Ok Wa Ha La) (hb : Rc.Ok Wb Hb Lb) (heq : ¬ Ha = Hb) (w : World) :
    Calls Try.prog 16 #[.agg #[.int .i64 Wa, .int .i64 Ha, .slice aa La.length ca], .agg #[.int .i64 Wb, .int .i64 Hb, .slice ab Lb.length cb]] w fun e w' =>
      e = .returned (.tuple #[.agg #[.int .i64 0, .int .i64 0, .slice none 0 0], .int .i64 1]) ∧ Below w.heap.size w w' := by
  have hna := ok_len ha; have hnb := ok_len hb
  have hMa := Lib.hid (fun W2 => refMay_any Wa Ha aa La.length ca (by omega) W2)
  have hMb := Lib.hid (fun W2 => refMay_any Wb Hb ab Lb.length cb (by omega) W2)
  rw [Rc.ok_may ha] at hMa
  rw [Rc.ok_may hb] at hMb
  have hne : (Ha != Hb) = true := by simp; exact heq
  generalize La.length = na at hMa ⊢
  generalize Lb.length = nb at hMb ⊢
  clear ha hb hna hnb
  have hA : Sb (((w.alloc (.cells #[.int .i64 Wa, .int .i64 Ha, .slice aa na ca] 24)).alloc (.cells #[.int .i64 Wb, .int .i64 Hb, .slice ab nb cb] 24)).alloc (.cells #[.int .i64 0, .int .i64 0, .slice none 0 0] 24)) w.heap.size 24 (.int .i64 Wa) (.int .i64 Ha) (.slice aa na ca) := ((Sb.new _ _ _ _ _).alloc _).alloc _
  have hBm : Sb (((w.alloc (.cells #[.int .i64 Wa, .int .i64 Ha, .slice aa na ca] 24)).alloc (.cells #[.int .i64 Wb, .int .i64 Hb, .slice ab nb cb] 24)).alloc (.cells #[.int .i64 0, .int .i64 0, .slice none 0 0] 24)) (w.heap.size + 1) 24 (.int .i64 Wb) (.int .i64 Hb) (.slice ab nb cb) := Sb.alloc (by simpa using Sb.new (w.alloc (.cells #[.int .i64 Wa, .int .i64 Ha, .slice aa na ca] 24)) 24 (.int .i64 Wb) (.int .i64 Hb) (.slice ab nb cb)) _
  have hZ : Sb (((w.alloc (.cells #[.int .i64 Wa, .int .i64 Ha, .slice aa na ca] 24)).alloc (.cells #[.int .i64 Wb, .int .i64 Hb, .slice ab nb cb] 24)).alloc (.cells #[.int .i64 0, .int .i64 0, .slice none 0 0] 24)) (w.heap.size + 1 + 1) 24 (.int .i64 0) (.int .i64 0) (.slice none 0 0) := by
    have := heapNew ((w.alloc (.cells #[.int .i64 Wa, .int .i64 Ha, .slice aa na ca] 24)).alloc (.cells #[.int .i64 Wb, .int .i64 Hb, .slice ab nb cb] 24)) (.cells #[.int .i64 0, .int .i64 0, .slice none 0 0] 24)
    simp only [World.size_alloc] at this
    exact this
  have hB : Below w.heap.size w (((w.alloc (.cells #[.int .i64 Wa, .int .i64 Ha, .slice aa na ca] 24)).alloc (.cells #[.int .i64 Wb, .int .i64 Hb, .slice ab nb cb] 24)).alloc (.cells #[.int .i64 0, .int .i64 0, .slice none 0 0] 24)) := by go_grown
  have HA := Lib.hid hA; have HBm := Lib.hid hBm; have HZ := Lib.hid hZ; have HB := Lib.hid hB
  clear hA hBm hZ hB
  go_enter Try.func16, Try.ntmps16
  go_upto_region 1 with fail
  obtain ⟨W0, hW0⟩ : ∃ W0, (((w.alloc (.cells #[.int .i64 Wa, .int .i64 Ha, .slice aa na ca] 24)).alloc (.cells #[.int .i64 Wb, .int .i64 Hb, .slice ab nb cb] 24)).alloc (.cells #[.int .i64 0, .int .i64 0, .slice none 0 0] 24)) = W0 := ⟨_, rfl⟩
  have hs0 : W0.heap.size = w.heap.size + 3 := by rw [← hW0]; simp
  rw [hW0] at HA HBm HZ HB ⊢
  obtain ⟨a0, a1, a2⟩ := HA.out.cells
  clear hW0
  go_wp2_with fail
  refine (hMa.out _).mono ?_
  rintro e w1 ⟨rfl, hb1⟩
  have A1 := Lib.hid (HA.out.later hb1); have B1 := Lib.hid (HBm.out.later hb1); have Z1 := Lib.hid (HZ.out.later hb1); have V1 := Lib.hid (bel_step HB.out hb1)
  have hs1 := hb1.size
  obtain ⟨b0, b1, b2⟩ := B1.out.cells
  clear hb1 a0 a1 a2
  go_wp2_with fail
  refine (hMb.out _).mono ?_
  rintro e w2 ⟨rfl, hb2⟩
  have A2 := Lib.hid (A1.out.later hb2); have B2 := Lib.hid (B1.out.later hb2); have Z2 := Lib.hid (Z1.out.later hb2); have V2 := Lib.hid (bel_step V1.out hb2)
  have hs2 := hb2.size
  obtain ⟨a0, a1, a2⟩ := A2.out.cells
  clear hb2 b0 b1 b2
  obtain ⟨b0, b1, b2⟩ := B2.out.cells
  obtain ⟨z0, z1, z2⟩ := Z2.out.cells
  obtain ⟨y0, y1, y2⟩ := Z2.out.fr
  go_wp2_with fail
  have R := Z2.out.put (.int .i64 0) (.int .i64 0) (.slice none 0 0)
  refine bodyPost_ret (ret_cell2 Try.results16 _ _ _ _ rfl (load_m R)) rfl ?_
  exact ⟨rfl, ((V2.out.setCell (p := ⟨w.heap.size + 1 + 1, 0, none⟩) (by simp; omega) (.int .i64 0)).setCell (p := ⟨w.heap.size + 1 + 1, 1, none⟩) (by simp; omega) (.int .i64 0)).setCell (p := ⟨w.heap.size + 1 + 1, 2, none⟩) (by simp; omega) (.slice none 0 0)⟩
end Go.Proofs.Ytldhhhmihfcalaa
