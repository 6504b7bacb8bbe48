/- Nothing is put beside what is no matrix. No condition. -/
import Derived.Test.YtldhhhmihfcalaaRecZA
import Derived.Deep.Cut
namespace Go.Proofs.Ytldhhhmihfcalaa
open Go.RowKit
set_option linter.unusedVariables false

set_option maxRecDepth 100000 in
set_option maxHeartbeats 4000000 in
theorem beside_none (Wb Hb : Int) (ab : Option Addr) (nb cb : Nat) (w : World) :
    Calls Try.prog 14 #[.agg #[.int .i64 0, .int .i64 0, .slice none 0 0], .agg #[.int .i64 Wb, .int .i64 Hb, .slice ab nb cb]] w fun e w' => e = .returned (.tuple #[.agg #[.int .i64 0, .int .i64 0, .slice none 0 0], .int .i64 1]) ∧ Below w.heap.size w w' := by
  have hMa := Lib.hid (fun W2 => may_any 0 0 none 0 0 (by omega) W2)
  rw [show Rc.mayV 0 0 0 = false from by decide] at hMa
  have hA : Sb (((w.alloc (.cells #[.int .i64 0, .int .i64 0, .slice none 0 0] 27)).alloc (.cells #[.int .i64 Wb, .int .i64 Hb, .slice ab nb cb] 27)).alloc (.cells #[.int .i64 0, .int .i64 0, .slice none 0 0] 27)) w.heap.size 27 (.int .i64 0) (.int .i64 0) (.slice none 0 0) := ((Sb.new _ _ _ _ _).alloc _).alloc _
  have hZ : Sb (((w.alloc (.cells #[.int .i64 0, .int .i64 0, .slice none 0 0] 27)).alloc (.cells #[.int .i64 Wb, .int .i64 Hb, .slice ab nb cb] 27)).alloc (.cells #[.int .i64 0, .int .i64 0, .slice none 0 0] 27)) (w.heap.size + 1 + 1) 27 (.int .i64 0) (.int .i64 0) (.slice none 0 0) := by
    have := heapNew ((w.alloc (.cells #[.int .i64 0, .int .i64 0, .slice none 0 0] 27)).alloc (.cells #[.int .i64 Wb, .int .i64 Hb, .slice ab nb cb] 27)) (.cells #[.int .i64 0, .int .i64 0, .slice none 0 0] 27)
    simp only [World.size_alloc] at this
    exact this
  have hB : Below w.heap.size w (((w.alloc (.cells #[.int .i64 0, .int .i64 0, .slice none 0 0] 27)).alloc (.cells #[.int .i64 Wb, .int .i64 Hb, .slice ab nb cb] 27)).alloc (.cells #[.int .i64 0, .int .i64 0, .slice none 0 0] 27)) := by go_grown
  have HA := Lib.hid hA; have HZ := Lib.hid hZ; have HB := Lib.hid hB
  clear hA hZ hB
  go_enter Try.func14, Try.ntmps14
  go_upto_region 1 with fail
  obtain ⟨W0, hW0⟩ : ∃ W0, (((w.alloc (.cells #[.int .i64 0, .int .i64 0, .slice none 0 0] 27)).alloc (.cells #[.int .i64 Wb, .int .i64 Hb, .slice ab nb cb] 27)).alloc (.cells #[.int .i64 0, .int .i64 0, .slice none 0 0] 27)) = W0 := ⟨_, rfl⟩
  have hs0 : W0.heap.size = w.heap.size + 3 := by rw [← hW0]; simp
  rw [hW0] at HA HZ HB ⊢
  obtain ⟨a0, a1, a2⟩ := HA.out.cells
  clear hW0
  go_wp2_with fail
  refine (hMa.out _).mono ?_
  rintro e w2 ⟨rfl, hb1⟩
  have Z2 := Lib.hid (HZ.out.later hb1); have V2 := Lib.hid (bel_step HB.out hb1)
  have hs2 := hb1.size
  clear hb1 a0 a1 a2
  obtain ⟨z0, z1, z2⟩ := Z2.out.cells
  obtain ⟨y0, y1, y2⟩ := Z2.out.fr
  go_wp2_with fail
  have R := Z2.out.put (.int .i64 0) (.int .i64 0) (.slice none 0 0)
  refine bodyPost_ret (ret_cell2 Try.results14 _ _ _ _ rfl (load_mt R)) rfl ?_
  exact ⟨rfl, ((V2.out.setCell (p := ⟨w.heap.size + 1 + 1, 0, none⟩) (by simp; omega) (.int .i64 0)).setCell (p := ⟨w.heap.size + 1 + 1, 1, none⟩) (by simp; omega) (.int .i64 0)).setCell (p := ⟨w.heap.size + 1 + 1, 2, none⟩) (by simp; omega) (.slice none 0 0)⟩
end Go.Proofs.Ytldhhhmihfcalaa
