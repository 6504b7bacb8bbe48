/- HeadSizes: the format of a head's pixels, and how many bytes its raster has, is the document's: the walk of the law. No condition. -/
import Derived.Test.YtnbppkiiccbagaaHedO
namespace Go.Proofs.Ytnbppkiiccbagaa
open Go.RowKit
set_option linter.unusedVariables false

set_option maxRecDepth 100000 in
set_option maxHeartbeats 8000000 in
theorem headSizes_walk (a0k0 a0w1 a0h2 a0m3 : Int) (w : World) (w00 : (Lit.int .i64 a0k0).wf = true) (w01 : (Lit.int .i64 a0w1).wf = true) (w02 : (Lit.int .i64 a0h2).wf = true) (w03 : (Lit.int .i64 a0m3).wf = true) :
    Calls Try.prog 8 #[.agg #[.int .i64 a0k0, .int .i64 a0w1, .int .i64 a0h2, .int .i64 a0m3]] w fun e w' => e = .returned (.bool true) ∧ Below w.heap.size w w' := by
  have HF : Hj.Fit ⟨a0k0, a0w1, a0h2, a0m3⟩ := ⟨wfI w00, wfI w01, wfI w02, wfI w03⟩
  have HGD := Lib.hid (hgood_any _ HF)
  have hM := Hj.may_good ⟨a0k0, a0w1, a0h2, a0m3⟩
  generalize Hj.good ⟨a0k0, a0w1, a0h2, a0m3⟩ = G at HGD hM
  have HOF := Lib.hid (hof_any G)
  have HFM := Lib.hid (hformat_any G hM)
  have HRF := Lib.hid (refFormat_any G hM)
  have HSZ := Lib.hid (hsize_any G hM)
  have HRS := Lib.hid (refSize_any G hM)
  have HRW := Lib.hid (hraw_any G hM)
  obtain ⟨z, hz⟩ : ∃ z, Hj.size G = z := ⟨_, rfl⟩
  rw [hz] at HSZ HRS
  unfold Hj.fm at HFM HRF
  generalize Hj.chan G = c at HFM HRF
  obtain ⟨kd, ww, hh, m⟩ := G
  unfold agH at HGD HOF HFM HRF HSZ HRS HRW
  simp only at HFM HRF HRW
  have hq := feq_self c m
  have hqg := feq_guard
  clear hz hM HF w00 w01 w02 w03
  have hBt : Below w.heap.size w w := .refl _ _
  go_enter Try.func8, Try.ntmps8
  go_wp2_with fail
  refine (HGD.out _).mono ?_
  rintro e w1 ⟨rfl, hb1⟩
  have hB1 : Below w.heap.size w w1 := (hBt.alloc (Nat.le_refl _) (.cells #[.int .i64 a0k0, .int .i64 a0w1, .int .i64 a0h2, .int .i64 a0m3] 50)).trans (hb1.mono (by simp))
  have hG1 := Hb.new w1 50 ⟨kd, ww, hh, m⟩
  have hz1 := hB1.size
  go_wp2_with fail
  refine (HOF.out _).mono ?_
  rintro e w2 ⟨rfl, hb2⟩
  have hB2 := (hB1.alloc hz1 (.cells #[.int .i64 kd, .int .i64 ww, .int .i64 hh, .int .i64 m] 50)).trans (hb2.mono (by simp; exact Nat.le_succ_of_le hz1))
  have hG2 := hG1.later hb2
  clear hb1 hb2 hG1 hz1
  go_wp2_with fail
  refine (HFM.out _).mono ?_
  rintro e w3 ⟨rfl, hb3⟩
  have hB3 := hB2.trans (hb3.mono hB2.size)
  have hG3 := hG2.later hb3
  clear hb3 hG2 hB2 hB1 hBt
  obtain ⟨W, hW⟩ : ∃ W, w3.alloc (Obj.cells #[Value.int IntKind.i64 c, Value.int IntKind.i64 m] 81) = W := ⟨_, rfl⟩
  have hBW : Below w3.heap.size w3 W := by rw [← hW]; exact (Below.refl _ _).alloc (Nat.le_refl _) _
  have l0 : W.cell? ⟨w3.heap.size, 0, none⟩ = some (.int .i64 c) := by rw [← hW]; simp [go_sem]
  have l1 : W.cell? ⟨w3.heap.size, 1, none⟩ = some (.int .i64 m) := by rw [← hW]; simp [go_sem]
  obtain ⟨n0, n1, n2, n3⟩ := (hG3.later hBW).cells
  simp only at n0 n1 n2 n3
  have HB := Lib.hid (hB3.trans (hBW.mono hB3.size))
  have hBr : Below W.heap.size W W := .refl _ _
  go_wp2_with fail
  try rw [hW]
  clear hW hBW hB3 hG3
  go_region_held3 (fun w' => w'.cell? ⟨w1.heap.size, 0, none⟩ = some (.int .i64 kd) ∧ w'.cell? ⟨w1.heap.size, 1, none⟩ = some (.int .i64 ww) ∧ w'.cell? ⟨w1.heap.size, 2, none⟩ = some (.int .i64 hh) ∧ w'.cell? ⟨w1.heap.size, 3, none⟩ = some (.int .i64 m) ∧ w'.cell? ⟨w3.heap.size, 0, none⟩ = some (.int .i64 c) ∧ w'.cell? ⟨w3.heap.size, 1, none⟩ = some (.int .i64 m))
    (first | exact ⟨n0, n1, n2, n3, l0, l1⟩ | exact ⟨cell_later hBr n0, cell_later hBr n1, cell_later hBr n2, cell_later hBr n3, cell_later hBr l0, cell_later hBr l1⟩)
    (first
      | (go_at_call 48; refine (HRF.out _).mono ?_; rintro e w8 ⟨rfl, hb8⟩; replace hBr := bel_step (w := W) (by first | exact hBr | exact hBr.drew) hb8)
      | (go_at_call 44; refine (HOF.out _).mono ?_; rintro e w8 ⟨rfl, hb8⟩; replace hBr := bel_step (w := W) (by first | exact hBr | exact hBr.drew) hb8)
      | (go_at_call 49; refine (HSZ.out _).mono ?_; rintro e w8 ⟨rfl, hb8⟩; replace hBr := bel_step (w := W) (by first | exact hBr | exact hBr.drew) hb8)
      | (go_at_call 50; refine (HRS.out _).mono ?_; rintro e w8 ⟨rfl, hb8⟩; replace hBr := bel_step (w := W) (by first | exact hBr | exact hBr.drew) hb8)
      | (go_at_call 51; refine (HRW.out _).mono ?_; rintro e w8 ⟨rfl, hb8⟩; replace hBr := bel_step (w := W) (by first | exact hBr | exact hBr.drew) hb8)
      | (go_at_call 52; refine (greatest_any _).mono ?_; rintro e w8 ⟨rfl, hb8⟩; replace hBr := bel_step (w := W) (by first | exact hBr | exact hBr.drew) hb8)
      | (go_at_call 33; refine (lives6_any _).mono ?_; rintro e w8 ⟨rfl, hb8⟩; replace hBr := bel_step (w := W) (by first | exact hBr | exact hBr.drew) hb8))
  all_goals
    go_wp2
    go_ret
    exact ⟨rfl, HB.out.trans (hBr.mono HB.out.size)⟩
end Go.Proofs.Ytnbppkiiccbagaa
