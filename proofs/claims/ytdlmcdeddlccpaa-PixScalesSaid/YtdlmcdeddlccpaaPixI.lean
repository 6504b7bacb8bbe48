/- Dark for light: what Turned comes to, over any memory, of pix and of the document's own answer. Condition: numbers fit their kinds. -/
import Derived.Test.YtdlmcdeddlccpaaPixF
import Derived.Test.YtdlmcdeddlccpaaPixD
import Derived.Test.YtdlmcdeddlccpaaPixH
namespace Go.Proofs.Ytdlmcdeddlccpaa
open Go.RowKit
set_option linter.unusedVariables false

theorem bt {w a b : World} (h : Below w.heap.size w a) (k : Below a.heap.size a b) : Below w.heap.size w b := h.trans (k.mono h.size)
theorem turned_p3 (p a b d c m : Int) (h : Px.Is3 p a b d) (hf : Px.fitsV p c m = true) (w : World) :
    Calls Try.prog 27 #[.int .u64 p, .agg #[.int .i64 c, .int .i64 m]] w fun e w' => e = .returned (.tuple #[.int .u64 (Px.turnedV p c m).1, .int .i64 (Px.turnedV p c m).2]) ∧ Below w.heap.size w w' := by
  have X := Lib.hid (Px.turned3 h hf)
  obtain ⟨rfl, la, lb, ld, m0, m1⟩ := Px.fits3_get h hf
  have H := Lib.hid h
  obtain ⟨-, a0, -, b0, -, d0, -⟩ := h
  go_enter Try.func27, Try.ntmps27
  go_wp2_with fail
  refine (fits_any p _ _ (isU3 H.out) _).mono ?_
  rw [hf]
  rintro e w1 ⟨rfl, hb1⟩
  have d1 : w1.cell? ⟨w.heap.size, 1, none⟩ = some (.int .i64 m) := cell_later hb1 (by simp [go_sem])
  have hb2 := box_below w _ _ hb1
  clear hb1
  go_wp2_with fail
  refine (each_turned3 p a b d m _ H.out a0 b0 d0 la lb ld m1 _ d1).mono ?_
  rintro e w2 ⟨rfl, hb3⟩
  have hb4 := bt hb2 hb3
  clear hb3
  go_wp2_with fail
  go_ret2
  exact ⟨ret_pack X.out.symm, hb4⟩
theorem turned_p1 (p a c m : Int) (h : Px.Is1 p a) (hf : Px.fitsV p c m = true) (w : World) :
    Calls Try.prog 27 #[.int .u64 p, .agg #[.int .i64 c, .int .i64 m]] w fun e w' => e = .returned (.tuple #[.int .u64 (Px.turnedV p c m).1, .int .i64 (Px.turnedV p c m).2]) ∧ Below w.heap.size w w' := by
  have X := Lib.hid (Px.turned1 h hf)
  obtain ⟨rfl, la, m0, m1⟩ := Px.fits1_get h hf
  have H := Lib.hid h
  obtain ⟨-, a0, -⟩ := h
  go_enter Try.func27, Try.ntmps27
  go_wp2_with fail
  refine (fits_any p _ _ (isU1 H.out) _).mono ?_
  rw [hf]
  rintro e w1 ⟨rfl, hb1⟩
  have d1 : w1.cell? ⟨w.heap.size, 1, none⟩ = some (.int .i64 m) := cell_later hb1 (by simp [go_sem])
  have hb2 := box_below w _ _ hb1
  clear hb1
  go_wp2_with fail
  refine (each_turned1 p a m _ H.out a0 la m1 _ d1).mono ?_
  rintro e w2 ⟨rfl, hb3⟩
  have hb4 := bt hb2 hb3
  clear hb3
  go_wp2_with fail
  go_ret2
  exact ⟨ret_pack X.out.symm, hb4⟩
theorem turned_any (p c m : Int) (hU : Px.U p) (w : World) :
    Calls Try.prog 27 #[.int .u64 p, .agg #[.int .i64 c, .int .i64 m]] w fun e w' => e = .returned (.tuple #[.int .u64 (Px.turnedV p c m).1, .int .i64 (Px.turnedV p c m).2]) ∧ Below w.heap.size w w' := by
  cases hf : Px.fitsV p c m
  · have X := Lib.hid (Px.turned_no hf)
    go_enter Try.func27, Try.ntmps27
    go_wp2_with fail
    refine (fits_any p _ _ hU _).mono ?_
    rw [hf]
    rintro e w1 ⟨rfl, hb1⟩
    have hb2 := box_below w _ _ hb1
    clear hb1
    go_wp2_with fail
    go_ret2
    exact ⟨ret_pack X.out.symm, hb2⟩
  · rcases Px.tri hU with ⟨a, b, d, h⟩ | ⟨a, h⟩ | h
    · exact turned_p3 p a b d c m h hf w
    · exact turned_p1 p a c m h hf w
    · exact (Px.fits0_no h hf).elim

set_option maxHeartbeats 1000000 in
theorem refTurned_p3 (p a b d c m : Int) (h : Px.Is3 p a b d) (hf : Px.fitsV p c m = true) (w : World) :
    Calls Try.prog 28 #[.int .u64 p, .agg #[.int .i64 c, .int .i64 m]] w fun e w' => e = .returned (.tuple #[.int .u64 (Px.turnedV p c m).1, .int .i64 (Px.turnedV p c m).2]) ∧ Below w.heap.size w w' := by
  have X := Lib.hid (Px.turned3 h hf)
  obtain ⟨rfl, la, lb, ld, m0, m1⟩ := Px.fits3_get h hf
  have H := Lib.hid h
  obtain ⟨-, a0, -, b0, -, d0, -⟩ := h
  have XV := Lib.hid (show Px.packV [m - a, m - b, m - d] = (844424930131968 + (m - a) * 4294967296 + (m - b) * 65536 + (m - d), 0) from Px.packV3 (by omega) (by omega) (by omega) (by omega) (by omega) (by omega))
  go_enter Try.func28, Try.ntmps28
  go_wp2_with fail
  refine (refFits_any p _ _ (isU3 H.out) _).mono ?_
  rw [hf]
  rintro e w1 ⟨rfl, hb1⟩
  have d1 : w1.cell? ⟨w.heap.size, 1, none⟩ = some (.int .i64 m) := cell_later hb1 (by simp [go_sem])
  have hz1 : w.heap.size < w1.heap.size := by have := hb1.size; simp at this; omega
  have hb2 := box_below w _ _ hb1
  clear hb1
  go_wp2_with fail
  refine (refUnpack3 p a b d H.out _).mono ?_
  rintro e w2 ⟨g, cap, rfl, ⟨hg0, hg1, c0, c1, c2, f0, f1, f2⟩, hb3⟩
  have d2 : w2.cell? ⟨w.heap.size, 1, none⟩ = some (.int .i64 m) := cell_later hb3 d1
  have hb4 := bt hb2 hb3
  have hne : w.heap.size < g := by omega
  have hne2 : w.heap.size ≠ g := by omega
  have hne3 : g ≠ w.heap.size := by omega
  clear hb3 hb2 d1
  go_wp2
  refine wp_loop_rounds 4 ?_
  rw [rounds_succ]
  go_wp2
  go_region
  go_wp2
  rw [rounds_succ]
  go_wp2
  go_region
  go_wp2
  rw [rounds_succ]
  go_wp2
  go_region
  go_wp2
  rw [rounds_succ]
  go_wp2_with (go_at_call 11; refine (refPack_any _ _ _ [m - a, m - b, m - d] _ (by omega) ?_).mono ?_; (exact sl3 (by simp [go_sem, c0]) (by simp [go_sem, c1]) (by simp [go_sem, c2])); rw [XV.out]; rintro e w9 ⟨rfl, rfl⟩)
  go_ret2
  exact ⟨ret_pack X.out.symm, by repeat (first | exact hb4 | apply Below.drew | refine Below.setCell ?_ (Nat.le_of_lt hne) _)⟩
set_option maxHeartbeats 1000000 in
theorem refTurned_p1 (p a c m : Int) (h : Px.Is1 p a) (hf : Px.fitsV p c m = true) (w : World) :
    Calls Try.prog 28 #[.int .u64 p, .agg #[.int .i64 c, .int .i64 m]] w fun e w' => e = .returned (.tuple #[.int .u64 (Px.turnedV p c m).1, .int .i64 (Px.turnedV p c m).2]) ∧ Below w.heap.size w w' := by
  have X := Lib.hid (Px.turned1 h hf)
  obtain ⟨rfl, la, m0, m1⟩ := Px.fits1_get h hf
  have H := Lib.hid h
  obtain ⟨-, a0, -⟩ := h
  have XV := Lib.hid (show Px.packV [m - a] = (281474976710656 + (m - a), 0) from Px.packV1 (by omega) (by omega))
  go_enter Try.func28, Try.ntmps28
  go_wp2_with fail
  refine (refFits_any p _ _ (isU1 H.out) _).mono ?_
  rw [hf]
  rintro e w1 ⟨rfl, hb1⟩
  have d1 : w1.cell? ⟨w.heap.size, 1, none⟩ = some (.int .i64 m) := cell_later hb1 (by simp [go_sem])
  have hz1 : w.heap.size < w1.heap.size := by have := hb1.size; simp at this; omega
  have hb2 := box_below w _ _ hb1
  clear hb1
  go_wp2_with fail
  refine (refUnpack1 p a H.out _).mono ?_
  rintro e w2 ⟨g, cap, rfl, ⟨hg0, hg1, c0, f0⟩, hb3⟩
  have d2 : w2.cell? ⟨w.heap.size, 1, none⟩ = some (.int .i64 m) := cell_later hb3 d1
  have hb4 := bt hb2 hb3
  have hne : w.heap.size < g := by omega
  have hne2 : w.heap.size ≠ g := by omega
  have hne3 : g ≠ w.heap.size := by omega
  clear hb3 hb2 d1
  go_wp2
  refine wp_loop_rounds 2 ?_
  rw [rounds_succ]
  go_wp2
  go_region
  go_wp2
  rw [rounds_succ]
  go_wp2_with (go_at_call 11; refine (refPack_any _ _ _ [m - a] _ (by omega) ?_).mono ?_; (exact sl1 (by simp [go_sem, c0])); rw [XV.out]; rintro e w9 ⟨rfl, rfl⟩)
  go_ret2
  exact ⟨ret_pack X.out.symm, by repeat (first | exact hb4 | apply Below.drew | refine Below.setCell ?_ (Nat.le_of_lt hne) _)⟩
theorem refTurned_any (p c m : Int) (hU : Px.U p) (w : World) :
    Calls Try.prog 28 #[.int .u64 p, .agg #[.int .i64 c, .int .i64 m]] w fun e w' => e = .returned (.tuple #[.int .u64 (Px.turnedV p c m).1, .int .i64 (Px.turnedV p c m).2]) ∧ Below w.heap.size w w' := by
  cases hf : Px.fitsV p c m
  · have X := Lib.hid (Px.turned_no hf)
    go_enter Try.func28, Try.ntmps28
    go_wp2_with fail
    refine (refFits_any p _ _ hU _).mono ?_
    rw [hf]
    rintro e w1 ⟨rfl, hb1⟩
    have hb2 := box_below w _ _ hb1
    clear hb1
    go_wp2_with fail
    go_ret2
    exact ⟨ret_pack X.out.symm, hb2⟩
  · rcases Px.tri hU with ⟨a, b, d, h⟩ | ⟨a, h⟩ | h
    · exact refTurned_p3 p a b d c m h hf w
    · exact refTurned_p1 p a c m h hf w
    · exact (Px.fits0_no h hf).elim
end Go.Proofs.Ytdlmcdeddlccpaa
