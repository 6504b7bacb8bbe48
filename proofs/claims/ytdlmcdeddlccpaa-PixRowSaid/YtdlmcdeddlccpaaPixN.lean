/- Another greatest sample, by the document's own answer: what Scaled comes to, over any memory. Condition: numbers fit their kinds. -/
import Derived.Test.YtdlmcdeddlccpaaPixK
namespace Go.Proofs.Ytdlmcdeddlccpaa
open Go.RowKit
set_option linter.unusedVariables false

set_option maxHeartbeats 2000000 in
theorem refScaled_p3 (p a b d x y : Int) (h : Px.Is3 p a b d) (w : World) :
    Calls Try.prog 30 #[.int .u64 p, .int .i64 x, .int .i64 y] w fun e w' => e = .returned (.tuple #[.int .u64 (Px.scaledV p x y).1, .int .i64 (Px.scaledV p x y).2]) ∧ Below w.heap.size w w' := by
  by_cases kx0 : x < 1
  · have hk : Px.okM x = false := by simp [Px.okM]; omega
    have HK := Lib.hid hk; clear hk
    have X := Lib.hid (scaled_x (p := p) (x := x) (y := y) HK.out)
    have H := Lib.hid h
    clear h
    go_enter Try.func30, Try.ntmps30
    go_wp2_with fail
    refine (refUnpack3 p a b d H.out _).mono ?_
    rintro e w1 ⟨g, cap, rfl, ⟨hg0, hg1, c0, c1, c2, f0, f1, f2⟩, hb1⟩
    go_wp2_with fail
    go_ret2
    exact ⟨ret_pack X.out.symm, hb1⟩
  by_cases kx1 : 65535 < x
  · have hk : Px.okM x = false := by simp [Px.okM]; omega
    have HK := Lib.hid hk; clear hk
    have X := Lib.hid (scaled_x (p := p) (x := x) (y := y) HK.out)
    have H := Lib.hid h
    clear h
    go_enter Try.func30, Try.ntmps30
    go_wp2_with fail
    refine (refUnpack3 p a b d H.out _).mono ?_
    rintro e w1 ⟨g, cap, rfl, ⟨hg0, hg1, c0, c1, c2, f0, f1, f2⟩, hb1⟩
    go_wp2_with fail
    go_ret2
    exact ⟨ret_pack X.out.symm, hb1⟩
  by_cases ky0 : y < 1
  · have hk : Px.okM y = false := by simp [Px.okM]; omega
    have HK := Lib.hid hk; clear hk
    have X := Lib.hid (scaled_y (p := p) (x := x) (y := y) HK.out)
    have H := Lib.hid h
    clear h
    go_enter Try.func30, Try.ntmps30
    go_wp2_with fail
    refine (refUnpack3 p a b d H.out _).mono ?_
    rintro e w1 ⟨g, cap, rfl, ⟨hg0, hg1, c0, c1, c2, f0, f1, f2⟩, hb1⟩
    go_wp2_with fail
    go_ret2
    exact ⟨ret_pack X.out.symm, hb1⟩
  by_cases ky1 : 65535 < y
  · have hk : Px.okM y = false := by simp [Px.okM]; omega
    have HK := Lib.hid hk; clear hk
    have X := Lib.hid (scaled_y (p := p) (x := x) (y := y) HK.out)
    have H := Lib.hid h
    clear h
    go_enter Try.func30, Try.ntmps30
    go_wp2_with fail
    refine (refUnpack3 p a b d H.out _).mono ?_
    rintro e w1 ⟨g, cap, rfl, ⟨hg0, hg1, c0, c1, c2, f0, f1, f2⟩, hb1⟩
    go_wp2_with fail
    go_ret2
    exact ⟨ret_pack X.out.symm, hb1⟩
  have x0 : 1 ≤ x := by omega
  have x1 : x ≤ 65535 := by omega
  have y0 : 1 ≤ y := by omega
  have y1 : y ≤ 65535 := by omega
  have hz : (x == 0) = false := by simp; omega
  have hx : Px.okM x = true := by simp [Px.okM, x0, x1]
  have hy : Px.okM y = true := by simp [Px.okM, y0, y1]
  have HX := Lib.hid hx; clear hx
  have HY := Lib.hid hy; clear hy
  clear kx0 kx1 ky0 ky1
  by_cases l : x < a
  · have X := Lib.hid (scaled3_no (y := y) h (.inl l))
    have H := Lib.hid h
    obtain ⟨-, a0, a1, b0, b1, d0, d1⟩ := h
    go_enter Try.func30, Try.ntmps30
    go_wp2_with fail
    refine (refUnpack3 p a b d H.out _).mono ?_
    rintro e w1 ⟨g, cap, rfl, ⟨hg0, hg1, c0, c1, c2, f0, f1, f2⟩, hb1⟩
    go_wp2_with fail
    refine wp_loop_rounds 1 ?_
    repeat any_goals (rw [rounds_succ]; go_wp2)
    go_ret2
    exact ⟨ret_pack X.out.symm, (by repeat (first | exact hb1 | apply Below.drew | refine Below.setCell ?_ hg0 _))⟩
  have la : a ≤ x := by omega
  clear l
  by_cases l : x < b
  · have X := Lib.hid (scaled3_no (y := y) h (.inr (.inl l)))
    have H := Lib.hid h
    obtain ⟨-, a0, a1, b0, b1, d0, d1⟩ := h
    obtain ⟨pa0, pa1, pa2, pa3⟩ := mul_bound a0 la x1 y0 y1
    go_enter Try.func30, Try.ntmps30
    go_wp2_with fail
    refine (refUnpack3 p a b d H.out _).mono ?_
    rintro e w1 ⟨g, cap, rfl, ⟨hg0, hg1, c0, c1, c2, f0, f1, f2⟩, hb1⟩
    go_wp2_with fail
    refine wp_loop_rounds 2 ?_
    repeat any_goals (rw [rounds_succ]; go_wp2)
    go_ret2
    exact ⟨ret_pack X.out.symm, (by repeat (first | exact hb1 | apply Below.drew | refine Below.setCell ?_ hg0 _))⟩
  have lb : b ≤ x := by omega
  clear l
  by_cases l : x < d
  · have X := Lib.hid (scaled3_no (y := y) h (.inr (.inr l)))
    have H := Lib.hid h
    obtain ⟨-, a0, a1, b0, b1, d0, d1⟩ := h
    obtain ⟨pa0, pa1, pa2, pa3⟩ := mul_bound a0 la x1 y0 y1
    obtain ⟨pb0, pb1, pb2, pb3⟩ := mul_bound b0 lb x1 y0 y1
    go_enter Try.func30, Try.ntmps30
    go_wp2_with fail
    refine (refUnpack3 p a b d H.out _).mono ?_
    rintro e w1 ⟨g, cap, rfl, ⟨hg0, hg1, c0, c1, c2, f0, f1, f2⟩, hb1⟩
    go_wp2_with fail
    refine wp_loop_rounds 3 ?_
    repeat any_goals (rw [rounds_succ]; go_wp2)
    go_ret2
    exact ⟨ret_pack X.out.symm, (by repeat (first | exact hb1 | apply Below.drew | refine Below.setCell ?_ hg0 _))⟩
  have ld : d ≤ x := by omega
  clear l
  have X := Lib.hid (scaled3 h HX.out HY.out la lb ld)
  have H := Lib.hid h
  obtain ⟨-, a0, a1, b0, b1, d0, d1⟩ := h
  have sa := scl_bound a0 la x0 x1 y0 y1
  have sb := scl_bound b0 lb x0 x1 y0 y1
  have sd := scl_bound d0 ld x0 x1 y0 y1
  have XV := Lib.hid (show Px.packV [(a * y + x / 2) / x, (b * y + x / 2) / x, (d * y + x / 2) / x] = (844424930131968 + scl a x y * 4294967296 + scl b x y * 65536 + scl d x y, 0) by show Px.packV [scl a x y, scl b x y, scl d x y] = _; exact Px.packV3 sa.1 (by omega) sb.1 (by omega) sd.1 (by omega))
  clear sa
  clear sb
  clear sd
  obtain ⟨pa0, pa1, pa2, pa3⟩ := mul_bound a0 la x1 y0 y1
  obtain ⟨pb0, pb1, pb2, pb3⟩ := mul_bound b0 lb x1 y0 y1
  obtain ⟨pd0, pd1, pd2, pd3⟩ := mul_bound d0 ld x1 y0 y1
  go_enter Try.func30, Try.ntmps30
  go_wp2_with fail
  refine (refUnpack3 p a b d H.out _).mono ?_
  rintro e w1 ⟨g, cap, rfl, ⟨hg0, hg1, c0, c1, c2, f0, f1, f2⟩, hb1⟩
  go_wp2_with fail
  refine wp_loop_rounds 4 ?_
  rw [rounds_succ]
  go_wp2
  rw [rounds_succ]
  go_wp2
  rw [rounds_succ]
  go_wp2
  rw [rounds_succ]
  go_wp2_with (go_at_call 11; refine (refPack_any _ _ _ [(a * y + x / 2) / x, (b * y + x / 2) / x, (d * y + x / 2) / x] _ (by omega) ?_).mono ?_; (exact sl3 (by simp [go_sem, c0]) (by simp [go_sem, c1]) (by simp [go_sem, c2])); rw [XV.out]; rintro e w9 ⟨rfl, rfl⟩)
  go_ret2
  exact ⟨ret_pack X.out.symm, (by repeat (first | exact hb1 | apply Below.drew | refine Below.setCell ?_ hg0 _))⟩

set_option maxHeartbeats 2000000 in
theorem refScaled_p1 (p a x y : Int) (h : Px.Is1 p a) (w : World) :
    Calls Try.prog 30 #[.int .u64 p, .int .i64 x, .int .i64 y] w fun e w' => e = .returned (.tuple #[.int .u64 (Px.scaledV p x y).1, .int .i64 (Px.scaledV p x y).2]) ∧ Below w.heap.size w w' := by
  by_cases kx0 : x < 1
  · have hk : Px.okM x = false := by simp [Px.okM]; omega
    have HK := Lib.hid hk; clear hk
    have X := Lib.hid (scaled_x (p := p) (x := x) (y := y) HK.out)
    have H := Lib.hid h
    clear h
    go_enter Try.func30, Try.ntmps30
    go_wp2_with fail
    refine (refUnpack1 p a H.out _).mono ?_
    rintro e w1 ⟨g, cap, rfl, ⟨hg0, hg1, c0, f0⟩, hb1⟩
    go_wp2_with fail
    go_ret2
    exact ⟨ret_pack X.out.symm, hb1⟩
  by_cases kx1 : 65535 < x
  · have hk : Px.okM x = false := by simp [Px.okM]; omega
    have HK := Lib.hid hk; clear hk
    have X := Lib.hid (scaled_x (p := p) (x := x) (y := y) HK.out)
    have H := Lib.hid h
    clear h
    go_enter Try.func30, Try.ntmps30
    go_wp2_with fail
    refine (refUnpack1 p a H.out _).mono ?_
    rintro e w1 ⟨g, cap, rfl, ⟨hg0, hg1, c0, f0⟩, hb1⟩
    go_wp2_with fail
    go_ret2
    exact ⟨ret_pack X.out.symm, hb1⟩
  by_cases ky0 : y < 1
  · have hk : Px.okM y = false := by simp [Px.okM]; omega
    have HK := Lib.hid hk; clear hk
    have X := Lib.hid (scaled_y (p := p) (x := x) (y := y) HK.out)
    have H := Lib.hid h
    clear h
    go_enter Try.func30, Try.ntmps30
    go_wp2_with fail
    refine (refUnpack1 p a H.out _).mono ?_
    rintro e w1 ⟨g, cap, rfl, ⟨hg0, hg1, c0, f0⟩, hb1⟩
    go_wp2_with fail
    go_ret2
    exact ⟨ret_pack X.out.symm, hb1⟩
  by_cases ky1 : 65535 < y
  · have hk : Px.okM y = false := by simp [Px.okM]; omega
    have HK := Lib.hid hk; clear hk
    have X := Lib.hid (scaled_y (p := p) (x := x) (y := y) HK.out)
    have H := Lib.hid h
    clear h
    go_enter Try.func30, Try.ntmps30
    go_wp2_with fail
    refine (refUnpack1 p a H.out _).mono ?_
    rintro e w1 ⟨g, cap, rfl, ⟨hg0, hg1, c0, f0⟩, hb1⟩
    go_wp2_with fail
    go_ret2
    exact ⟨ret_pack X.out.symm, hb1⟩
  have x0 : 1 ≤ x := by omega
  have x1 : x ≤ 65535 := by omega
  have y0 : 1 ≤ y := by omega
  have y1 : y ≤ 65535 := by omega
  have hz : (x == 0) = false := by simp; omega
  have hx : Px.okM x = true := by simp [Px.okM, x0, x1]
  have hy : Px.okM y = true := by simp [Px.okM, y0, y1]
  have HX := Lib.hid hx; clear hx
  have HY := Lib.hid hy; clear hy
  clear kx0 kx1 ky0 ky1
  by_cases l : x < a
  · have X := Lib.hid (scaled1_no (y := y) h (l))
    have H := Lib.hid h
    obtain ⟨-, a0, a1⟩ := h
    go_enter Try.func30, Try.ntmps30
    go_wp2_with fail
    refine (refUnpack1 p a H.out _).mono ?_
    rintro e w1 ⟨g, cap, rfl, ⟨hg0, hg1, c0, f0⟩, hb1⟩
    go_wp2_with fail
    refine wp_loop_rounds 1 ?_
    repeat any_goals (rw [rounds_succ]; go_wp2)
    go_ret2
    exact ⟨ret_pack X.out.symm, (by repeat (first | exact hb1 | apply Below.drew | refine Below.setCell ?_ hg0 _))⟩
  have la : a ≤ x := by omega
  clear l
  have X := Lib.hid (scaled1 h HX.out HY.out la)
  have H := Lib.hid h
  obtain ⟨-, a0, a1⟩ := h
  have sa := scl_bound a0 la x0 x1 y0 y1
  have XV := Lib.hid (show Px.packV [(a * y + x / 2) / x] = (281474976710656 + scl a x y, 0) by show Px.packV [scl a x y] = _; exact Px.packV1 sa.1 (by omega))
  clear sa
  obtain ⟨pa0, pa1, pa2, pa3⟩ := mul_bound a0 la x1 y0 y1
  go_enter Try.func30, Try.ntmps30
  go_wp2_with fail
  refine (refUnpack1 p a H.out _).mono ?_
  rintro e w1 ⟨g, cap, rfl, ⟨hg0, hg1, c0, f0⟩, hb1⟩
  go_wp2_with fail
  refine wp_loop_rounds 2 ?_
  rw [rounds_succ]
  go_wp2
  rw [rounds_succ]
  go_wp2_with (go_at_call 11; refine (refPack_any _ _ _ [(a * y + x / 2) / x] _ (by omega) ?_).mono ?_; (exact sl1 (by simp [go_sem, c0])); rw [XV.out]; rintro e w9 ⟨rfl, rfl⟩)
  go_ret2
  exact ⟨ret_pack X.out.symm, (by repeat (first | exact hb1 | apply Below.drew | refine Below.setCell ?_ hg0 _))⟩

theorem refScaled_any (p x y : Int) (hU : Px.U p) (w : World) :
    Calls Try.prog 30 #[.int .u64 p, .int .i64 x, .int .i64 y] w fun e w' => e = .returned (.tuple #[.int .u64 (Px.scaledV p x y).1, .int .i64 (Px.scaledV p x y).2]) ∧ Below w.heap.size w w' := by
  rcases Px.tri hU with ⟨a, b, d, h⟩ | ⟨a, h⟩ | h
  · exact refScaled_p3 p a b d x y h w
  · exact refScaled_p1 p a x y h w
  · have X := Lib.hid (scaled0 (x := x) (y := y) h)
    have H := Lib.hid h
    clear h
    go_enter Try.func30, Try.ntmps30
    go_wp2_with fail
    refine (refUnpack0 p hU H.out _).mono ?_
    rintro e w1 ⟨ad, cap, rfl, hb1⟩
    go_wp2_with fail
    go_ret2
    exact ⟨ret_pack X.out.symm, hb1⟩
end Go.Proofs.Ytdlmcdeddlccpaa
