/- Another greatest sample: what Scaled comes to, over any memory, of pix and of the document's own answer. Condition: numbers fit their kinds. -/
import Derived.Test.YtdlmcdeddlccpaaPixI
namespace Go.Proofs.Ytdlmcdeddlccpaa
open Go.RowKit
set_option linter.unusedVariables false

theorem okM_get {m : Int} (h : Px.okM m = true) : 1 ≤ m ∧ m ≤ 65535 := by simpa [Px.okM] using h
theorem okM_no {m : Int} (h : Px.okM m = false) : m < 1 ∨ 65535 < m := by
  simp [Px.okM] at h; omega
theorem scaled3 {p a b d x y : Int} (h : Px.Is3 p a b d) (hx : Px.okM x = true) (hy : Px.okM y = true) (la : a ≤ x) (lb : b ≤ x) (ld : d ≤ x) :
    Px.scaledV p x y = (844424930131968 + scl a x y * 4294967296 + scl b x y * 65536 + scl d x y, 0) := by
  unfold Px.scaledV
  obtain ⟨hx0, hx1⟩ := okM_get hx
  obtain ⟨hy0, hy1⟩ := okM_get hy
  rw [Px.smp3 h, hx, hy, if_pos (by simp [la, lb, ld])]
  show Px.packV [scl a x y, scl b x y, scl d x y] = _
  obtain ⟨_, a0, _, b0, _, d0, _⟩ := h
  have h1 := scl_bound a0 la hx0 hx1 hy0 hy1
  have h2 := scl_bound b0 lb hx0 hx1 hy0 hy1
  have h3 := scl_bound d0 ld hx0 hx1 hy0 hy1
  exact Px.packV3 (by omega) (by omega) (by omega) (by omega) (by omega) (by omega)
theorem scaled1 {p a x y : Int} (h : Px.Is1 p a) (hx : Px.okM x = true) (hy : Px.okM y = true) (la : a ≤ x) :
    Px.scaledV p x y = (281474976710656 + scl a x y, 0) := by
  unfold Px.scaledV
  obtain ⟨hx0, hx1⟩ := okM_get hx
  obtain ⟨hy0, hy1⟩ := okM_get hy
  rw [Px.smp1 h, hx, hy, if_pos (by simp [la])]
  show Px.packV [scl a x y] = _
  obtain ⟨_, a0, _⟩ := h
  have h1 := scl_bound a0 la hx0 hx1 hy0 hy1
  exact Px.packV1 (by omega) (by omega)
theorem scaled_x {p x y : Int} (h : Px.okM x = false) : Px.scaledV p x y = (0, 1) := by unfold Px.scaledV; rw [h]; rfl
theorem scaled_y {p x y : Int} (h : Px.okM y = false) : Px.scaledV p x y = (0, 1) := by unfold Px.scaledV; rw [h, Bool.and_false]; rfl
theorem scaled0 {p x y : Int} (h : Px.Is0 p) : Px.scaledV p x y = (0, 1) := by unfold Px.scaledV; rw [Px.smp0 h]; simp
theorem scaled3_no {p a b d x y : Int} (h : Px.Is3 p a b d) (l : x < a ∨ x < b ∨ x < d) : Px.scaledV p x y = (0, 1) := by
  unfold Px.scaledV; rw [Px.smp3 h, if_neg (by simp; intros; omega)]
theorem scaled1_no {p a x y : Int} (h : Px.Is1 p a) (l : x < a) : Px.scaledV p x y = (0, 1) := by
  unfold Px.scaledV; rw [Px.smp1 h, if_neg (by simp; intros; omega)]
theorem formatV3 (x : Int) : Px.formatV 3 x = Px.okM x := by simp [Px.formatV, Px.okM]
theorem formatV1 (x : Int) : Px.formatV 1 x = Px.okM x := by simp [Px.formatV, Px.okM]
theorem scaled3_fit {p a b d x y : Int} (h : Px.Is3 p a b d) (hf : Px.fitsV p 3 x = false) : Px.scaledV p x y = (0, 1) := by
  by_cases l : x < a ∨ x < b ∨ x < d
  · exact scaled3_no h l
  · rw [Px.fitsV3_all h (by omega) (by omega) (by omega), formatV3] at hf
    exact scaled_x (by simpa using hf)
theorem scaled1_fit {p a x y : Int} (h : Px.Is1 p a) (hf : Px.fitsV p 1 x = false) : Px.scaledV p x y = (0, 1) := by
  by_cases l : x < a
  · exact scaled1_no h l
  · rw [Px.fitsV1_all h (by omega), formatV1] at hf
    exact scaled_x (by simpa using hf)

set_option maxHeartbeats 1000000 in
theorem scaled_any (p x y : Int) (hU : Px.U p) (hx : Px.I x) (hy : Px.I y) (w : World) :
    Calls Try.prog 29 #[.int .u64 p, .int .i64 x, .int .i64 y] w fun e w' => e = .returned (.tuple #[.int .u64 (Px.scaledV p x y).1, .int .i64 (Px.scaledV p x y).2]) ∧ Below w.heap.size w w' := by
  clear hx hy
  cases hy : Px.okM y
  · have X := Lib.hid (scaled_y (p := p) (x := x) hy)
    rcases Px.tri hU with ⟨a, b, d, h⟩ | ⟨a, h⟩ | h
    · have H := Lib.hid h
      clear h
      go_enter Try.func29, Try.ntmps29
      go_wp2_with fail
      refine (split3 p a b d H.out _).mono ?_
      rintro e w1 ⟨rfl, hb1⟩
      have d0 : w1.cell? ⟨w.heap.size, 0, none⟩ = some (.int .i64 x) := cell_later hb1 (by simp [go_sem])
      have d1 : w1.cell? ⟨w.heap.size + 1, 0, none⟩ = some (.int .i64 y) := cell_later hb1 (by simp [go_sem])
      have hz : w.heap.size + 1 < w1.heap.size := by have := hb1.size; simp at this; omega
      have hz0 : w.heap.size < w1.heap.size := by omega
      have hb2 : Below w.heap.size w w1 := (((Below.refl _ _).alloc (Nat.le_refl _) _).alloc (by simp) _).trans (hb1.mono (B' := w.heap.size) (by simp; omega))
      clear hb1
      go_wp2_with fail
      refine (mayMaxval_any _ _).mono ?_
      rw [hy]
      rintro e w2 ⟨rfl, hw⟩
      subst hw
      go_wp2_with fail
      go_ret2
      exact ⟨ret_pack X.out.symm, hb2.alloc hb2.size _⟩
    · have H := Lib.hid h
      clear h
      go_enter Try.func29, Try.ntmps29
      go_wp2_with fail
      refine (split1 p a H.out _).mono ?_
      rintro e w1 ⟨rfl, hb1⟩
      have d0 : w1.cell? ⟨w.heap.size, 0, none⟩ = some (.int .i64 x) := cell_later hb1 (by simp [go_sem])
      have d1 : w1.cell? ⟨w.heap.size + 1, 0, none⟩ = some (.int .i64 y) := cell_later hb1 (by simp [go_sem])
      have hz : w.heap.size + 1 < w1.heap.size := by have := hb1.size; simp at this; omega
      have hz0 : w.heap.size < w1.heap.size := by omega
      have hb2 : Below w.heap.size w w1 := (((Below.refl _ _).alloc (Nat.le_refl _) _).alloc (by simp) _).trans (hb1.mono (B' := w.heap.size) (by simp; omega))
      clear hb1
      go_wp2_with fail
      refine (mayMaxval_any _ _).mono ?_
      rw [hy]
      rintro e w2 ⟨rfl, hw⟩
      subst hw
      go_wp2_with fail
      go_ret2
      exact ⟨ret_pack X.out.symm, hb2.alloc hb2.size _⟩
    · have H := Lib.hid h
      clear h
      go_enter Try.func29, Try.ntmps29
      go_wp2_with fail
      refine (split0 p hU H.out _).mono ?_
      rintro e w1 ⟨rfl, hb1⟩
      have d0 : w1.cell? ⟨w.heap.size, 0, none⟩ = some (.int .i64 x) := cell_later hb1 (by simp [go_sem])
      have d1 : w1.cell? ⟨w.heap.size + 1, 0, none⟩ = some (.int .i64 y) := cell_later hb1 (by simp [go_sem])
      have hz : w.heap.size + 1 < w1.heap.size := by have := hb1.size; simp at this; omega
      have hz0 : w.heap.size < w1.heap.size := by omega
      have hb2 : Below w.heap.size w w1 := (((Below.refl _ _).alloc (Nat.le_refl _) _).alloc (by simp) _).trans (hb1.mono (B' := w.heap.size) (by simp; omega))
      clear hb1
      go_wp2_with fail
      refine (mayMaxval_any _ _).mono ?_
      rw [hy]
      rintro e w2 ⟨rfl, hw⟩
      subst hw
      go_wp2_with fail
      go_ret2
      exact ⟨ret_pack X.out.symm, hb2.alloc hb2.size _⟩
  · rcases Px.tri hU with ⟨a, b, d, h⟩ | ⟨a, h⟩ | h
    · cases hf : Px.fitsV p 3 x
      · have X := Lib.hid (scaled3_fit (y := y) h hf)
        have H := Lib.hid h
        clear h
        go_enter Try.func29, Try.ntmps29
        go_wp2_with fail
        refine (split3 p a b d H.out _).mono ?_
        rintro e w1 ⟨rfl, hb1⟩
        have d0 : w1.cell? ⟨w.heap.size, 0, none⟩ = some (.int .i64 x) := cell_later hb1 (by simp [go_sem])
        have d1 : w1.cell? ⟨w.heap.size + 1, 0, none⟩ = some (.int .i64 y) := cell_later hb1 (by simp [go_sem])
        have hz : w.heap.size + 1 < w1.heap.size := by have := hb1.size; simp at this; omega
        have hz0 : w.heap.size < w1.heap.size := by omega
        have hb2 : Below w.heap.size w w1 := (((Below.refl _ _).alloc (Nat.le_refl _) _).alloc (by simp) _).trans (hb1.mono (B' := w.heap.size) (by simp; omega))
        clear hb1
        go_wp2_with fail
        refine (mayMaxval_any _ _).mono ?_
        rw [hy]
        rintro e w2 ⟨rfl, hw⟩
        subst hw
        go_wp2_with fail
        refine (fits_any p _ _ hU _).mono ?_
        rw [hf]
        rintro e w3 ⟨rfl, hb3⟩
        have hb4 := bt (hb2.alloc hb2.size _) hb3
        clear hb3
        go_wp2_with fail
        go_ret2
        exact ⟨ret_pack X.out.symm, hb4⟩
      · obtain ⟨-, la, lb, ld, x0, x1⟩ := Px.fits3_get h hf
        obtain ⟨y0, y1⟩ := okM_get hy
        have X := Lib.hid (scaled3 h (show Px.okM x = true by simp [Px.okM, x0, x1]) hy la lb ld)
        have H := Lib.hid h
        obtain ⟨-, a0, -, b0, -, e0, -⟩ := h
        go_enter Try.func29, Try.ntmps29
        go_wp2_with fail
        refine (split3 p a b d H.out _).mono ?_
        rintro e w1 ⟨rfl, hb1⟩
        have d0 : w1.cell? ⟨w.heap.size, 0, none⟩ = some (.int .i64 x) := cell_later hb1 (by simp [go_sem])
        have d1 : w1.cell? ⟨w.heap.size + 1, 0, none⟩ = some (.int .i64 y) := cell_later hb1 (by simp [go_sem])
        have hz : w.heap.size + 1 < w1.heap.size := by have := hb1.size; simp at this; omega
        have hz0 : w.heap.size < w1.heap.size := by omega
        have hb2 : Below w.heap.size w w1 := (((Below.refl _ _).alloc (Nat.le_refl _) _).alloc (by simp) _).trans (hb1.mono (B' := w.heap.size) (by simp; omega))
        clear hb1
        go_wp2_with fail
        refine (mayMaxval_any _ _).mono ?_
        rw [hy]
        rintro e w2 ⟨rfl, hw⟩
        subst hw
        go_wp2_with fail
        refine (fits_any p _ _ hU _).mono ?_
        rw [hf]
        rintro e w3 ⟨rfl, hb3⟩
        have hb4 := bt (hb2.alloc hb2.size _) hb3
        have d2 : w3.cell? ⟨w.heap.size, 0, none⟩ = some (.int .i64 x) := cell_later hb3 (by simp [go_sem, d0, hz0])
        have d3 : w3.cell? ⟨w.heap.size + 1, 0, none⟩ = some (.int .i64 y) := cell_later hb3 (by simp [go_sem, d1, hz])
        clear hb3
        go_wp2_with fail
        refine (each_scaled3 p a b d x y _ _ H.out a0 b0 e0 la lb ld x0 x1 y0 y1 _ d2 d3).mono ?_
        rintro e w4 ⟨rfl, hb5⟩
        have hb6 := bt hb4 hb5
        clear hb5
        go_wp2_with fail
        go_ret2
        exact ⟨ret_pack X.out.symm, hb6⟩
    · cases hf : Px.fitsV p 1 x
      · have X := Lib.hid (scaled1_fit (y := y) h hf)
        have H := Lib.hid h
        clear h
        go_enter Try.func29, Try.ntmps29
        go_wp2_with fail
        refine (split1 p a H.out _).mono ?_
        rintro e w1 ⟨rfl, hb1⟩
        have d0 : w1.cell? ⟨w.heap.size, 0, none⟩ = some (.int .i64 x) := cell_later hb1 (by simp [go_sem])
        have d1 : w1.cell? ⟨w.heap.size + 1, 0, none⟩ = some (.int .i64 y) := cell_later hb1 (by simp [go_sem])
        have hz : w.heap.size + 1 < w1.heap.size := by have := hb1.size; simp at this; omega
        have hz0 : w.heap.size < w1.heap.size := by omega
        have hb2 : Below w.heap.size w w1 := (((Below.refl _ _).alloc (Nat.le_refl _) _).alloc (by simp) _).trans (hb1.mono (B' := w.heap.size) (by simp; omega))
        clear hb1
        go_wp2_with fail
        refine (mayMaxval_any _ _).mono ?_
        rw [hy]
        rintro e w2 ⟨rfl, hw⟩
        subst hw
        go_wp2_with fail
        refine (fits_any p _ _ hU _).mono ?_
        rw [hf]
        rintro e w3 ⟨rfl, hb3⟩
        have hb4 := bt (hb2.alloc hb2.size _) hb3
        clear hb3
        go_wp2_with fail
        go_ret2
        exact ⟨ret_pack X.out.symm, hb4⟩
      · obtain ⟨-, la, x0, x1⟩ := Px.fits1_get h hf
        obtain ⟨y0, y1⟩ := okM_get hy
        have X := Lib.hid (scaled1 h (show Px.okM x = true by simp [Px.okM, x0, x1]) hy la)
        have H := Lib.hid h
        obtain ⟨-, a0, -⟩ := h
        go_enter Try.func29, Try.ntmps29
        go_wp2_with fail
        refine (split1 p a H.out _).mono ?_
        rintro e w1 ⟨rfl, hb1⟩
        have d0 : w1.cell? ⟨w.heap.size, 0, none⟩ = some (.int .i64 x) := cell_later hb1 (by simp [go_sem])
        have d1 : w1.cell? ⟨w.heap.size + 1, 0, none⟩ = some (.int .i64 y) := cell_later hb1 (by simp [go_sem])
        have hz : w.heap.size + 1 < w1.heap.size := by have := hb1.size; simp at this; omega
        have hz0 : w.heap.size < w1.heap.size := by omega
        have hb2 : Below w.heap.size w w1 := (((Below.refl _ _).alloc (Nat.le_refl _) _).alloc (by simp) _).trans (hb1.mono (B' := w.heap.size) (by simp; omega))
        clear hb1
        go_wp2_with fail
        refine (mayMaxval_any _ _).mono ?_
        rw [hy]
        rintro e w2 ⟨rfl, hw⟩
        subst hw
        go_wp2_with fail
        refine (fits_any p _ _ hU _).mono ?_
        rw [hf]
        rintro e w3 ⟨rfl, hb3⟩
        have hb4 := bt (hb2.alloc hb2.size _) hb3
        have d2 : w3.cell? ⟨w.heap.size, 0, none⟩ = some (.int .i64 x) := cell_later hb3 (by simp [go_sem, d0, hz0])
        have d3 : w3.cell? ⟨w.heap.size + 1, 0, none⟩ = some (.int .i64 y) := cell_later hb3 (by simp [go_sem, d1, hz])
        clear hb3
        go_wp2_with fail
        refine (each_scaled1 p a x y _ _ H.out a0 la x0 x1 y0 y1 _ d2 d3).mono ?_
        rintro e w4 ⟨rfl, hb5⟩
        have hb6 := bt hb4 hb5
        clear hb5
        go_wp2_with fail
        go_ret2
        exact ⟨ret_pack X.out.symm, hb6⟩
    · have X := Lib.hid (scaled0 (x := x) (y := y) h)
      have hf := Px.fitsV0 (c := 0) (m := x) h
      have H := Lib.hid h
      clear h
      go_enter Try.func29, Try.ntmps29
      go_wp2_with fail
      refine (split0 p hU H.out _).mono ?_
      rintro e w1 ⟨rfl, hb1⟩
      have d0 : w1.cell? ⟨w.heap.size, 0, none⟩ = some (.int .i64 x) := cell_later hb1 (by simp [go_sem])
      have d1 : w1.cell? ⟨w.heap.size + 1, 0, none⟩ = some (.int .i64 y) := cell_later hb1 (by simp [go_sem])
      have hz : w.heap.size + 1 < w1.heap.size := by have := hb1.size; simp at this; omega
      have hz0 : w.heap.size < w1.heap.size := by omega
      have hb2 : Below w.heap.size w w1 := (((Below.refl _ _).alloc (Nat.le_refl _) _).alloc (by simp) _).trans (hb1.mono (B' := w.heap.size) (by simp; omega))
      clear hb1
      go_wp2_with fail
      refine (mayMaxval_any _ _).mono ?_
      rw [hy]
      rintro e w2 ⟨rfl, hw⟩
      subst hw
      go_wp2_with fail
      refine (fits_any p _ _ hU _).mono ?_
      rw [hf]
      rintro e w3 ⟨rfl, hb3⟩
      have hb4 := bt (hb2.alloc hb2.size _) hb3
      clear hb3
      go_wp2_with fail
      go_ret2
      exact ⟨ret_pack X.out.symm, hb4⟩
end Go.Proofs.Ytdlmcdeddlccpaa
