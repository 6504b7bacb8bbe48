/- How many bytes the raster of a head has, by head and by the document, over any memory. Condition: the head may be. -/
import Derived.Test.YtkphfpckkmendaaHedK
namespace Go.Proofs.Ytkphfpckkmendaa
open Go.RowKit
set_option linter.unusedVariables false

theorem Hj.bound3 {a b c : Int} (a0 : 1 ≤ a) (a1 : a ≤ 4096) (b0 : 1 ≤ b) (b1 : b ≤ 65536) (c0 : 1 ≤ c) (c1 : c ≤ 3) : 0 ≤ a * b ∧ a * b ≤ 268435456 ∧ 0 ≤ a * b * c ∧ a * b * c ≤ 805306368 := by
  have h1 : 0 ≤ a * b := Int.mul_nonneg (by omega) (by omega)
  have h2 : a * b ≤ 4096 * 65536 := Int.mul_le_mul a1 b1 (by omega) (by omega)
  have h3 : 0 ≤ a * b * c := Int.mul_nonneg h1 (by omega)
  have h4 : a * b * c ≤ (4096 * 65536) * 3 := Int.mul_le_mul h2 c1 (by omega) (by omega)
  omega
theorem field0_run (c m : Int) (W : World) : (Instr.field 70 (.agg #[.int .i64 c, .int .i64 m]) 0).run Try.prog W = .ok (.int .i64 c) W := by kernel_rfl
theorem Hj.size_small {h : Hd.H} (hk : h.kd < 4) : Hj.size h = 0 := by unfold Hj.size; rw [if_pos hk]
theorem Hj.size_4 {h : Hd.H} (hk : h.kd = 4) : Hj.size h = h.h * ((h.w + 7) / 8) := by unfold Hj.size; rw [if_neg (by omega), if_pos hk]
theorem Hj.size_5 {h : Hd.H} (hk : 4 < h.kd) : Hj.size h = h.w * h.h * Hj.chan h * (if 255 < h.m then 2 else 1) := by unfold Hj.size; rw [if_neg (by omega), if_neg (by omega)]
set_option maxRecDepth 100000 in
set_option maxHeartbeats 2000000 in
theorem hsize_any (h : Hd.H) (hm : Hd.May h) (w : World) :
    Calls Try.prog 20 #[agH h] w fun e w' => e = .returned (.int .i64 (Hj.size h)) ∧ Below w.heap.size w w' := by
  have HF := Lib.hid (hformat_any h hm)
  have HR := Lib.hid (hraw_any h hm)
  obtain ⟨kd, ww, hh, m⟩ := h
  obtain ⟨⟨a1, a2⟩, ⟨b1, b2⟩, ⟨c1, c2⟩, ⟨d1, d2⟩, _⟩ := hm
  simp only at a1 a2 b1 b2 c1 c2 d1 d2
  unfold agH at HF HR ⊢
  by_cases k3 : kd < 4
  · have X := Lib.hid (Hj.size_small (h := ⟨kd, ww, hh, m⟩) k3)
    simp only [decide_eq_false (show ¬ 3 < kd by omega)] at HR
    clear HF
    go_enter Try.func20, Try.ntmps20
    go_wp2_with (go_at_call 27; refine (HR.out _).mono ?_; rintro e w9 ⟨rfl, hb9⟩)
    go_ret
    exact ⟨Ar.ret_i X.out.symm, ((Below.refl _ w).alloc (Nat.le_refl _) _).trans (hb9.mono (by simp))⟩
  simp only [decide_eq_true (show 3 < kd by omega)] at HR
  by_cases k4 : kd = 4
  · have X := Lib.hid (Hj.size_4 (h := ⟨kd, ww, hh, m⟩) k4)
    subst k4
    simp only at X
    obtain ⟨q, hq⟩ : ∃ q, (ww + 7) / 8 = q := ⟨_, rfl⟩
    have q0 : 0 ≤ q := by omega
    have q1 : q ≤ 512 := by omega
    have p0 : 0 ≤ hh * q := Int.mul_nonneg (by omega) q0
    have p1 : hh * q ≤ 65536 * 512 := Int.mul_le_mul c2 q1 q0 (by omega)
    have e1 : wrap64 (ww + 7) = ww + 7 := by rw [IntWalk.wrap64_in] <;> omega
    have f1 : IntKind.i64.wrap (ww + 7) = ww + 7 := by rw [IntWalk.i64_in] <;> omega
    have e3 : (ww + 7).tdiv 8 = q := by rw [Int.tdiv_eq_ediv_of_nonneg (by omega)]; exact hq
    rw [hq] at X
    obtain ⟨r, hr⟩ : ∃ r, hh * q = r := ⟨_, rfl⟩
    rw [hr] at p0 p1 X
    have e2 : wrap64 (hh * q) = r := by rw [hr, IntWalk.wrap64_in] <;> omega
    have f2 : IntKind.i64.wrap (hh * q) = r := by rw [hr, IntWalk.i64_in] <;> omega
    have e4 : wrap64 q = q := by rw [IntWalk.wrap64_in] <;> omega
    clear HF hr p0 p1 hq
    go_enter Try.func20, Try.ntmps20
    go_wp2_with fail
    refine (HR.out _).mono ?_
    rintro e w9 ⟨rfl, hb9⟩
    obtain ⟨n0, n1, n2, n3⟩ := ((Hb.new w 36 ⟨4, ww, hh, m⟩).later hb9).cells
    go_wp2
    go_ret
    exact ⟨Ar.ret_i X.out.symm, ((Below.refl _ w).alloc (Nat.le_refl _) _).trans (hb9.mono (by simp))⟩
  · have X := Lib.hid (Hj.size_5 (h := ⟨kd, ww, hh, m⟩) (show 4 < kd by omega))
    simp only at X
    unfold Hj.fm at HF
    obtain ⟨c, hc⟩ : ∃ c, Hj.chan ⟨kd, ww, hh, m⟩ = c := ⟨_, rfl⟩
    have hcc := Hj.chan_at ⟨kd, ww, hh, m⟩
    rw [hc] at HF X hcc
    obtain ⟨t0, t1, t2, t3⟩ := Hj.bound3 (c := c) b1 b2 c1 c2 (by omega) (by omega)
    obtain ⟨r, hr⟩ : ∃ r, ww * hh = r := ⟨_, rfl⟩
    rw [hr] at t0 t1 t2 t3 X
    obtain ⟨s, hs⟩ : ∃ s, r * c = s := ⟨_, rfl⟩
    rw [hs] at t2 t3 X
    have f1 : IntKind.i64.wrap (ww * hh) = r := by rw [hr, IntWalk.i64_in] <;> omega
    have f2 : IntKind.i64.wrap (r * c) = s := by rw [hs, IntWalk.i64_in] <;> omega
    have g1 : wrap64 (ww * hh) = r := by rw [hr, IntWalk.wrap64_in] <;> omega
    have g2 : wrap64 (r * c) = s := by rw [hs, IntWalk.wrap64_in] <;> omega
    have g3 : wrap64 (s * 2) = s * 2 := by rw [IntWalk.wrap64_in] <;> omega
    have k4b : (kd == 4) = false := by simpa using k4
    have hfd := field0_run c m
    have hBt : Below w.heap.size w w := .refl _ _
    clear hc hcc hr hs t0 t1 k3 a1 a2 b1 b2 c1 c2 k4
    go_enter Try.func20, Try.ntmps20
    go_wp2_with fail
    refine (HR.out _).mono ?_
    rintro e w9 ⟨rfl, hb9⟩
    obtain ⟨n0, n1, n2, n3⟩ := ((Hb.new w 36 ⟨kd, ww, hh, m⟩).later hb9).cells
    have HBz := Lib.hid (((hBt).alloc (Nat.le_refl _) (.cells #[.int .i64 kd, .int .i64 ww, .int .i64 hh, .int .i64 m] 36)).trans (hb9.mono (by simp)))
    have hBr : Below w9.heap.size w9 w9 := .refl _ _
    clear hb9 hBt
    go_wp2_with fail
    go_cut [3] (fun s3 wx => s3 = .int .i64 s ∧ Below w9.heap.size w9 wx)
    case first =>
      go_region_held3 (fun w' => w'.cell? ⟨w.heap.size, 0, none⟩ = some (.int .i64 kd) ∧ w'.cell? ⟨w.heap.size, 1, none⟩ = some (.int .i64 ww) ∧ w'.cell? ⟨w.heap.size, 2, none⟩ = some (.int .i64 hh) ∧ w'.cell? ⟨w.heap.size, 3, none⟩ = some (.int .i64 m))
        (first | exact ⟨n0, n1, n2, n3⟩ | exact ⟨cell_later hBr n0, cell_later hBr n1, cell_later hBr n2, cell_later hBr n3⟩)
        (first | (go_at_call 28; refine (HF.out _).mono ?_; rintro e w8 ⟨rfl, hb8⟩; replace hBr := bel_step (w := w9) (by first | exact hBr | exact hBr.drew) hb8))
      all_goals
        go_wp2_with fail
        go_meet
        case rel => exact ⟨rfl, hBr⟩
    case rest =>
      obtain ⟨rfl, hBx⟩ := hcut
      have m3 := cell_later hBx n3
      have HBy := Lib.hid (HBz.out.trans (hBx.mono HBz.out.size))
      clear n0 n1 n2 n3 hBr hBx
      by_cases hm2 : 255 < m
      · have X2 : Hid (Hj.size ⟨kd, ww, hh, m⟩ = s * 2) := by show _ = _; rw [X.out, if_pos hm2]
        go_wp2
        go_ret
        exact ⟨Ar.ret_i X2.out.symm, HBy.out⟩
      · have X2 : Hid (Hj.size ⟨kd, ww, hh, m⟩ = s) := by show _ = _; rw [X.out, if_neg hm2, Int.mul_one]
        go_wp2
        go_ret
        exact ⟨Ar.ret_i X2.out.symm, HBy.out⟩
end Go.Proofs.Ytkphfpckkmendaa
