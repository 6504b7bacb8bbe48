/- One sample of a pixel, and another greatest sample: what Gray and Scaled come to, over any memory, of pix and of the document's own answer. Condition: numbers fit their kinds. -/
import Derived.Test.YtdlmcdeddlccpaaPixI
namespace Go.Proofs.Ytdlmcdeddlccpaa
open Go.RowKit
set_option linter.unusedVariables false
attribute [local go_sem ↓] Go.wp_at_zero Go.wp_at_succ

def gry (a b d : Int) : Int := (299 * a + 587 * b + 114 * d + 500) / 1000
theorem gry_bound {a b d : Int} (a0 : 0 ≤ a) (a1 : a ≤ 65535) (b0 : 0 ≤ b) (b1 : b ≤ 65535) (d0 : 0 ≤ d) (d1 : d ≤ 65535) : 0 ≤ gry a b d ∧ gry a b d ≤ 65535 := by unfold gry; omega
theorem gray3 {p a b d : Int} (h : Px.Is3 p a b d) : Px.grayV p = (281474976710656 + gry a b d, 0) := by unfold Px.grayV; rw [Px.smp3 h]; rfl
theorem gray1 {p a : Int} (h : Px.Is1 p a) : Px.grayV p = (p, 0) := by unfold Px.grayV; rw [Px.smp1 h]
theorem gray0 {p : Int} (h : Px.Is0 p) : Px.grayV p = (0, 1) := by unfold Px.grayV; rw [Px.smp0 h]

set_option maxHeartbeats 1000000 in
theorem gray_any (p : Int) (hU : Px.U p) (w : World) :
    Calls Try.prog 25 #[.int .u64 p] w fun e w' => e = .returned (.tuple #[.int .u64 (Px.grayV p).1, .int .i64 (Px.grayV p).2]) ∧ Below w.heap.size w w' := by
  rcases Px.tri hU with ⟨a, b, d, h⟩ | ⟨a, h⟩ | h
  · have X := Lib.hid (gray3 h)
    have H := Lib.hid h
    obtain ⟨-, a0, a1, b0, b1, d0, d1⟩ := h
    obtain ⟨g0, g1⟩ := gry_bound a0 a1 b0 b1 d0 d1
    have Y := Lib.hid (show (299 * a + 587 * b + 114 * d + 500) / 1000 = gry a b d from rfl)
    go_enter Try.func25, Try.ntmps25
    go_wp2_with fail
    refine (split3 p a b d H.out _).mono ?_
    rintro e w1 ⟨rfl, hb1⟩
    go_wp2_with fail
    rw [Y.out]
    refine (join1 _ _ _ (gry a b d) g0 g1 _ (by simp [go_sem])).mono ?_
    rintro e w2 ⟨rfl, hw⟩
    subst hw
    go_wp2_with fail
    go_ret2
    exact ⟨ret_pack X.out.symm, (hb1.alloc hb1.size _).alloc (by have := hb1.size; simp; omega) _⟩
  · have X := Lib.hid (gray1 h)
    have H := Lib.hid h
    clear h
    go_enter Try.func25, Try.ntmps25
    go_wp2_with fail
    refine (split1 p a H.out _).mono ?_
    rintro e w1 ⟨rfl, hb1⟩
    go_wp2_with fail
    go_ret2
    exact ⟨ret_pack X.out.symm, hb1.alloc hb1.size _⟩
  · have X := Lib.hid (gray0 h)
    have H := Lib.hid h
    clear h
    go_enter Try.func25, Try.ntmps25
    go_wp2_with fail
    refine (split0 p hU H.out _).mono ?_
    rintro e w1 ⟨rfl, hb1⟩
    go_wp2_with fail
    go_ret2
    exact ⟨ret_pack X.out.symm, hb1.alloc hb1.size _⟩

set_option maxHeartbeats 1000000 in
theorem refGray_any (p : Int) (hU : Px.U p) (w : World) :
    Calls Try.prog 26 #[.int .u64 p] w fun e w' => e = .returned (.tuple #[.int .u64 (Px.grayV p).1, .int .i64 (Px.grayV p).2]) ∧ Below w.heap.size w w' := by
  rcases Px.tri hU with ⟨a, b, d, h⟩ | ⟨a, h⟩ | h
  · have X := Lib.hid (gray3 h)
    have H := Lib.hid h
    obtain ⟨-, a0, a1, b0, b1, d0, d1⟩ := h
    obtain ⟨g0, g1⟩ := gry_bound a0 a1 b0 b1 d0 d1
    have XV := Lib.hid (show Px.packV [(299 * a + 587 * b + 114 * d + 500) / 1000] = (281474976710656 + gry a b d, 0) from Px.packV1 g0 g1)
    have q1 : IntKind.i64.wrap (299 * a) = 299 * a := IntWalk.i64_in _ (by omega)
    have q2 : IntKind.i64.wrap (587 * b) = 587 * b := IntWalk.i64_in _ (by omega)
    have q3 : IntKind.i64.wrap (299 * a + 587 * b) = 299 * a + 587 * b := IntWalk.i64_in _ (by omega)
    have q4 : IntKind.i64.wrap (114 * d) = 114 * d := IntWalk.i64_in _ (by omega)
    have q5 : IntKind.i64.wrap (299 * a + 587 * b + 114 * d) = 299 * a + 587 * b + 114 * d := IntWalk.i64_in _ (by omega)
    have q6 : IntKind.i64.wrap (299 * a + 587 * b + 114 * d + 500) = 299 * a + 587 * b + 114 * d + 500 := IntWalk.i64_in _ (by omega)
    have q7 : (299 * a + 587 * b + 114 * d + 500).tdiv 1000 = (299 * a + 587 * b + 114 * d + 500) / 1000 := Int.tdiv_eq_ediv_of_nonneg (by omega)
    have q8 : IntKind.i64.wrap ((299 * a + 587 * b + 114 * d + 500) / 1000) = (299 * a + 587 * b + 114 * d + 500) / 1000 := IntWalk.i64_in _ (by omega)
    go_enter Try.func26, Try.ntmps26
    go_wp2_with fail
    refine (refUnpack3 p a b d H.out _).mono ?_
    rintro e w1 ⟨g, cap, rfl, ⟨hg0, hg1, c0, c1, c2, f0, f1, f2⟩, hb1⟩
    go_wp2_with fail
    go_region_held3 (fun w' => w'.cell? ⟨g, 0, none⟩ = some (.int .i64 a) ∧ w'.cell? ⟨g, 1, none⟩ = some (.int .i64 b) ∧ w'.cell? ⟨g, 2, none⟩ = some (.int .i64 d)) (go_keep)
      (first | (go_at_call 11; refine (refPack_any _ _ _ [(299 * a + 587 * b + 114 * d + 500) / 1000] _ (by omega) (sl1 ?_)).mono ?_; (simp [go_sem]); rw [XV.out]; rintro e w2 ⟨rfl, rfl⟩))
    go_wp2_with fail
    go_ret2
    exact ⟨ret_pack X.out.symm, hb1.drew.alloc hb1.size _⟩
  · have X := Lib.hid (gray1 h)
    have H := Lib.hid h
    clear h
    go_enter Try.func26, Try.ntmps26
    go_wp2_with fail
    refine (refUnpack1 p a H.out _).mono ?_
    rintro e w1 ⟨g, cap, rfl, ⟨hg0, hg1, c0, f0⟩, hb1⟩
    go_wp2_with fail
    go_ret2
    exact ⟨ret_pack X.out.symm, hb1⟩
  · have X := Lib.hid (gray0 h)
    have H := Lib.hid h
    clear h
    go_enter Try.func26, Try.ntmps26
    go_wp2_with fail
    refine (refUnpack0 p hU H.out _).mono ?_
    rintro e w1 ⟨ad, cap, rfl, hb1⟩
    go_wp2_with fail
    go_ret2
    exact ⟨ret_pack X.out.symm, hb1⟩
end Go.Proofs.Ytdlmcdeddlccpaa
