/- PixUnpacks: a pixel's samples are the document's, and make it again; whether it may be, and is of a format, is told: the walk of the law. No condition. -/
import Derived.Test.YtdlmcdeddlccpaaRow
import Derived.Test.YtdlmcdeddlccpaaPixMatb
import Derived.Test.YtdlmcdeddlccpaaPixF
import Derived.Test.YtdlmcdeddlccpaaPixD
namespace Go.Proofs.Ytdlmcdeddlccpaa
open Go.RowKit
set_option linter.unusedVariables false
attribute [local go_sem ↓] Go.wp_at_zero Go.wp_at_succ

theorem form_ok (c m : Int) : Px.formatV (Px.formC c) (Px.formM m) = true := by
  have h := Px.around_lt m 65535 (by omega)
  have hc : Px.formC c = 1 ∨ Px.formC c = 3 := by unfold Px.formC; split <;> simp
  have hm : 1 ≤ Px.formM m ∧ Px.formM m ≤ 65535 := by unfold Px.formM; omega
  rcases hc with e | e <;> rw [e] <;> simp [Px.formatV, hm.1, hm.2]
theorem pack_smp {p : Int} (hU : Px.U p) (h : ¬ (Px.smp p).length = 0) : Px.packV (Px.smp p) = (p, 0) := by
  rcases Px.tri hU with ⟨a, b, c, h3⟩ | ⟨a, h1⟩ | h0
  · rw [Px.smp3 h3]; obtain ⟨rfl, ha0, ha1, hb0, hb1, hc0, hc1⟩ := h3; exact Px.packV3 ha0 ha1 hb0 hb1 hc0 hc1
  · rw [Px.smp1 h1]; obtain ⟨rfl, ha0, ha1⟩ := h1; exact Px.packV1 ha0 ha1
  · rw [Px.smp0 h0] at h; simp at h
theorem bt {w a b : World} (h : Below w.heap.size w a) (k : Below a.heap.size a b) : Below w.heap.size w b := h.trans (k.mono h.size)
theorem smp_len (p : Int) : (Px.smp p).length ≤ 3 := by
  unfold Px.smp; split <;> (try split) <;> simp

set_option maxRecDepth 100000 in
set_option maxHeartbeats 4000000 in
theorem pixUnpacks_walk (p : Int) (c m : Int) (w : World) (w0 : (Lit.int .u64 p).wf = true) (w10 : (Lit.int .i64 c).wf = true) (w11 : (Lit.int .i64 m).wf = true) :
    Calls Try.prog 4 #[.int .u64 p, .agg #[.int .i64 c, .int .i64 m]] w fun e w' => e = .returned (.bool true) ∧ Below w.heap.size w w' := by
  have hU := wf_u w0
  have hc := wf_i w10
  have hm := wf_i w11
  clear w0 w10 w11
  have FK := Lib.hid (form_ok c m)
  have LN := smp_len p
  obtain ⟨c', hc'⟩ : ∃ c', Px.formC c = c' := ⟨_, rfl⟩
  obtain ⟨m', hm'⟩ : ∃ m', Px.formM m = m' := ⟨_, rfl⟩
  have fk : Px.formatV c' m' = true := by rw [← hc', ← hm']; exact FK.out
  have HC := Lib.hid hc'; clear hc'
  have HM := Lib.hid hm'; clear hm'
  clear FK
  go_enter Try.func4, Try.ntmps4
  go_wp2_with fail
  refine (unpack_any p hU _).mono ?_
  rintro e w1 ⟨ad, cap, rfl, ho, hb1⟩
  have d0 : w1.cell? ⟨w.heap.size, 0, none⟩ = some (.int .i64 c) := cell_later hb1 (by simp [go_sem])
  have d1 : w1.cell? ⟨w.heap.size, 1, none⟩ = some (.int .i64 m) := cell_later hb1 (by simp [go_sem])
  have hz : w.heap.size < w1.heap.size := by have := hb1.size; simp at this; omega
  have hbb := box_below w _ _ hb1
  clear hb1
  have hs := ho.sl
  clear ho
  go_wp2_with fail
  refine (form_any c m hc hm _).mono ?_
  rw [HC.out, HM.out]
  rintro e w2 ⟨rfl, hb2⟩
  have e0 : w2.cell? ⟨w.heap.size, 0, none⟩ = some (.int .i64 c) := cell_later hb2 d0
  have e1 : w2.cell? ⟨w.heap.size, 1, none⟩ = some (.int .i64 m) := cell_later hb2 d1
  have hs2 := hs.below hb2
  have hz2 : w.heap.size < w2.heap.size := by have := hb2.size; omega
  have hbb2 := hbb.trans (hb2.mono (Nat.le_of_lt hz))
  clear hb2 d0 d1 hs hbb hz
  go_wp2_with fail
  have hS0 : (fun w' => w'.cell? ⟨w.heap.size, 0, none⟩ = some (.int .i64 c) ∧ w'.cell? ⟨w.heap.size, 1, none⟩ = some (.int .i64 m) ∧ w'.cell? ⟨w2.heap.size, 0, none⟩ = some (.int .i64 c') ∧ w'.cell? ⟨w2.heap.size, 1, none⟩ = some (.int .i64 m') ∧ Sl w' ad (Px.smp p).length (Px.smp p) ∧ Below w.heap.size w w') (w2.alloc (.cells #[.int .i64 c', .int .i64 m'] 36)).drew := by
    have hbx := ((Below.refl w2.heap.size w2).alloc (Nat.le_refl _) (.cells #[.int .i64 c', .int .i64 m'] 36)).drew
    exact ⟨cell_later hbx e0, cell_later hbx e1, by simp [go_sem], by simp [go_sem], hs2.below hbx, bt hbb2 hbx⟩
  have HS0 := Lib.hid hS0
  clear hS0 hs2 hbb2 e0 e1
  go_region_held3 (fun w' => w'.cell? ⟨w.heap.size, 0, none⟩ = some (.int .i64 c) ∧ w'.cell? ⟨w.heap.size, 1, none⟩ = some (.int .i64 m) ∧ w'.cell? ⟨w2.heap.size, 0, none⟩ = some (.int .i64 c') ∧ w'.cell? ⟨w2.heap.size, 1, none⟩ = some (.int .i64 m') ∧ Sl w' ad (Px.smp p).length (Px.smp p) ∧ Below w.heap.size w w')
    (first | exact HS0.out | go_keep | (go_split_ands; refine ⟨cell_later hb9 ?_, cell_later hb9 ?_, cell_later hb9 ?_, cell_later hb9 ?_, Sl.below ?_ hb9, bt ?_ hb9⟩ <;> assumption))
    (first | (go_at_call 18; refine (refUnpack_any p hU _).mono ?_; rintro e w9 ⟨ad9, cap9, rfl, ho9, hb9⟩; have hs9 := ho9.sl; clear ho9) | (go_at_call 15; go_split_ands; refine (same_any _ _ _ _ _ _ (Px.smp p) (Px.smp p) _ (by omega) ?_ hs9).mono ?_; assumption; rw [decide_eq_true rfl]; rintro e w9 ⟨rfl, hb9⟩) | (go_at_call 16; refine (may_any p hU _).mono ?_; rintro e w9 ⟨rfl, hb9⟩) | (go_at_call 19; refine (refMay_any p hU _).mono ?_; rintro e w9 ⟨rfl, hb9⟩) | (go_at_call 20; refine (fits_any p _ _ hU _).mono ?_; rintro e w9 ⟨rfl, hb9⟩) | (go_at_call 21; refine (refFits_any p _ _ hU _).mono ?_; rintro e w9 ⟨rfl, hb9⟩) | (go_at_call 22; refine (format_any _ _ _).mono ?_; rintro e w9 ⟨rfl, hb9⟩) | (go_at_call 23; refine (refFormat_any _ _ _).mono ?_; rintro e w9 ⟨rfl, hb9⟩))
  have hs3 : Sl w9 ad (Px.smp p).length (Px.smp p) := by go_split_ands; assumption
  have hb3 : Below w.heap.size w w9 := by go_split_ands; assumption
  cases k0 : (((Px.smp p).length : Int) == 0)
  · have X := Lib.hid (pack_smp hU (by simpa using k0))
    go_wp2_with fail
    refine (pack_any _ _ _ (Px.smp p) _ (by omega) hs3).mono ?_
    rw [X.out]
    rintro e w10 ⟨rfl, hw10⟩
    subst hw10
    go_wp2_with fail
    refine (lives_any _).mono ?_
    rintro e w10 ⟨rfl, hb10⟩
    have hb11 := bt hb3 hb10
    clear hb10
    go_wp2_with fail
    go_ret
    exact ⟨rfl, hb11⟩
  · go_wp2_with fail
    refine (lives_any _).mono ?_
    rintro e w10 ⟨rfl, hb10⟩
    have hb11 := bt hb3 hb10
    clear hb10
    go_wp2_with fail
    go_ret
    exact ⟨rfl, hb11⟩
end Go.Proofs.Ytdlmcdeddlccpaa
