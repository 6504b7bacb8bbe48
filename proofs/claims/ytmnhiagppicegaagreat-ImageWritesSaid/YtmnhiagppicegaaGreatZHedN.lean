/- Which heads may be, told by head, over any memory. Condition: numbers fit their kinds. -/
import Derived.Test.YtmnhiagppicegaaGreatZgAC
import Derived.Test.YtmnhiagppicegaaGreatZgAA
namespace Go.Proofs.YtmnhiagppicegaaGreat
open Go.RowKit
set_option linter.unusedVariables false

theorem Hd.lim_self {n hi : Int} (h : 1 ≤ hi) : Hd.lim n hi = n ↔ 1 ≤ n ∧ n ≤ hi := by
  unfold Hd.lim; split
  · constructor <;> intro h <;> omega
  · split
    · constructor <;> intro h <;> omega
    · constructor <;> intro h <;> omega
theorem Hj.may_eq {kd w h m : Int} : decide (Hd.May ⟨kd, w, h, m⟩) = (((kd == Hd.lim kd 6) && (w == Hd.lim w 4096)) && (h == Hd.lim h 65536) && (m == Hd.lim m (if Hd.bits kd = true then 1 else 65535))) := by
  have e1 := Hd.lim_self (n := kd) (hi := 6) (by omega)
  have e2 := Hd.lim_self (n := w) (hi := 4096) (by omega)
  have e3 := Hd.lim_self (n := h) (hi := 65536) (by omega)
  have e4 := Hd.lim_self (n := m) (hi := if Hd.bits kd = true then 1 else 65535) (by split <;> omega)
  rw [Bool.eq_iff_iff]
  simp only [decide_eq_true_eq, Bool.and_eq_true, beq_iff_eq]
  rw [eq_comm (a := kd), eq_comm (a := w), eq_comm (a := h), eq_comm (a := m), e1, e2, e3, e4]
  unfold Hd.May
  simp only []
  constructor
  · rintro ⟨h1, h2, h3, h4, h5⟩
    refine ⟨⟨⟨h1, h2⟩, h3⟩, h4.1, ?_⟩
    split
    · rename_i hb; rw [h5 hb]; omega
    · exact h4.2
  · rintro ⟨⟨⟨h1, h2⟩, h3⟩, h4, h5⟩
    refine ⟨h1, h2, h3, ⟨h4, ?_⟩, fun hb => ?_⟩
    · split at h5 <;> omega
    · rw [if_pos hb] at h5; omega
set_option maxHeartbeats 4000000 in
theorem hmay_any (h : Hd.H) (hf : Hj.Fit h) (w : World) :
    Calls Tryz.prog 86 #[agH h] w fun e w' => e = .returned (.bool (decide (Hd.May h))) ∧ Below w.heap.size w w' := by
  obtain ⟨kd, ww, hh, m⟩ := h
  have HT := Lib.hid (tells_any kd)
  have X := Lib.hid (Hj.may_eq (kd := kd) (w := ww) (h := hh) (m := m))
  obtain ⟨g, hg⟩ : ∃ g, Hd.bits kd = g := ⟨_, rfl⟩
  rw [hg] at HT X
  unfold agH
  clear hg hf
  go_enter Tryz.func86, Tryz.ntmps86
  go_wp2_with fail
  refine (hall_any _).mono ?_
  rintro e w1 ⟨rfl, hB⟩
  have hA := (Hb.new w 49 ⟨kd, ww, hh, m⟩).later hB
  have hBw : Below w.heap.size w w1 := ((Below.refl _ w).alloc (Nat.le_refl _) _).trans (hB.mono (by simp))
  have HA := Lib.hid hA
  have HB := Lib.hid hBw
  obtain ⟨a0, a1, a2, a3⟩ := hA.cells
  have hlt := hA.lt
  clear hB hBw hA
  cases g with
  | true =>
    have X2 : Hid (decide (Hd.May ⟨kd, ww, hh, m⟩) = Hj.same4 kd ww hh m (Hd.lim kd 6) (Hd.lim ww 4096) (Hd.lim hh 65536) (Hd.lim m 1)) := X.out
    go_wp2_with (first | (go_at_call 88; refine (HT.out _).mono ?_; rintro e w9 ⟨rfl, rfl⟩) | fail)
    obtain ⟨W, hW⟩ : ∃ W, w1.alloc (Obj.cells #[Value.int IntKind.i64 4096, Value.int IntKind.i64 65536, Value.int IntKind.i64 1] 55) = W := ⟨_, rfl⟩
    have hBW : Below w1.heap.size w1 W := by rw [← hW]; exact (Below.refl _ _).alloc (Nat.le_refl _) _
    have n0 := cell_later hBW a0
    have n1 := cell_later hBW a1
    have n2 := cell_later hBW a2
    have n3 := cell_later hBW a3
    have l0 : W.cell? ⟨w1.heap.size, 0, none⟩ = some (.int .i64 4096) := by rw [← hW]; simp [go_sem]
    have l1 : W.cell? ⟨w1.heap.size, 1, none⟩ = some (.int .i64 65536) := by rw [← hW]; simp [go_sem]
    have l2 : W.cell? ⟨w1.heap.size, 2, none⟩ = some (.int .i64 1) := by rw [← hW]; simp [go_sem]
    have hBz := Lib.hid (HB.out.trans (hBW.mono HB.out.size))
    have hBr : Below W.heap.size W W := .refl _ _
    have hq := heq_run kd ww hh m (Hd.lim kd 6) (Hd.lim ww 4096) (Hd.lim hh 65536) (Hd.lim m 1)
    have hqg := heq_guard
    rw [hW]
    clear hW hBW a0 a1 a2 a3 X hlt
    go_region_held3 (fun w' => w'.cell? ⟨w.heap.size, 0, none⟩ = some (.int .i64 kd) ∧ w'.cell? ⟨w.heap.size, 1, none⟩ = some (.int .i64 ww) ∧ w'.cell? ⟨w.heap.size, 2, none⟩ = some (.int .i64 hh) ∧ w'.cell? ⟨w.heap.size, 3, none⟩ = some (.int .i64 m) ∧ w'.cell? ⟨w1.heap.size, 0, none⟩ = some (.int .i64 4096) ∧ w'.cell? ⟨w1.heap.size, 1, none⟩ = some (.int .i64 65536) ∧ w'.cell? ⟨w1.heap.size, 2, none⟩ = some (.int .i64 1))
      (first | exact ⟨n0, n1, n2, n3, l0, l1, l2⟩ | exact ⟨cell_later hBr n0, cell_later hBr n1, cell_later hBr n2, cell_later hBr n3, cell_later hBr l0, cell_later hBr l1, cell_later hBr l2⟩)
      (first
        | (go_at_call 132; refine (upTo_any _ _).mono ?_; rintro e w9 ⟨v, rfl, ⟨bk, rfl, hcl⟩, hb9⟩; replace hBr := bel_step (w := W) (by first | exact hBr | exact hBr.drew) hb9)
        | (go_at_call 167; refine (upTo1_any _ _ (by omega) _ _ hcl).mono ?_; rintro e w9 ⟨rfl, rfl⟩))
    all_goals
      go_wp2
      go_ret
      exact ⟨Hj.ret_d X2.out, hBz.out.trans (hBr.mono hBz.out.size)⟩
  | false =>
    have X2 : Hid (decide (Hd.May ⟨kd, ww, hh, m⟩) = Hj.same4 kd ww hh m (Hd.lim kd 6) (Hd.lim ww 4096) (Hd.lim hh 65536) (Hd.lim m 65535)) := X.out
    go_wp2_with (first | (go_at_call 88; refine (HT.out _).mono ?_; rintro e w9 ⟨rfl, rfl⟩) | fail)
    obtain ⟨W, hW⟩ : ∃ W, w1.alloc (Obj.cells #[Value.int IntKind.i64 4096, Value.int IntKind.i64 65536, Value.int IntKind.i64 65535] 55) = W := ⟨_, rfl⟩
    have hBW : Below w1.heap.size w1 W := by rw [← hW]; exact (Below.refl _ _).alloc (Nat.le_refl _) _
    have n0 := cell_later hBW a0
    have n1 := cell_later hBW a1
    have n2 := cell_later hBW a2
    have n3 := cell_later hBW a3
    have l0 : W.cell? ⟨w1.heap.size, 0, none⟩ = some (.int .i64 4096) := by rw [← hW]; simp [go_sem]
    have l1 : W.cell? ⟨w1.heap.size, 1, none⟩ = some (.int .i64 65536) := by rw [← hW]; simp [go_sem]
    have l2 : W.cell? ⟨w1.heap.size, 2, none⟩ = some (.int .i64 65535) := by rw [← hW]; simp [go_sem]
    have hBz := Lib.hid (HB.out.trans (hBW.mono HB.out.size))
    have hBr : Below W.heap.size W W := .refl _ _
    have hq := heq_run kd ww hh m (Hd.lim kd 6) (Hd.lim ww 4096) (Hd.lim hh 65536) (Hd.lim m 65535)
    have hqg := heq_guard
    rw [hW]
    clear hW hBW a0 a1 a2 a3 X hlt
    go_region_held3 (fun w' => w'.cell? ⟨w.heap.size, 0, none⟩ = some (.int .i64 kd) ∧ w'.cell? ⟨w.heap.size, 1, none⟩ = some (.int .i64 ww) ∧ w'.cell? ⟨w.heap.size, 2, none⟩ = some (.int .i64 hh) ∧ w'.cell? ⟨w.heap.size, 3, none⟩ = some (.int .i64 m) ∧ w'.cell? ⟨w1.heap.size, 0, none⟩ = some (.int .i64 4096) ∧ w'.cell? ⟨w1.heap.size, 1, none⟩ = some (.int .i64 65536) ∧ w'.cell? ⟨w1.heap.size, 2, none⟩ = some (.int .i64 65535))
      (first | exact ⟨n0, n1, n2, n3, l0, l1, l2⟩ | exact ⟨cell_later hBr n0, cell_later hBr n1, cell_later hBr n2, cell_later hBr n3, cell_later hBr l0, cell_later hBr l1, cell_later hBr l2⟩)
      (first
        | (go_at_call 132; refine (upTo_any _ _).mono ?_; rintro e w9 ⟨v, rfl, ⟨bk, rfl, hcl⟩, hb9⟩; replace hBr := bel_step (w := W) (by first | exact hBr | exact hBr.drew) hb9)
        | (go_at_call 167; refine (upTo1_any _ _ (by omega) _ _ hcl).mono ?_; rintro e w9 ⟨rfl, rfl⟩))
    all_goals
      go_wp2
      go_ret
      exact ⟨Hj.ret_d X2.out, hBz.out.trans (hBr.mono hBz.out.size)⟩
end Go.Proofs.YtmnhiagppicegaaGreat
