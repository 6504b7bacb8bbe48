/- Heads that are made of any: at most so wide and high; of rasters of digits. Condition: a head's numbers fit. -/
import Derived.Test.YtldhhhmihfcalaaZgAE
namespace Go.Proofs.Ytldhhhmihfcalaa
open Go.RowKit
set_option linter.unusedVariables false
namespace Pl
def goodM (M : Int) (h : Hd.H) : Hd.H := ⟨1 + Ar.around h.kd 6, 1 + Ar.around h.w M, 1 + Ar.around h.h M, if Hd.bits (1 + Ar.around h.kd 6) = true then 1 else 1 + Ar.around h.m 65535⟩
theorem goodM_in (M : Int) (M0 : 1 ≤ M) (h : Hd.H) : (1 ≤ (goodM M h).kd ∧ (goodM M h).kd ≤ 6) ∧ (1 ≤ (goodM M h).w ∧ (goodM M h).w ≤ M) ∧ (1 ≤ (goodM M h).h ∧ (goodM M h).h ≤ M) ∧ (1 ≤ (goodM M h).m ∧ (goodM M h).m ≤ 65535) ∧ (Hd.bits (goodM M h).kd = true → (goodM M h).m = 1) := by
  have a := Ar.around_lt h.kd 6 (by omega)
  have b := Ar.around_lt h.w M (by omega)
  have c := Ar.around_lt h.h M (by omega)
  have d := Ar.around_lt h.m 65535 (by omega)
  unfold goodM
  refine ⟨by simp only []; omega, by simp only []; omega, by simp only []; omega, ?_, fun hb => if_pos hb⟩
  simp only []
  split <;> omega
theorem goodM_may (M : Int) (M0 : 1 ≤ M) (M1 : M ≤ 4096) (h : Hd.H) : Hd.May (goodM M h) := by
  obtain ⟨a, b, c, d, e⟩ := goodM_in M M0 h
  unfold Hd.May
  refine ⟨a, by omega, by omega, d, ?_⟩
  first
    | exact e
    | (intro hb; exact e hb)
    | (by_cases hb : Hd.bits (goodM M h).kd = true
       · exact .inl (e hb)
       · exact .inr hb)
def headV (M : Int) (h : Hd.H) : Hd.H := if 3 < (goodM M h).kd then ⟨(goodM M h).kd - 3, (goodM M h).w, (goodM M h).h, (goodM M h).m⟩ else goodM M h
end Pl
set_option maxHeartbeats 2000000 in
theorem hgoodM_any (M : Int) (M0 : 1 ≤ M) (M1 : M ≤ 65536) (h : Hd.H) (hf : Hj.Fit h) (w : World) :
    Calls Try.prog 26 #[agH h, .int .i64 M] w fun e w' => e = .returned (agH (Pl.goodM M h)) ∧ Below w.heap.size w w' := by
  obtain ⟨kd, ww, hh, m⟩ := h
  obtain ⟨i0, i1, i2, i3⟩ := hf
  simp only at i0 i1 i2 i3
  have HA : Hid (∀ W, Calls Try.prog 28 #[.int .i64 kd, .int .i64 6] W fun e w' => e = .returned (.int .i64 (Ar.around kd 6)) ∧ W = w') := fun W => aroundOf kd 6 i0.1 i0.2 (by omega) (by omega) W
  have HB : Hid (∀ W, Calls Try.prog 28 #[.int .i64 ww, .int .i64 M] W fun e w' => e = .returned (.int .i64 (Ar.around ww M)) ∧ W = w') := fun W => aroundOf ww M i1.1 i1.2 (by omega) (by omega) W
  have HC : Hid (∀ W, Calls Try.prog 28 #[.int .i64 hh, .int .i64 M] W fun e w' => e = .returned (.int .i64 (Ar.around hh M)) ∧ W = w') := fun W => aroundOf hh M i2.1 i2.2 (by omega) (by omega) W
  have HD : Hid (∀ W, Calls Try.prog 28 #[.int .i64 m, .int .i64 65535] W fun e w' => e = .returned (.int .i64 (Ar.around m 65535)) ∧ W = w') := fun W => aroundOf m 65535 i3.1 i3.2 (by omega) (by omega) W
  have b0 := Ar.around_lt kd 6 (by omega)
  have b1 := Ar.around_lt ww M (by omega)
  have b2 := Ar.around_lt hh M (by omega)
  have b3 := Ar.around_lt m 65535 (by omega)
  have X : Hid (Pl.goodM M ⟨kd, ww, hh, m⟩ = ⟨1 + Ar.around kd 6, 1 + Ar.around ww M, 1 + Ar.around hh M, if Hd.bits (1 + Ar.around kd 6) = true then 1 else 1 + Ar.around m 65535⟩) := rfl
  unfold agH
  rw [X.out]
  clear X
  generalize Ar.around kd 6 = x0 at *
  generalize Ar.around ww M = x1 at *
  generalize Ar.around hh M = x2 at *
  generalize Ar.around m 65535 = x3 at *
  obtain ⟨y0, hy0⟩ : ∃ y, 1 + x0 = y := ⟨_, rfl⟩
  obtain ⟨y1, hy1⟩ : ∃ y, 1 + x1 = y := ⟨_, rfl⟩
  obtain ⟨y2, hy2⟩ : ∃ y, 1 + x2 = y := ⟨_, rfl⟩
  obtain ⟨y3, hy3⟩ : ∃ y, 1 + x3 = y := ⟨_, rfl⟩
  have e0 : wrap64 (1 + x0) = y0 := by rw [IntWalk.wrap64_in] <;> omega
  have e1 : wrap64 (1 + x1) = y1 := by rw [IntWalk.wrap64_in] <;> omega
  have e2 : wrap64 (1 + x2) = y2 := by rw [IntWalk.wrap64_in] <;> omega
  have e3 : wrap64 (1 + x3) = y3 := by rw [IntWalk.wrap64_in] <;> omega
  have f0 : IntKind.i64.wrap (1 + x0) = y0 := by rw [IntWalk.i64_in] <;> omega
  have f1 : IntKind.i64.wrap (1 + x1) = y1 := by rw [IntWalk.i64_in] <;> omega
  have f2 : IntKind.i64.wrap (1 + x2) = y2 := by rw [IntWalk.i64_in] <;> omega
  rw [hy0, hy1, hy2, hy3]
  have HBT := Lib.hid (bits_any y0)
  clear b0 b1 b2 b3 hy0 hy1 hy2 hy3 i0 i1 i2 i3
  obtain ⟨g, hg⟩ : ∃ g, Hd.bits y0 = g := ⟨_, rfl⟩
  rw [hg] at HBT ⊢
  go_enter Try.func26, Try.ntmps26
  go_wp2_with fail
  obtain ⟨W, hW⟩ : ∃ W, (w.alloc (Obj.cells #[Value.int IntKind.i64 kd, Value.int IntKind.i64 ww, Value.int IntKind.i64 hh, Value.int IntKind.i64 m] 42)).alloc (Obj.cells #[Value.int IntKind.i64 0, Value.int IntKind.i64 0, Value.int IntKind.i64 0, Value.int IntKind.i64 0] 42) = W := ⟨_, rfl⟩
  have hA := Hb.alloc (Hb.new w 42 ⟨kd, ww, hh, m⟩) (Obj.cells #[Value.int IntKind.i64 0, Value.int IntKind.i64 0, Value.int IntKind.i64 0, Value.int IntKind.i64 0] 42)
  have hZ := Hb.new (w.alloc (Obj.cells #[Value.int IntKind.i64 kd, Value.int IntKind.i64 ww, Value.int IntKind.i64 hh, Value.int IntKind.i64 m] 42)) 42 Hd.none
  have hBW : Below w.heap.size w W := by rw [← hW]; exact ((Below.refl _ w).alloc (Nat.le_refl _) _).alloc (by simp) _
  have hAW : Hb W w.heap.size 42 ⟨kd, ww, hh, m⟩ := by rw [← hW]; exact hA
  have hZW : Hb W (w.heap.size + 1) 42 Hd.none := by rw [← hW, ← World.size_alloc w]; exact hZ
  obtain ⟨n0, n1, n2, n3⟩ := hAW.cells
  have HZ := Lib.hid hZW
  have HA3 := Lib.hid hAW
  have HB0 := Lib.hid hBW
  have hBr : Below W.heap.size W W := .refl _ _
  try simp only [World.size_alloc]
  rw [hW]
  clear hW hA hZ hBW hAW hZW
  go_cut [5] (fun s5 wx => ∃ p, s5 = .pointer (some ⟨p, 0, none⟩) ∧ Hb wx p 42 ⟨y0, y1, y2, 1⟩ ∧ W.heap.size ≤ p ∧ Below W.heap.size W wx)
  case first =>
    go_region_held3 (fun w' => w'.cell? ⟨w.heap.size, 0, none⟩ = some (.int .i64 kd) ∧ w'.cell? ⟨w.heap.size, 1, none⟩ = some (.int .i64 ww) ∧ w'.cell? ⟨w.heap.size, 2, none⟩ = some (.int .i64 hh))
      (first | exact ⟨n0, n1, n2⟩ | exact ⟨cell_later (hBr.alloc (Nat.le_refl _) _) n0, cell_later (hBr.alloc (Nat.le_refl _) _) n1, cell_later (hBr.alloc (Nat.le_refl _) _) n2⟩ | exact ⟨cell_later (hBr.drew.alloc (Nat.le_refl _) _) n0, cell_later (hBr.drew.alloc (Nat.le_refl _) _) n1, cell_later (hBr.drew.alloc (Nat.le_refl _) _) n2⟩)
      (first
        | (go_at_call 28; with_reducible refine (HA.out _).mono ?_; rintro e w9 ⟨rfl, rfl⟩)
        | (go_at_call 28; with_reducible refine (HB.out _).mono ?_; rintro e w9 ⟨rfl, rfl⟩)
        | (go_at_call 28; with_reducible refine (HC.out _).mono ?_; rintro e w9 ⟨rfl, rfl⟩))
    all_goals
      go_wp2_with fail
      go_meet
      case rel => exact ⟨_, rfl, Hb.new _ _ ⟨y0, y1, y2, 1⟩, Nat.le_refl _, (show Below W.heap.size W W.drew from hBr.drew).alloc (Nat.le_refl _) _⟩
  case rest =>
    obtain ⟨p, rfl, hP, hp, hBx⟩ := hcut
    have HP := Lib.hid hP
    have hZ2 := HZ.out.later hBx
    have hA2 := HA3.out.later hBx
    have HZ2 := Lib.hid hZ2
    have hne : w.heap.size + 1 ≠ p := by have := HZ.out.lt; omega
    have hbw := HB0.out.trans (hBx.mono HB0.out.size)
    obtain ⟨a0, a1, a2, a3⟩ := hP.cells
    obtain ⟨c0, c1, c2, c3⟩ := hP.fr
    obtain ⟨z0, z1, z2, z3⟩ := hZ2.cells
    obtain ⟨u0, u1, u2, u3⟩ := hZ2.fr
    obtain ⟨q0, q1, q2, q3⟩ := hA2.cells
    have hpw : w.heap.size ≤ p := Nat.le_trans HB0.out.size hp
    clear hP hZ2 hA2 n0 n1 n2 n3 hBx hBr
    cases g with
    | true =>
      go_wp2_with (go_at_call 68; refine (HBT.out _).mono ?_; rintro e w9 ⟨rfl, rfl⟩)
      refine bodyPost_ret (Hj.ret1 Try.results26 _ _ _ _ rfl (load_rh (HZ2.out.put ⟨y0, y1, y2, 1⟩))) rfl ?_
      exact ⟨rfl, (((hbw.setCell (Nat.le_succ _) _).setCell (Nat.le_succ _) _).setCell (Nat.le_succ _) _).setCell (Nat.le_succ _) _⟩
    | false =>
      go_wp2_with (first
        | (go_at_call 68; refine (HBT.out _).mono ?_; rintro e w9 ⟨rfl, rfl⟩)
        | (go_at_call 28; with_reducible refine (HD.out _).mono ?_; rintro e w9 ⟨rfl, rfl⟩))
      refine bodyPost_ret (Hj.ret1 Try.results26 _ _ _ _ rfl (load_rh ((HZ2.out.kept (grown_setCell _ _ _ _) (by intro e; injection e with e; exact hne e)).put ⟨y0, y1, y2, y3⟩))) rfl ?_
      exact ⟨rfl, ((((hbw.setCell hpw _).setCell (Nat.le_succ _) _).setCell (Nat.le_succ _) _).setCell (Nat.le_succ _) _).setCell (Nat.le_succ _) _⟩
end Go.Proofs.Ytldhhhmihfcalaa
