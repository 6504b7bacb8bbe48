/- Heads that may be, made of any; the greatest limits; the format of a head's pixels and how many bytes its raster has, over any memory. Condition: numbers fit their kinds. -/
import Derived.Test.YtkphfpckkmendaaHedP
import Derived.Test.YtkphfpckkmendaaHedHb
import Derived.Deep.RegionHeld3
import Derived.Deep.DeepCutAuto
import Derived.Deep.QuietTactic
import Derived.BigQuiet
import Derived.Lib.Hide
namespace Go.Proofs.Ytkphfpckkmendaa
open Go.RowKit
set_option linter.unusedVariables false
namespace Hj
def gdk (k : Int) : Int := 1 + Ar.around k 6
def good (h : Hd.H) : Hd.H := ⟨gdk h.kd, 1 + Ar.around h.w 4096, 1 + Ar.around h.h 4096, if Hd.bits (gdk h.kd) = true then 1 else 1 + Ar.around h.m 65535⟩
theorem may_good (h : Hd.H) : Hd.May (good h) := by
  have a := Ar.around_lt h.kd 6 (by omega)
  have b := Ar.around_lt h.w 4096 (by omega)
  have c := Ar.around_lt h.h 4096 (by omega)
  have d := Ar.around_lt h.m 65535 (by omega)
  unfold Hd.May good gdk
  simp only []
  refine ⟨by omega, by omega, by omega, ?_, fun h => by rw [if_pos h]⟩
  split <;> omega
theorem good_h (h : Hd.H) : (good h).h ≤ 4096 := by
  have c := Ar.around_lt h.h 4096 (by omega)
  unfold good; simp only []; omega
/-- a head whose numbers fit their kinds -/
def Fit (h : Hd.H) : Prop := Nu.I h.kd ∧ Nu.I h.w ∧ Nu.I h.h ∧ Nu.I h.m
/-- how many samples a pixel has -/
def chan (h : Hd.H) : Int := if h.kd = 3 ∨ h.kd = 6 then 3 else 1
def size (h : Hd.H) : Int := if h.kd < 4 then 0 else if h.kd = 4 then h.h * ((h.w + 7) / 8) else h.w * h.h * chan h * (if 255 < h.m then 2 else 1)
end Hj
theorem grown_setCell (W : World) (b o : Nat) (v : Value) : W.grownBy (W.setCell ⟨b, o, none⟩ v) (some b) :=
  ⟨rfl, rfl, rfl, by simp, fun k hk hn => Below.heap_setCell W _ v k (by intro e; exact hn (by rw [e]))⟩
set_option maxHeartbeats 1000000 in
theorem hall_any (w : World) : Calls Try.prog 10 #[] w fun e w' => e = .returned (.agg #[.int .i64 4096, .int .i64 65536, .int .i64 65535]) ∧ Below w.heap.size w w' := by
  go_enter Try.func10, Try.ntmps10
  go_wp2
  go_returns
  exact ⟨rfl, by go_grown⟩
set_option maxHeartbeats 1000000 in
theorem bits_any (k : Int) (w : World) :
    Calls Try.prog 19 #[.int .i64 k] w fun e w' => e = .returned (.bool (Hd.bits k)) ∧ w = w' := by
  have rb : ∀ {a b : Bool}, a = b → Ending.returned (.bool a) = .returned (.bool b) := fun h => by rw [h]
  by_cases h1 : k = 1
  · subst h1
    have X := Lib.hid (show Hd.bits 1 = true by decide)
    go_enter Try.func19, Try.ntmps19
    go_wp2
    go_ret
    exact ⟨rb X.out.symm, rfl⟩
  by_cases h4 : k = 4
  · subst h4
    have X := Lib.hid (show Hd.bits 4 = true by decide)
    go_enter Try.func19, Try.ntmps19
    go_wp2
    go_ret
    exact ⟨rb X.out.symm, rfl⟩
  · have X := Lib.hid (show Hd.bits k = false by unfold Hd.bits; exact decide_eq_false (by omega))
    have k1 : (k == 1) = false := by simpa using h1
    have k4 : (k == 4) = false := by simpa using h4
    go_enter Try.func19, Try.ntmps19
    go_wp2
    go_ret
    exact ⟨rb X.out.symm, rfl⟩
set_option maxHeartbeats 2000000 in
theorem hgood_any (h : Hd.H) (hf : Hj.Fit h) (w : World) :
    Calls Try.prog 7 #[agH h, .int .i64 4096] w fun e w' => e = .returned (agH (Hj.good h)) ∧ Below w.heap.size w w' := by
  obtain ⟨kd, ww, hh, m⟩ := h
  obtain ⟨i0, i1, i2, i3⟩ := hf
  simp only at i0 i1 i2 i3
  have HA : Hid (∀ W, Calls Try.prog 9 #[.int .i64 kd, .int .i64 6] W fun e w' => e = .returned (.int .i64 (Ar.around kd 6)) ∧ W = w') := fun W => aroundOf kd 6 i0.1 i0.2 (by omega) (by omega) W
  have HB : Hid (∀ W, Calls Try.prog 9 #[.int .i64 ww, .int .i64 4096] W fun e w' => e = .returned (.int .i64 (Ar.around ww 4096)) ∧ W = w') := fun W => aroundOf ww 4096 i1.1 i1.2 (by omega) (by omega) W
  have HC : Hid (∀ W, Calls Try.prog 9 #[.int .i64 hh, .int .i64 4096] W fun e w' => e = .returned (.int .i64 (Ar.around hh 4096)) ∧ W = w') := fun W => aroundOf hh 4096 i2.1 i2.2 (by omega) (by omega) W
  have HD : Hid (∀ W, Calls Try.prog 9 #[.int .i64 m, .int .i64 65535] W fun e w' => e = .returned (.int .i64 (Ar.around m 65535)) ∧ W = w') := fun W => aroundOf m 65535 i3.1 i3.2 (by omega) (by omega) W
  have b0 := Ar.around_lt kd 6 (by omega)
  have b1 := Ar.around_lt ww 4096 (by omega)
  have b2 := Ar.around_lt hh 4096 (by omega)
  have b3 := Ar.around_lt m 65535 (by omega)
  have X : Hid (Hj.good ⟨kd, ww, hh, m⟩ = ⟨1 + Ar.around kd 6, 1 + Ar.around ww 4096, 1 + Ar.around hh 4096, if Hd.bits (1 + Ar.around kd 6) = true then 1 else 1 + Ar.around m 65535⟩) := rfl
  unfold agH
  rw [X.out]
  clear X
  generalize Ar.around kd 6 = x0 at *
  generalize Ar.around ww 4096 = x1 at *
  generalize Ar.around hh 4096 = x2 at *
  generalize Ar.around m 65535 = x3 at *
  obtain ⟨y0, hy0⟩ : ∃ y, 1 + x0 = y := ⟨_, rfl⟩
  obtain ⟨y1, hy1⟩ : ∃ y, 1 + x1 = y := ⟨_, rfl⟩
  obtain ⟨y2, hy2⟩ : ∃ y, 1 + x2 = y := ⟨_, rfl⟩
  obtain ⟨y3, hy3⟩ : ∃ y, 1 + x3 = y := ⟨_, rfl⟩
  have e0 : wrap64 (1 + x0) = y0 := by rw [IntWalk.wrap64_in] <;> omega
  have e1 : wrap64 (1 + x1) = y1 := by rw [IntWalk.wrap64_in] <;> omega
  have e2 : wrap64 (1 + x2) = y2 := by rw [IntWalk.wrap64_in] <;> omega
  have e3 : wrap64 (1 + x3) = y3 := by rw [IntWalk.wrap64_in] <;> omega
  have f0 : IntKind.i64.wrap (1 + x0) = y0 := by rw [IntWalk.i64_in] <;> omega
  have f1 : IntKind.i64.wrap (1 + x1) = y1 := by rw [IntWalk.i64_in] <;> omega
  have f2 : IntKind.i64.wrap (1 + x2) = y2 := by rw [IntWalk.i64_in] <;> omega
  rw [hy0, hy1, hy2, hy3]
  have HBT := Lib.hid (bits_any y0)
  clear b0 b1 b2 b3 hy0 hy1 hy2 hy3 i0 i1 i2 i3
  obtain ⟨g, hg⟩ : ∃ g, Hd.bits y0 = g := ⟨_, rfl⟩
  rw [hg] at HBT ⊢
  go_enter Try.func7, Try.ntmps7
  go_wp2_with fail
  obtain ⟨W, hW⟩ : ∃ W, (w.alloc (Obj.cells #[Value.int IntKind.i64 kd, Value.int IntKind.i64 ww, Value.int IntKind.i64 hh, Value.int IntKind.i64 m] 25)).alloc (Obj.cells #[Value.int IntKind.i64 0, Value.int IntKind.i64 0, Value.int IntKind.i64 0, Value.int IntKind.i64 0] 25) = W := ⟨_, rfl⟩
  have hA := Hb.alloc (Hb.new w 25 ⟨kd, ww, hh, m⟩) (Obj.cells #[Value.int IntKind.i64 0, Value.int IntKind.i64 0, Value.int IntKind.i64 0, Value.int IntKind.i64 0] 25)
  have hZ := Hb.new (w.alloc (Obj.cells #[Value.int IntKind.i64 kd, Value.int IntKind.i64 ww, Value.int IntKind.i64 hh, Value.int IntKind.i64 m] 25)) 25 Hd.none
  have hBW : Below w.heap.size w W := by rw [← hW]; exact ((Below.refl _ w).alloc (Nat.le_refl _) _).alloc (by simp) _
  have hAW : Hb W w.heap.size 25 ⟨kd, ww, hh, m⟩ := by rw [← hW]; exact hA
  have hZW : Hb W (w.heap.size + 1) 25 Hd.none := by rw [← hW, ← World.size_alloc w]; exact hZ
  obtain ⟨n0, n1, n2, n3⟩ := hAW.cells
  have HZ := Lib.hid hZW
  have HA3 := Lib.hid hAW
  have HB0 := Lib.hid hBW
  have hBr : Below W.heap.size W W := .refl _ _
  try simp only [World.size_alloc]
  rw [hW]
  clear hW hA hZ hBW hAW hZW
  go_cut [5] (fun s5 wx => ∃ p, s5 = .pointer (some ⟨p, 0, none⟩) ∧ Hb wx p 25 ⟨y0, y1, y2, 1⟩ ∧ W.heap.size ≤ p ∧ Below W.heap.size W wx)
  case first =>
    go_region_held3 (fun w' => w'.cell? ⟨w.heap.size, 0, none⟩ = some (.int .i64 kd) ∧ w'.cell? ⟨w.heap.size, 1, none⟩ = some (.int .i64 ww) ∧ w'.cell? ⟨w.heap.size, 2, none⟩ = some (.int .i64 hh))
      (first | exact ⟨n0, n1, n2⟩ | exact ⟨cell_later (hBr.alloc (Nat.le_refl _) _) n0, cell_later (hBr.alloc (Nat.le_refl _) _) n1, cell_later (hBr.alloc (Nat.le_refl _) _) n2⟩ | exact ⟨cell_later (hBr.drew.alloc (Nat.le_refl _) _) n0, cell_later (hBr.drew.alloc (Nat.le_refl _) _) n1, cell_later (hBr.drew.alloc (Nat.le_refl _) _) n2⟩)
      (first
        | (go_at_call 9; with_reducible refine (HA.out _).mono ?_; rintro e w9 ⟨rfl, rfl⟩)
        | (go_at_call 9; with_reducible refine (HB.out _).mono ?_; rintro e w9 ⟨rfl, rfl⟩)
        | (go_at_call 9; with_reducible refine (HC.out _).mono ?_; rintro e w9 ⟨rfl, rfl⟩))
    all_goals
      go_wp2_with fail
      go_meet
      case rel => exact ⟨_, rfl, Hb.new _ _ ⟨y0, y1, y2, 1⟩, Nat.le_refl _, (show Below W.heap.size W W.drew from hBr.drew).alloc (Nat.le_refl _) _⟩
  case rest =>
    obtain ⟨p, rfl, hP, hp, hBx⟩ := hcut
    have HP := Lib.hid hP
    have hZ2 := HZ.out.later hBx
    have hA2 := HA3.out.later hBx
    have HZ2 := Lib.hid hZ2
    have hne : w.heap.size + 1 ≠ p := by have := HZ.out.lt; omega
    have hbw := HB0.out.trans (hBx.mono HB0.out.size)
    obtain ⟨a0, a1, a2, a3⟩ := hP.cells
    obtain ⟨c0, c1, c2, c3⟩ := hP.fr
    obtain ⟨z0, z1, z2, z3⟩ := hZ2.cells
    obtain ⟨u0, u1, u2, u3⟩ := hZ2.fr
    obtain ⟨q0, q1, q2, q3⟩ := hA2.cells
    have hpw : w.heap.size ≤ p := Nat.le_trans HB0.out.size hp
    clear hP hZ2 hA2 n0 n1 n2 n3 hBx hBr
    cases g with
    | true =>
      go_wp2_with (go_at_call 19; refine (HBT.out _).mono ?_; rintro e w9 ⟨rfl, rfl⟩)
      refine bodyPost_ret (Hj.ret1 Try.results7 _ _ _ _ rfl (load_rh (HZ2.out.put ⟨y0, y1, y2, 1⟩))) rfl ?_
      exact ⟨rfl, (((hbw.setCell (Nat.le_succ _) _).setCell (Nat.le_succ _) _).setCell (Nat.le_succ _) _).setCell (Nat.le_succ _) _⟩
    | false =>
      go_wp2_with (first
        | (go_at_call 19; refine (HBT.out _).mono ?_; rintro e w9 ⟨rfl, rfl⟩)
        | (go_at_call 9; with_reducible refine (HD.out _).mono ?_; rintro e w9 ⟨rfl, rfl⟩))
      refine bodyPost_ret (Hj.ret1 Try.results7 _ _ _ _ rfl (load_rh ((HZ2.out.kept (grown_setCell _ _ _ _) (by intro e; injection e with e; exact hne e)).put ⟨y0, y1, y2, y3⟩))) rfl ?_
      exact ⟨rfl, ((((hbw.setCell hpw _).setCell (Nat.le_succ _) _).setCell (Nat.le_succ _) _).setCell (Nat.le_succ _) _).setCell (Nat.le_succ _) _⟩
end Go.Proofs.Ytkphfpckkmendaa
