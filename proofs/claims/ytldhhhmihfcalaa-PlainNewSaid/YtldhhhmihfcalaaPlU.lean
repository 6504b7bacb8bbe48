/- The document's reader of digits is told the end: what it comes to, over any memory. Condition: its head may be. -/
import Derived.Test.YtldhhhmihfcalaaPlT
namespace Go.Proofs.Ytldhhhmihfcalaa
open Go.RowKit
set_option linter.unusedVariables false

theorem zero_later {w w2 : World} {o : Obj} (hb : Below ((w.alloc o).alloc (.cells #[.int .i64 0, .int .i64 0, .int .i64 0, .int .i64 0, .int .i64 0, .slice none 0 0, .slice none 0 0, .int .i64 0, .int .i64 0, .int .i64 0] 77)).heap.size ((w.alloc o).alloc (.cells #[.int .i64 0, .int .i64 0, .int .i64 0, .int .i64 0, .int .i64 0, .slice none 0 0, .slice none 0 0, .int .i64 0, .int .i64 0, .int .i64 0] 77)) w2) :
    RbC w2 (w.heap.size + 1) Hd.none 0 (.slice none 0 0) (.slice none 0 0) 0 0 0 ∧ Below w.heap.size w w2 ∧ w.heap.size + 2 ≤ w2.heap.size := by
  have h := (RbC.new (w.alloc o) Hd.none 0 (.slice none 0 0) (.slice none 0 0) 0 0 0).later hb
  rw [World.size_alloc] at h
  refine ⟨h, (((Below.refl _ w).alloc (Nat.le_refl _) _).alloc (by simp) _).trans (hb.mono (by simp; omega)), ?_⟩
  have := hb.size; simp at this; omega
set_option maxRecDepth 100000 in
set_option maxHeartbeats 2000000 in
theorem refEb_any {s : Pl.S} (hG : Pl.Good s) (w : World) (a1 a2 : Option Addr) (d1 d2 : Nat) (S1 : SlK .i64 w a1 s.one.length s.one) (S2 : SlK .u64 w a2 s.row.length s.row) :
    Calls Try.prog 83 #[agR s.h (Pl.nn s) (.slice a1 s.one.length d1) (.slice a2 s.row.length d2) s.rows s.last s.e] w (RfW a1 a2 s.one s.row w (Pl.put s 32)) := by
  have hP := fun (W : World) (hb : Below w.heap.size w W) => refPut_any hG 32 (by decide) (by decide) W a1 a2 d1 d2 (S1.below hb) (S2.below hb)
  have hbl : Tk.blank 32 = true := by decide
  by_cases hs : s.d = true ∧ s.last = 0
  · obtain ⟨hd, h0⟩ := hs
    have hn : Pl.nn s = s.n := by unfold Pl.nn; rw [if_pos hd]
    have n0 := hG.n0
    have n0' : ¬ s.n < 0 := by omega
    have n0d : decide (s.n < 0) = false := decide_eq_false n0'
    rw [hn, h0] at hP
    rw [hn, h0]
    obtain ⟨q, hq⟩ : ∃ q, Pl.put s 32 = q := ⟨_, rfl⟩
    rw [hq] at hP ⊢
    have HP := Lib.hid hP
    have HS1 := Lib.hid S1
    have HS2 := Lib.hid S2
    clear hP hq hd h0 hn hbl S1 S2 hG
    unfold agR at HP ⊢
    go_enter Try.func83, Try.ntmps83
    go_wp2_with fail
    refine (HP.out _ (((Below.refl _ w).alloc (Nat.le_refl _) _).alloc (by simp) _)).mono ?_
    rintro x w2 ⟨v2, a, c, rfl, F, S, NA, hb2⟩
    obtain ⟨hz, hbw, hsz⟩ := zero_later hb2
    have F' := (F.mono (W := w) (by simp; omega))
    have HF := Lib.hid F
    have HS := Lib.hid S
    have HNA := Lib.hid NA
    have HZ2 := Lib.hid hz
    have HBW := Lib.hid hbw
    obtain ⟨b1, e1, b2, e2, rfl, F2⟩ := F
    unfold agR
    clear F2 F' S NA hb2 hz hbw
    obtain ⟨z0, z1, z2, z3, z4, z5, z6, z7, z8, z9⟩ := HZ2.out.cells
    obtain ⟨y0, y1, y2, y3, y4, y5, y6, y7, y8, y9⟩ := HZ2.out.frs
    have HPA := Lib.hid (HZ2.out.putAll q.1.h (Pl.nn q.1) (.slice b1 q.1.one.length e1) (.slice b2 q.1.row.length e2) q.1.rows q.1.last q.1.e)
    go_wp2
    have GP := Lib.hid (RbC.grownAll w2 (w.heap.size + 1) q.1.h (Pl.nn q.1) (.slice b1 q.1.one.length e1) (.slice b2 q.1.row.length e2) q.1.rows q.1.last q.1.e)
    have BP := Lib.hid ((Below.refl (w.heap.size + 1) w2).grown GP.out (by have := HZ2.out.lt; omega) (fun j ej => by cases ej; exact Nat.le_refl _))
    refine bodyPost_ret (ret_cell_tmp Try.results83 _ _ _ _ rfl (load_rR HPA.out)) rfl ?_
    exact ⟨_, a, c, rfl, (HF.out.far HS1.out HS2.out (b := w.heap.size + 1) (by omega) (by simp) GP.out).mono (by simp; omega), slk_kept (b := w.heap.size + 1) HS.out (far_of HNA.out (by simp)) GP.out, nw_mono (by simp; omega) HNA.out, HBW.out.trans (BP.out.mono (Nat.le_succ _))⟩
  · have hp : Pl.put s 32 = (s, []) := by
      unfold Pl.put
      by_cases h0 : s.last = 0
      · rw [if_neg (by omega), if_pos hbl, if_neg (fun h => hs ⟨h, h0⟩)]
      · rw [if_pos h0]
    rw [hp]
    refine (rfEb_same s.h (Pl.nn s) a1 a2 s.one.length d1 s.row.length d2 s.rows s.last s.e w ?_).mono ?_
    · unfold Pl.nn
      by_cases hd : s.d = true
      · rw [if_pos hd]
        have h0 : s.last ≠ 0 := fun h => hs ⟨hd, h⟩
        have := hG.n0
        exact .inr ⟨by omega, by simpa using h0⟩
      · rw [if_neg hd]; exact .inl (by decide)
    · intro e w' h
      exact rf_same S1 S2 _ _ _ _ h ⟨rfl, rfl, rfl, rfl, rfl, rfl, rfl⟩
set_option maxRecDepth 100000 in
set_option maxHeartbeats 2000000 in
theorem refEnd_any {s : Pl.S} (hG : Pl.Good s) (w : World) (a1 a2 : Option Addr) (d1 d2 : Nat) (S1 : SlK .i64 w a1 s.one.length s.one) (S2 : SlK .u64 w a2 s.row.length s.row) :
    Calls Try.prog 48 #[agR s.h (Pl.nn s) (.slice a1 s.one.length d1) (.slice a2 s.row.length d2) s.rows s.last s.e] w (RfW a1 a2 s.one s.row w (Pl.fin s)) := by
  have hP := fun (W : World) (hb : Below w.heap.size w W) => refEb_any hG W a1 a2 d1 d2 (S1.below hb) (S2.below hb)
  obtain ⟨q, hq⟩ : ∃ q, Pl.put s 32 = q := ⟨_, rfl⟩
  have HS1 := Lib.hid S1
  have HS2 := Lib.hid S2
  by_cases h0 : q.1.last = 0
  · have hf : Pl.fin s = (Pl.wrong q.1 6, q.2) := by unfold Pl.fin; rw [hq, if_pos h0]
    rw [hf]
    rw [hq] at hP
    have HP := Lib.hid hP
    have H0 := Lib.hid h0
    clear hP hq hf S1 S2 hG h0
    unfold agR at HP ⊢
    go_enter Try.func48, Try.ntmps48
    go_wp2_with fail
    refine (HP.out _ (((Below.refl _ w).alloc (Nat.le_refl _) _).alloc (by simp) _)).mono ?_
    rintro x w2 ⟨v2, a, c, rfl, F, S, NA, hb2⟩
    obtain ⟨hz, hbw, hsz⟩ := zero_later hb2
    have HF := Lib.hid F
    have HS := Lib.hid S
    have HNA := Lib.hid NA
    have HZ2 := Lib.hid hz
    have HBW := Lib.hid hbw
    obtain ⟨b1, e1, b2, e2, rfl, F2⟩ := F
    have HW := Lib.hid (refWrong_any q.1.h (Pl.nn q.1) b1 b2 q.1.one.length e1 q.1.row.length e2 q.1.rows q.1.last q.1.e 6)
    rw [H0.out] at HW
    unfold agR at HW ⊢
    rw [H0.out]
    clear F2 S NA hb2 hz hbw
    go_wp2_with fail
    refine (HW.out _).mono ?_
    rintro x w3 ⟨rfl, hb3⟩
    have HBx := Lib.hid (((Below.refl _ w2).alloc (Nat.le_refl _) _).trans (hb3.mono (by simp)))
    have HZ3 := Lib.hid (HZ2.out.later HBx.out)
    clear hb3
    obtain ⟨z0, z1, z2, z3, z4, z5, z6, z7, z8, z9⟩ := HZ3.out.cells
    obtain ⟨y0, y1, y2, y3, y4, y5, y6, y7, y8, y9⟩ := HZ3.out.frs
    have HPA := Lib.hid (HZ3.out.putAll q.1.h (Pl.nn q.1) (.slice b1 q.1.one.length e1) (.slice b2 q.1.row.length e2) q.1.rows 2 6)
    go_wp2
    have GP := Lib.hid (RbC.grownAll w3 (w.heap.size + 1) q.1.h (Pl.nn q.1) (.slice b1 q.1.one.length e1) (.slice b2 q.1.row.length e2) q.1.rows 2 6)
    have BP := Lib.hid ((Below.refl (w.heap.size + 1) w3).grown GP.out (by have := HZ3.out.lt; omega) (fun j ej => by cases ej; exact Nat.le_refl _))
    refine bodyPost_ret (ret_cell_tmp Try.results48 _ _ _ _ rfl (load_rR HPA.out)) rfl ?_
    have HFB := (((HF.out.later HBx.out).far HS1.out HS2.out (b := w.heap.size + 1) (by omega) (by simp) GP.out).mono (W := w) (by simp; omega))
    refine ⟨_, a, c, rfl, ?_, slk_kept (b := w.heap.size + 1) (HS.out.below HBx.out) (far_of HNA.out (by simp)) GP.out, nw_mono (by simp; omega) HNA.out, (HBW.out.trans (HBx.out.mono HBW.out.size)).trans (BP.out.mono (Nat.le_succ _))⟩
    obtain ⟨b3, e3, b4, e4, hv, g1, g2, g3, g4⟩ := HFB
    unfold agR at hv
    cases hv
    exact ⟨_, _, _, _, rfl, g1, g2, g3, g4⟩
  · have hf : Pl.fin s = q := by unfold Pl.fin; rw [hq, if_neg h0]
    rw [hf]
    rw [hq] at hP
    obtain ⟨t, ht⟩ : ∃ t, q.1.last = t := ⟨_, rfl⟩
    have htb : (t == 0) = false := by rw [← ht]; simpa using h0
    have HP := Lib.hid hP
    have HT := Lib.hid ht
    clear hP hq hf S1 S2 hG h0 ht
    unfold agR at HP ⊢
    go_enter Try.func48, Try.ntmps48
    go_wp2_with fail
    refine (HP.out _ (((Below.refl _ w).alloc (Nat.le_refl _) _).alloc (by simp) _)).mono ?_
    rintro x w2 ⟨v2, a, c, rfl, F, S, NA, hb2⟩
    obtain ⟨hz, hbw, hsz⟩ := zero_later hb2
    have HF := Lib.hid F
    have HS := Lib.hid S
    have HNA := Lib.hid NA
    have HZ2 := Lib.hid hz
    have HBW := Lib.hid hbw
    obtain ⟨b1, e1, b2, e2, rfl, F2⟩ := F
    unfold agR
    rw [HT.out]
    clear F2 S NA hb2 hz hbw
    go_upto_region 2 with fail
    generalize hW : w2.alloc (.cells #[.int .i64 q.1.h.kd, .int .i64 q.1.h.w, .int .i64 q.1.h.h, .int .i64 q.1.h.m, .int .i64 (Pl.nn q.1), .slice b1 q.1.one.length e1, .slice b2 q.1.row.length e2, .int .i64 q.1.rows, .int .i64 t, .int .i64 q.1.e] 77) = w5
    have HBx : Hid (Below w2.heap.size w2 w5) := by show Below _ _ _; rw [← hW]; exact box1' _ _
    have HB5 : Hid (RbC w5 w2.heap.size q.1.h (Pl.nn q.1) (.slice b1 q.1.one.length e1) (.slice b2 q.1.row.length e2) q.1.rows t q.1.e) := by show RbC _ _ _ _ _ _ _ _ _; rw [← hW]; exact RbC.new w2 _ _ _ _ _ _ _
    have HZ5 := Lib.hid (HZ2.out.later HBx.out)
    obtain ⟨x0, x1, x2, x3, x4, x5, x6, x7, x8, x9⟩ := HB5.out.cells
    clear hW HZ2 hsz
    obtain ⟨z0, z1, z2, z3, z4, z5, z6, z7, z8, z9⟩ := HZ5.out.cells
    obtain ⟨y0, y1, y2, y3, y4, y5, y6, y7, y8, y9⟩ := HZ5.out.frs
    have HPA := Lib.hid (HZ5.out.putAll q.1.h (Pl.nn q.1) (.slice b1 q.1.one.length e1) (.slice b2 q.1.row.length e2) q.1.rows t q.1.e)
    go_wp2
    have GP := Lib.hid (RbC.grownAll w5 (w.heap.size + 1) q.1.h (Pl.nn q.1) (.slice b1 q.1.one.length e1) (.slice b2 q.1.row.length e2) q.1.rows t q.1.e)
    have BP := Lib.hid ((Below.refl (w.heap.size + 1) w5).grown GP.out (by have := HZ5.out.lt; omega) (fun j ej => by cases ej; exact Nat.le_refl _))
    refine bodyPost_ret (ret_cell_tmp Try.results48 _ _ _ _ rfl (load_rR HPA.out)) rfl ?_
    have HFB := (((HF.out.later HBx.out).far HS1.out HS2.out (b := w.heap.size + 1) (by omega) (by simp) GP.out).mono (W := w) (by simp; omega))
    refine ⟨_, a, c, rfl, ?_, slk_kept (b := w.heap.size + 1) (HS.out.below HBx.out) (far_of HNA.out (by simp)) GP.out, nw_mono (by simp; omega) HNA.out, (HBW.out.trans (HBx.out.mono HBW.out.size)).trans (BP.out.mono (Nat.le_succ _))⟩
    unfold agR at HFB
    rw [HT.out] at HFB
    exact HFB
end Go.Proofs.Ytldhhhmihfcalaa
