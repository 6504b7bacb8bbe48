/- Heads of rasters of digits, made of any, by the document; the document's example. Condition: a head's numbers fit. -/
import Derived.Test.YtldhhhmihfcalaaPlH
import Derived.Test.YtldhhhmihfcalaaPlK
import Derived.Test.YtldhhhmihfcalaaSamU
namespace Go.Proofs.Ytldhhhmihfcalaa
open Go.RowKit
set_option linter.unusedVariables false

theorem Pl.headV_in (M : Int) (M0 : 1 ≤ M) (M1 : M ≤ 4096) (h : Hd.H) : Pl.May (Pl.headV M h) ∧ (Pl.headV M h).w ≤ M ∧ (Pl.headV M h).h ≤ M := by
  obtain ⟨a, b, c, d, e⟩ := Pl.goodM_in M M0 h
  unfold Pl.headV
  by_cases hk : 3 < (Pl.goodM M h).kd
  · rw [if_pos hk]
    refine ⟨⟨⟨by simp only []; omega, by simp only []; omega, by simp only []; omega, d, fun hb => ?_⟩, by simp only []; omega⟩, b.2, c.2⟩
    refine e ?_
    unfold Hd.bits at hb ⊢
    simp only [decide_eq_true_eq] at hb ⊢
    omega
  · rw [if_neg hk]
    exact ⟨⟨⟨a, by omega, by omega, d, e⟩, by omega⟩, b.2, c.2⟩
theorem may_fit {h : Hd.H} (H : Pl.May h) : Hj.Fit h := by
  have := H.m
  unfold Hj.Fit Nu.I; omega
set_option maxRecDepth 100000 in
set_option maxHeartbeats 2000000 in
theorem refHead_any (M : Int) (M0 : 1 ≤ M) (M1 : M ≤ 4096) (h : Hd.H) (hf : Hj.Fit h) (w : World) :
    Calls Try.prog 37 #[agH h, .int .i64 M] w fun e w' => e = .returned (agH (Pl.headV M h)) ∧ Below w.heap.size w w' := by
  have HG := Lib.hid (hgoodM_any M M0 (by omega) h hf)
  obtain ⟨a, b, c, d, e⟩ := Pl.goodM_in M M0 h
  have X : Hid (Pl.headV M h = if 3 < (Pl.goodM M h).kd then ⟨(Pl.goodM M h).kd - 3, (Pl.goodM M h).w, (Pl.goodM M h).h, (Pl.goodM M h).m⟩ else Pl.goodM M h) := rfl
  generalize Pl.headV M h = R at X ⊢
  generalize Pl.goodM M h = G at X HG a b c d e
  obtain ⟨kd, ww, hh, m⟩ := G
  simp only at a X
  unfold agH at HG ⊢
  clear b c d e
  by_cases h3 : 3 < kd
  · have hR : Hid (R = ⟨kd - 3, ww, hh, m⟩) := by show _ = _; rw [X.out, if_pos h3]
    have h3d : decide (3 < kd) = true := decide_eq_true h3
    have e1 : wrap64 (kd - 3) = kd - 3 := by rw [IntWalk.wrap64_in] <;> omega
    clear X
    go_enter Try.func37, Try.ntmps37
    go_wp2_with fail
    refine (HG.out _).mono ?_
    rintro e w2 ⟨rfl, hb2⟩
    have hz := (Hb.new (w.alloc (.cells #[.int .i64 h.kd, .int .i64 h.w, .int .i64 h.h, .int .i64 h.m] 42)) 42 Hd.none).later hb2
    rw [World.size_alloc] at hz
    have HZ2 := Lib.hid hz
    have HBW := Lib.hid ((((Below.refl _ w).alloc (Nat.le_refl _) _).alloc (by simp) _).trans (hb2.mono (by simp; omega)))
    have hsz : w.heap.size + 1 < w2.heap.size := hz.lt
    clear hz hb2
    go_upto_region 2 with fail
    generalize hW : w2.alloc (.cells #[.int .i64 kd, .int .i64 ww, .int .i64 hh, .int .i64 m] 42) = w4
    have HN4 : Hid (Hb w4 w2.heap.size 42 ⟨kd, ww, hh, m⟩) := by show Hb _ _ _ _; rw [← hW]; exact Hb.new w2 42 ⟨kd, ww, hh, m⟩
    have HBx : Hid (Below w2.heap.size w2 w4) := by show Below _ _ _; rw [← hW]; exact box1' _ _
    have HZ4 := Lib.hid (HZ2.out.later HBx.out)
    obtain ⟨x0, x1, x2, x3⟩ := HN4.out.cells
    obtain ⟨f0, f1, f2, f3⟩ := HN4.out.fr
    simp only at x0 x1 x2 x3
    clear hW
    go_upto_region 4 with fail
    generalize hW : w4.setCell ⟨w2.heap.size, 0, none⟩ (.int .i64 (kd - 3)) = w5
    have HB5 : Hid (Below (w.heap.size + 2) w4 w5) := by show Below _ _ _; rw [← hW]; exact (Below.refl _ w4).setCell (p := ⟨w2.heap.size, 0, none⟩) (by show _ ≤ w2.heap.size; omega) _
    have HZ5 : Hid (Hb w5 (w.heap.size + 1) 42 Hd.none) := by show Hb _ _ _ _; exact (HB5.out.block _ (by omega)).trans HZ4.out
    have HN5 : Hid (Hb w5 w2.heap.size 42 ⟨kd - 3, ww, hh, m⟩) := by
      show Hb _ _ _ _
      rw [← hW]
      have h' : w4.heap[w2.heap.size]? = _ := HN4.out
      have := Go.heap_setCell_same w4 w2.heap.size 0 _ _ (.int .i64 (kd - 3)) h'
      simpa [Hb] using this
    obtain ⟨y0, y1, y2, y3⟩ := HN5.out.cells
    obtain ⟨z0, z1, z2, z3⟩ := HZ5.out.cells
    obtain ⟨g0, g1, g2, g3⟩ := HZ5.out.fr
    simp only at y0 y1 y2 y3
    clear hW x0 x1 x2 x3 f0 f1 f2 f3
    go_wp2
    refine bodyPost_ret (Hj.ret1 Try.results37 _ _ _ _ rfl (load_rh (HZ5.out.put ⟨kd - 3, ww, hh, m⟩))) rfl ?_
    refine ⟨by rw [hR.out]; rfl, ?_⟩
    have hb5 := (HBW.out.trans (HBx.out.mono HBW.out.size)).trans (HB5.out.mono (Nat.le_add_right _ _))
    exact (((hb5.setCell (Nat.le_succ _) _).setCell (Nat.le_succ _) _).setCell (Nat.le_succ _) _).setCell (Nat.le_succ _) _
  · have hR : Hid (R = ⟨kd, ww, hh, m⟩) := by show _ = _; rw [X.out, if_neg h3]
    have h3d : decide (3 < kd) = false := decide_eq_false h3
    clear X
    go_enter Try.func37, Try.ntmps37
    go_wp2_with fail
    refine (HG.out _).mono ?_
    rintro e w2 ⟨rfl, hb2⟩
    have hz := (Hb.new (w.alloc (.cells #[.int .i64 h.kd, .int .i64 h.w, .int .i64 h.h, .int .i64 h.m] 42)) 42 Hd.none).later hb2
    rw [World.size_alloc] at hz
    have HZ2 := Lib.hid hz
    have HBW := Lib.hid ((((Below.refl _ w).alloc (Nat.le_refl _) _).alloc (by simp) _).trans (hb2.mono (by simp; omega)))
    have hsz : w.heap.size + 1 < w2.heap.size := hz.lt
    clear hz hb2
    go_upto_region 2 with fail
    generalize hW : w2.alloc (.cells #[.int .i64 kd, .int .i64 ww, .int .i64 hh, .int .i64 m] 42) = w4
    have HN4 : Hid (Hb w4 w2.heap.size 42 ⟨kd, ww, hh, m⟩) := by show Hb _ _ _ _; rw [← hW]; exact Hb.new w2 42 ⟨kd, ww, hh, m⟩
    have HBx : Hid (Below w2.heap.size w2 w4) := by show Below _ _ _; rw [← hW]; exact box1' _ _
    have HZ4 := Lib.hid (HZ2.out.later HBx.out)
    obtain ⟨x0, x1, x2, x3⟩ := HN4.out.cells
    obtain ⟨z0, z1, z2, z3⟩ := HZ4.out.cells
    obtain ⟨g0, g1, g2, g3⟩ := HZ4.out.fr
    simp only at x0 x1 x2 x3
    clear hW
    go_wp2
    refine bodyPost_ret (Hj.ret1 Try.results37 _ _ _ _ rfl (load_rh (HZ4.out.put ⟨kd, ww, hh, m⟩))) rfl ?_
    refine ⟨by rw [hR.out]; rfl, ?_⟩
    have hb5 := HBW.out.trans (HBx.out.mono HBW.out.size)
    exact (((hb5.setCell (Nat.le_succ _) _).setCell (Nat.le_succ _) _).setCell (Nat.le_succ _) _).setCell (Nat.le_succ _) _
theorem Pl.example1 : Pl.readV ⟨1, 3, 1, 1⟩ (bytesOf ⟨#[49, 32, 48, 49, 120]⟩) = ([281474976710657, 281474976710656, 281474976710657], 4, 0) := by decide
set_option maxHeartbeats 2000000 in
theorem lives8_any (w : World) :
    Calls Try.prog 41 #[] w fun e w' => e = .returned (.bool true) ∧ Below w.heap.size w w' := by
  have hR := plRead_any ⟨#[49, 32, 48, 49, 120]⟩ (by decide) ⟨1, 3, 1, 1⟩ (by unfold Hj.Fit Nu.I; decide) 
  rw [Pl.example1] at hR
  unfold RdR agH at hR
  simp only at hR
  have HR := Lib.hid hR
  clear hR
  go_enter Try.func41, Try.ntmps41
  go_wp2_with fail
  refine (HR.out _).mono ?_
  rintro e w2 ⟨a, c, rfl, hS, hb2⟩
  have HB2 := Lib.hid hb2
  have HS2 := Lib.hid hS
  have hQ := Su.sameRow_any a (some ⟨w2.heap.size, 0, none⟩) 3 3 c 3 [281474976710657, 281474976710656, 281474976710657] [281474976710657, 281474976710656, 281474976710657] (w2.alloc (.cells #[.int .u64 281474976710657, .int .u64 281474976710656, .int .u64 281474976710657] 88)) (by omega) (hS.below (box1' _ _)) (ownK_lit w2 _ _ _ rfl).sl
  rw [decide_eq_true rfl] at hQ
  have HQ := Lib.hid hQ
  clear hS hQ hb2
  go_wp2_with (go_at_call 40; refine HQ.out.mono ?_; rintro e w3 ⟨rfl, hb3⟩)
  go_ret
  exact ⟨rfl, (HB2.out.alloc HB2.out.size _).trans (hb3.mono (by have := HB2.out.size; simp; omega))⟩
end Go.Proofs.Ytldhhhmihfcalaa
