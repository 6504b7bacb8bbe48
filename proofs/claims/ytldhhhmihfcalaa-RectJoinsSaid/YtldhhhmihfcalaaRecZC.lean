/- One matrix on top of another. Condition: both may be. -/
import Derived.Test.YtldhhhmihfcalaaRecZA
import Derived.Deep.Cut
namespace Go.Proofs.Ytldhhhmihfcalaa
open Go.RowKit
set_option linter.unusedVariables false

set_option maxRecDepth 100000 in
set_option maxHeartbeats 4000000 in
theorem above_yes (Wa Ha Wb Hb : Int) (aa ab : Option Addr) (ca cb : Nat) (La Lb : List Int) (ha : Rc.Ok Wa Ha La) (hb : Rc.Ok Wb Hb Lb) (heq : Wa = Wb) (hs : Rc.sized Wa (Ha + Hb) = true) (hca : La.length ≤ ca) (hca2 : ca ≤ 9223372036854775807) (hcb : Lb.length ≤ cb) (hcb2 : cb ≤ 9223372036854775807)
    (w : World) (sa : SlK .u64 w aa La.length La) (sb : SlK .u64 w ab Lb.length Lb) :
    Calls Try.prog 17 #[.agg #[.int .i64 Wa, .int .i64 Ha, .slice aa La.length ca], .agg #[.int .i64 Wb, .int .i64 Hb, .slice ab Lb.length cb]] w fun e w' =>
      ∃ g, e = .returned (.tuple #[.agg #[.int .i64 Wa, .int .i64 (Ha + Hb), .slice (some ⟨g, 0, none⟩) ((Ha + Hb).toNat * Wa.toNat) ((Ha + Hb).toNat * Wa.toNat)], .int .i64 0]) ∧ OwnG w.heap.size w' g (twoL Wa (Ha + Hb) Wa Ha Wb Hb 0 Ha La Lb) ∧ Below w.heap.size w w' := by
  obtain ⟨s1, s2, s3, s4, s5⟩ := Rc.sized_iff.1 hs
  have hna := ok_len ha; have hnb := ok_len hb
  have hMa := Lib.hid (fun W2 => may_any Wa Ha aa La.length ca (by omega) W2)
  have hMb := Lib.hid (fun W2 => may_any Wb Hb ab Lb.length cb (by omega) W2)
  rw [Rc.ok_may ha] at hMa
  rw [Rc.ok_may hb] at hMb
  obtain ⟨u1, u2, u3, u4, u5, u6⟩ := id ha
  obtain ⟨v1, v2, v3, v4, v5, v6⟩ := id hb
  have hT := Lib.hid (fun (W2 : World) (h : Below w.heap.size w W2) => together_yes Wa (Ha + Hb) Wa Ha Wb Hb 0 Ha aa ab ca cb La Lb hs ha hb hca hca2 hcb hcb2 (by rw [Rc.insV_iff]; omega) (by rw [Rc.insV_iff]; omega) (by rw [Rc.insV_iff]; omega) (by rw [Rc.insV_iff]; omega) W2 (sa.below h) (sb.below h))
  have e1 : wrap64 (Ha + Hb) = Ha + Hb := by rw [IntWalk.wrap64_in] <;> omega
  have e2 : IntKind.i64.wrap (Ha + Hb) = Ha + Hb := by rw [IntWalk.i64_in] <;> omega
  obtain ⟨n, hn⟩ : ∃ n, (Ha + Hb).toNat * Wa.toNat = n := ⟨_, rfl⟩
  obtain ⟨T, hTT⟩ : ∃ T, twoL Wa (Ha + Hb) Wa Ha Wb Hb 0 Ha La Lb = T := ⟨_, rfl⟩
  rw [hn, hTT] at hT
  rw [hn, hTT]
  have HEQ := Lib.hid heq
  have hne : (Wa != Wb) = false := by rw [heq]; simp
  generalize La.length = na at hMa hT ⊢
  generalize Lb.length = nb at hMb hT ⊢
  clear hn hTT ha hb hs sa sb u5 u6 v5 v6 hna hnb s5 hca hca2 hcb hcb2 heq
  have hA : Sb (((w.alloc (.cells #[.int .i64 Wa, .int .i64 Ha, .slice aa na ca] 27)).alloc (.cells #[.int .i64 Wb, .int .i64 Hb, .slice ab nb cb] 27)).alloc (.cells #[.int .i64 0, .int .i64 0, .slice none 0 0] 27)) w.heap.size 27 (.int .i64 Wa) (.int .i64 Ha) (.slice aa na ca) := ((Sb.new _ _ _ _ _).alloc _).alloc _
  have hBm : Sb (((w.alloc (.cells #[.int .i64 Wa, .int .i64 Ha, .slice aa na ca] 27)).alloc (.cells #[.int .i64 Wb, .int .i64 Hb, .slice ab nb cb] 27)).alloc (.cells #[.int .i64 0, .int .i64 0, .slice none 0 0] 27)) (w.heap.size + 1) 27 (.int .i64 Wb) (.int .i64 Hb) (.slice ab nb cb) := Sb.alloc (by simpa using Sb.new (w.alloc (.cells #[.int .i64 Wa, .int .i64 Ha, .slice aa na ca] 27)) 27 (.int .i64 Wb) (.int .i64 Hb) (.slice ab nb cb)) _
  have hZ : Sb (((w.alloc (.cells #[.int .i64 Wa, .int .i64 Ha, .slice aa na ca] 27)).alloc (.cells #[.int .i64 Wb, .int .i64 Hb, .slice ab nb cb] 27)).alloc (.cells #[.int .i64 0, .int .i64 0, .slice none 0 0] 27)) (w.heap.size + 1 + 1) 27 (.int .i64 0) (.int .i64 0) (.slice none 0 0) := by
    have := heapNew ((w.alloc (.cells #[.int .i64 Wa, .int .i64 Ha, .slice aa na ca] 27)).alloc (.cells #[.int .i64 Wb, .int .i64 Hb, .slice ab nb cb] 27)) (.cells #[.int .i64 0, .int .i64 0, .slice none 0 0] 27)
    simp only [World.size_alloc] at this
    exact this
  have hB : Below w.heap.size w (((w.alloc (.cells #[.int .i64 Wa, .int .i64 Ha, .slice aa na ca] 27)).alloc (.cells #[.int .i64 Wb, .int .i64 Hb, .slice ab nb cb] 27)).alloc (.cells #[.int .i64 0, .int .i64 0, .slice none 0 0] 27)) := by go_grown
  have HA := Lib.hid hA; have HBm := Lib.hid hBm; have HZ := Lib.hid hZ; have HB := Lib.hid hB
  clear hA hBm hZ hB
  go_enter Try.func17, Try.ntmps17
  go_upto_region 1 with fail
  obtain ⟨W0, hW0⟩ : ∃ W0, (((w.alloc (.cells #[.int .i64 Wa, .int .i64 Ha, .slice aa na ca] 27)).alloc (.cells #[.int .i64 Wb, .int .i64 Hb, .slice ab nb cb] 27)).alloc (.cells #[.int .i64 0, .int .i64 0, .slice none 0 0] 27)) = W0 := ⟨_, rfl⟩
  have hs0 : W0.heap.size = w.heap.size + 3 := by rw [← hW0]; simp
  rw [hW0] at HA HBm HZ HB ⊢
  obtain ⟨a0, a1, a2⟩ := HA.out.cells
  clear hW0
  go_wp2_with fail
  refine (hMa.out _).mono ?_
  rintro e w1 ⟨rfl, hb1⟩
  have A1 := Lib.hid (HA.out.later hb1); have B1 := Lib.hid (HBm.out.later hb1); have Z1 := Lib.hid (HZ.out.later hb1); have V1 := Lib.hid (bel_step HB.out hb1)
  have hs1 := hb1.size
  obtain ⟨b0, b1, b2⟩ := B1.out.cells
  clear hb1 a0 a1 a2
  go_wp2_with fail
  refine (hMb.out _).mono ?_
  rintro e w2 ⟨rfl, hb2⟩
  have A2 := Lib.hid (A1.out.later hb2); have B2 := Lib.hid (B1.out.later hb2); have Z2 := Lib.hid (Z1.out.later hb2); have V2 := Lib.hid (bel_step V1.out hb2)
  have hs2 := hb2.size
  obtain ⟨a0, a1, a2⟩ := A2.out.cells
  clear hb2 b0 b1 b2
  obtain ⟨b0, b1, b2⟩ := B2.out.cells
  go_wp2_with fail
  refine (hT.out _ V2.out).mono ?_
  rintro e w3 ⟨g, rfl, og, hb3⟩
  have Z3 := Lib.hid (Z2.out.later hb3); have V3 := Lib.hid (bel_step V2.out hb3)
  have hs3 := hb3.size
  have hg3 := og.1
  have G3 := Lib.hid og
  obtain ⟨z0, z1, z2⟩ := Z3.out.cells
  obtain ⟨y0, y1, y2⟩ := Z3.out.fr
  clear og hb3 a0 a1 a2 b0 b1 b2
  go_wp2_with fail
  have R := Z3.out.put (.int .i64 Wa) (.int .i64 (Ha + Hb)) (.slice (some ⟨g, 0, none⟩) n n)
  refine bodyPost_ret (ret_cell2 Try.results17 _ _ _ _ rfl (load_mt R)) rfl ?_
  have G4 := ((G3.out.set ⟨w.heap.size + 1 + 1, 0, none⟩ (.int .i64 Wa) (by simp; omega)).set ⟨w.heap.size + 1 + 1, 1, none⟩ (.int .i64 (Ha + Hb)) (by simp; omega)).set ⟨w.heap.size + 1 + 1, 2, none⟩ (.slice (some ⟨g, 0, none⟩) n n) (by simp; omega)
  exact ⟨g, rfl, ⟨by omega, G4.2⟩, ((V3.out.setCell (p := ⟨w.heap.size + 1 + 1, 0, none⟩) (by simp; omega) (.int .i64 Wa)).setCell (p := ⟨w.heap.size + 1 + 1, 1, none⟩) (by simp; omega) (.int .i64 (Ha + Hb))).setCell (p := ⟨w.heap.size + 1 + 1, 2, none⟩) (by simp; omega) (.slice (some ⟨g, 0, none⟩) n n)⟩
set_option maxRecDepth 100000 in
set_option maxHeartbeats 4000000 in
theorem above_no (Wa Ha Wb Hb : Int) (aa ab : Option Addr) (ca cb : Nat) (La Lb : List Int) (ha : Rc.Ok Wa Ha La) (hb : Rc.Ok Wb Hb Lb) (heq : ¬ Wa = Wb) (w : World) :
    Calls Try.prog 17 #[.agg #[.int .i64 Wa, .int .i64 Ha, .slice aa La.length ca], .agg #[.int .i64 Wb, .int .i64 Hb, .slice ab Lb.length cb]] w fun e w' => e = .returned (.tuple #[.agg #[.int .i64 0, .int .i64 0, .slice none 0 0], .int .i64 1]) ∧ Below w.heap.size w w' := by
  have hna := ok_len ha; have hnb := ok_len hb
  have hMa := Lib.hid (fun W2 => may_any Wa Ha aa La.length ca (by omega) W2)
  have hMb := Lib.hid (fun W2 => may_any Wb Hb ab Lb.length cb (by omega) W2)
  rw [Rc.ok_may ha] at hMa
  rw [Rc.ok_may hb] at hMb
  have hne : (Wa != Wb) = true := by simp; exact heq
  generalize La.length = na at hMa ⊢
  generalize Lb.length = nb at hMb ⊢
  clear ha hb hna hnb
  have hA : Sb (((w.alloc (.cells #[.int .i64 Wa, .int .i64 Ha, .slice aa na ca] 27)).alloc (.cells #[.int .i64 Wb, .int .i64 Hb, .slice ab nb cb] 27)).alloc (.cells #[.int .i64 0, .int .i64 0, .slice none 0 0] 27)) w.heap.size 27 (.int .i64 Wa) (.int .i64 Ha) (.slice aa na ca) := ((Sb.new _ _ _ _ _).alloc _).alloc _
  have hBm : Sb (((w.alloc (.cells #[.int .i64 Wa, .int .i64 Ha, .slice aa na ca] 27)).alloc (.cells #[.int .i64 Wb, .int .i64 Hb, .slice ab nb cb] 27)).alloc (.cells #[.int .i64 0, .int .i64 0, .slice none 0 0] 27)) (w.heap.size + 1) 27 (.int .i64 Wb) (.int .i64 Hb) (.slice ab nb cb) := Sb.alloc (by simpa using Sb.new (w.alloc (.cells #[.int .i64 Wa, .int .i64 Ha, .slice aa na ca] 27)) 27 (.int .i64 Wb) (.int .i64 Hb) (.slice ab nb cb)) _
  have hZ : Sb (((w.alloc (.cells #[.int .i64 Wa, .int .i64 Ha, .slice aa na ca] 27)).alloc (.cells #[.int .i64 Wb, .int .i64 Hb, .slice ab nb cb] 27)).alloc (.cells #[.int .i64 0, .int .i64 0, .slice none 0 0] 27)) (w.heap.size + 1 + 1) 27 (.int .i64 0) (.int .i64 0) (.slice none 0 0) := by
    have := heapNew ((w.alloc (.cells #[.int .i64 Wa, .int .i64 Ha, .slice aa na ca] 27)).alloc (.cells #[.int .i64 Wb, .int .i64 Hb, .slice ab nb cb] 27)) (.cells #[.int .i64 0, .int .i64 0, .slice none 0 0] 27)
    simp only [World.size_alloc] at this
    exact this
  have hB : Below w.heap.size w (((w.alloc (.cells #[.int .i64 Wa, .int .i64 Ha, .slice aa na ca] 27)).alloc (.cells #[.int .i64 Wb, .int .i64 Hb, .slice ab nb cb] 27)).alloc (.cells #[.int .i64 0, .int .i64 0, .slice none 0 0] 27)) := by go_grown
  have HA := Lib.hid hA; have HBm := Lib.hid hBm; have HZ := Lib.hid hZ; have HB := Lib.hid hB
  clear hA hBm hZ hB
  go_enter Try.func17, Try.ntmps17
  go_upto_region 1 with fail
  obtain ⟨W0, hW0⟩ : ∃ W0, (((w.alloc (.cells #[.int .i64 Wa, .int .i64 Ha, .slice aa na ca] 27)).alloc (.cells #[.int .i64 Wb, .int .i64 Hb, .slice ab nb cb] 27)).alloc (.cells #[.int .i64 0, .int .i64 0, .slice none 0 0] 27)) = W0 := ⟨_, rfl⟩
  have hs0 : W0.heap.size = w.heap.size + 3 := by rw [← hW0]; simp
  rw [hW0] at HA HBm HZ HB ⊢
  obtain ⟨a0, a1, a2⟩ := HA.out.cells
  clear hW0
  go_wp2_with fail
  refine (hMa.out _).mono ?_
  rintro e w1 ⟨rfl, hb1⟩
  have A1 := Lib.hid (HA.out.later hb1); have B1 := Lib.hid (HBm.out.later hb1); have Z1 := Lib.hid (HZ.out.later hb1); have V1 := Lib.hid (bel_step HB.out hb1)
  have hs1 := hb1.size
  obtain ⟨b0, b1, b2⟩ := B1.out.cells
  clear hb1 a0 a1 a2
  go_wp2_with fail
  refine (hMb.out _).mono ?_
  rintro e w2 ⟨rfl, hb2⟩
  have A2 := Lib.hid (A1.out.later hb2); have B2 := Lib.hid (B1.out.later hb2); have Z2 := Lib.hid (Z1.out.later hb2); have V2 := Lib.hid (bel_step V1.out hb2)
  have hs2 := hb2.size
  obtain ⟨a0, a1, a2⟩ := A2.out.cells
  clear hb2 b0 b1 b2
  obtain ⟨b0, b1, b2⟩ := B2.out.cells
  obtain ⟨z0, z1, z2⟩ := Z2.out.cells
  obtain ⟨y0, y1, y2⟩ := Z2.out.fr
  go_wp2_with fail
  have R := Z2.out.put (.int .i64 0) (.int .i64 0) (.slice none 0 0)
  refine bodyPost_ret (ret_cell2 Try.results17 _ _ _ _ rfl (load_mt R)) rfl ?_
  exact ⟨rfl, ((V2.out.setCell (p := ⟨w.heap.size + 1 + 1, 0, none⟩) (by simp; omega) (.int .i64 0)).setCell (p := ⟨w.heap.size + 1 + 1, 1, none⟩) (by simp; omega) (.int .i64 0)).setCell (p := ⟨w.heap.size + 1 + 1, 2, none⟩) (by simp; omega) (.slice none 0 0)⟩
end Go.Proofs.Ytldhhhmihfcalaa
