/- One matrix on top of another, by the document. Condition: both may be. -/
import Derived.Test.YtldhhhmihfcalaaRecZD
import Derived.Test.YtldhhhmihfcalaaRecX
import Derived.Deep.Cut
namespace Go.Proofs.Ytldhhhmihfcalaa
open Go.RowKit
set_option linter.unusedVariables false

set_option maxRecDepth 100000 in
set_option maxHeartbeats 4000000 in
theorem refAbove_yes (Wa Ha Wb Hb : Int) (aa ab : Option Addr) (ca cb : Nat) (La Lb : List Int) (ha : Rc.Ok Wa Ha La) (hb : Rc.Ok Wb Hb Lb) (heq : Wa = Wb) (hs : Rc.sized Wa (Ha + Hb) = true) (hca : La.length ≤ ca) (hca2 : ca ≤ 9223372036854775807) (hcb : Lb.length ≤ cb) (hcb2 : cb ≤ 9223372036854775807)
    (w : World) (sa : SlK .u64 w aa La.length La) (sb : SlK .u64 w ab Lb.length Lb) :
    Calls Try.prog 18 #[.agg #[.int .i64 Wa, .int .i64 Ha, .slice aa La.length ca], .agg #[.int .i64 Wb, .int .i64 Hb, .slice ab Lb.length cb]] w fun e w' =>
      ∃ ad c, e = .returned (.tuple #[.agg #[.int .i64 Wa, .int .i64 (Ha + Hb), .slice ad (La ++ Lb).length c], .int .i64 0]) ∧ OwnK .u64 w.heap.size w' ad (La ++ Lb) ∧ (La ++ Lb).length ≤ c ∧ c ≤ 9223372036854775807 ∧ Below w.heap.size w w' := by
  obtain ⟨s1, s2, s3, s4, s5⟩ := Rc.sized_iff.1 hs
  have hna := ok_len ha; have hnb := ok_len hb
  have hpa := ok_pos ha; have hpb := ok_pos hb
  obtain ⟨ada, rfl, hsa⟩ := slk_src sa hpa
  obtain ⟨adb, rfl, hsb⟩ := slk_src sb hpb
  have hMa := Lib.hid (fun W2 => refMay_any Wa Ha (some ada) La.length ca (by omega) W2)
  have hMb := Lib.hid (fun W2 => refMay_any Wb Hb (some adb) Lb.length cb (by omega) W2)
  rw [Rc.ok_may ha] at hMa
  rw [Rc.ok_may hb] at hMb
  obtain ⟨u1, u2, u3, u4, u5, u6⟩ := id ha
  obtain ⟨v1, v2, v3, v4, v5, v6⟩ := id hb
  have hS := Lib.hid (fun W2 => refSized_any Wa (Ha + Hb) W2)
  rw [hs] at hS
  have e1 : wrap64 (Ha + Hb) = Ha + Hb := by rw [IntWalk.wrap64_in] <;> omega
  have e2 : IntKind.i64.wrap (Ha + Hb) = Ha + Hb := by rw [IntWalk.i64_in] <;> omega
  have hne : (Wa != Wb) = false := by rw [heq]; simp
  obtain ⟨i0, hi, hz0, hz1, hz2⟩ := info_parts Try.info_px
  have HSA := Lib.hid hsa; have HSB := Lib.hid hsb
  obtain ⟨na, hla⟩ : ∃ n, La.length = n := ⟨_, rfl⟩
  obtain ⟨nb, hlb⟩ : ∃ n, Lb.length = n := ⟨_, rfl⟩
  have hll : (La ++ Lb).length = na + nb := by rw [List.length_append, hla, hlb]
  rw [hla] at hMa hna hpa
  rw [hlb] at hMb hnb hpb
  rw [hll, hla, hlb]
  have HLA := Lib.hid hla; have HLB := Lib.hid hlb; have HLL := Lib.hid hll
  clear hla hlb hll ha hb hs sa sb u5 u6 v5 v6 s5 hca hca2 hcb hcb2 heq hsa hsb
  have hA : Sb (((w.alloc (.cells #[.int .i64 Wa, .int .i64 Ha, .slice (some ada) na ca] 24)).alloc (.cells #[.int .i64 Wb, .int .i64 Hb, .slice (some adb) nb cb] 24)).alloc (.cells #[.int .i64 0, .int .i64 0, .slice none 0 0] 24)) w.heap.size 24 (.int .i64 Wa) (.int .i64 Ha) (.slice (some ada) na ca) := ((Sb.new _ _ _ _ _).alloc _).alloc _
  have hBm : Sb (((w.alloc (.cells #[.int .i64 Wa, .int .i64 Ha, .slice (some ada) na ca] 24)).alloc (.cells #[.int .i64 Wb, .int .i64 Hb, .slice (some adb) nb cb] 24)).alloc (.cells #[.int .i64 0, .int .i64 0, .slice none 0 0] 24)) (w.heap.size + 1) 24 (.int .i64 Wb) (.int .i64 Hb) (.slice (some adb) nb cb) := Sb.alloc (by simpa using Sb.new (w.alloc (.cells #[.int .i64 Wa, .int .i64 Ha, .slice (some ada) na ca] 24)) 24 (.int .i64 Wb) (.int .i64 Hb) (.slice (some adb) nb cb)) _
  have hZ : Sb (((w.alloc (.cells #[.int .i64 Wa, .int .i64 Ha, .slice (some ada) na ca] 24)).alloc (.cells #[.int .i64 Wb, .int .i64 Hb, .slice (some adb) nb cb] 24)).alloc (.cells #[.int .i64 0, .int .i64 0, .slice none 0 0] 24)) (w.heap.size + 1 + 1) 24 (.int .i64 0) (.int .i64 0) (.slice none 0 0) := by
    have := heapNew ((w.alloc (.cells #[.int .i64 Wa, .int .i64 Ha, .slice (some ada) na ca] 24)).alloc (.cells #[.int .i64 Wb, .int .i64 Hb, .slice (some adb) nb cb] 24)) (.cells #[.int .i64 0, .int .i64 0, .slice none 0 0] 24)
    simp only [World.size_alloc] at this
    exact this
  have hB : Below w.heap.size w (((w.alloc (.cells #[.int .i64 Wa, .int .i64 Ha, .slice (some ada) na ca] 24)).alloc (.cells #[.int .i64 Wb, .int .i64 Hb, .slice (some adb) nb cb] 24)).alloc (.cells #[.int .i64 0, .int .i64 0, .slice none 0 0] 24)) := by go_grown
  have HA := Lib.hid hA; have HBm := Lib.hid hBm; have HZ := Lib.hid hZ; have HB := Lib.hid hB
  clear hA hBm hZ hB
  go_enter Try.func18, Try.ntmps18
  go_upto_region 1 with fail
  obtain ⟨W0, hW0⟩ : ∃ W0, (((w.alloc (.cells #[.int .i64 Wa, .int .i64 Ha, .slice (some ada) na ca] 24)).alloc (.cells #[.int .i64 Wb, .int .i64 Hb, .slice (some adb) nb cb] 24)).alloc (.cells #[.int .i64 0, .int .i64 0, .slice none 0 0] 24)) = W0 := ⟨_, rfl⟩
  have hs0 : W0.heap.size = w.heap.size + 3 := by rw [← hW0]; simp
  rw [hW0] at HA HBm HZ HB ⊢
  obtain ⟨a0, a1, a2⟩ := HA.out.cells
  clear hW0
  go_wp2_with fail
  refine (hMa.out _).mono ?_
  rintro e w1 ⟨rfl, hb1⟩
  have A1 := Lib.hid (HA.out.later hb1); have B1 := Lib.hid (HBm.out.later hb1); have Z1 := Lib.hid (HZ.out.later hb1); have V1 := Lib.hid (bel_step HB.out hb1)
  have hs1 := hb1.size
  obtain ⟨b0, b1, b2⟩ := B1.out.cells
  clear hb1 a0 a1 a2
  go_wp2_with fail
  refine (hMb.out _).mono ?_
  rintro e w2 ⟨rfl, hb2⟩
  have hbx := hb2.trans ((box1 w2 (.cells #[.int .i64 Wa, .int .i64 (Ha + Hb), .slice none 0 0] 24)).mono hb2.size)
  have A2 := Lib.hid (A1.out.later hb2); have B2 := Lib.hid (B1.out.later hb2)
  have A3 := Lib.hid (A1.out.later hbx); have B3 := Lib.hid (B1.out.later hbx); have Z3 := Lib.hid (Z1.out.later hbx); have V3 := Lib.hid (bel_step V1.out hbx)
  have O3 := Lib.hid (Sb.new w2 24 (.int .i64 Wa) (.int .i64 (Ha + Hb)) (.slice none 0 0))
  have hs2 := hb2.size
  obtain ⟨a0, a1, a2⟩ := A2.out.cells
  clear hb2 hbx b0 b1 b2
  obtain ⟨b0, b1, b2⟩ := B2.out.cells
  go_upto_region 6 with fail
  obtain ⟨W3, hW3⟩ : ∃ W3, w2.alloc (.cells #[.int .i64 Wa, .int .i64 (Ha + Hb), .slice none 0 0] 24) = W3 := ⟨_, rfl⟩
  have hs3 : W3.heap.size = w2.heap.size + 1 := by rw [← hW3]; simp
  rw [hW3] at A3 B3 Z3 V3 O3 ⊢
  clear a0 a1 a2 b0 b1 b2 hW3 A2 B2
  obtain ⟨a0, a1, a2⟩ := A3.out.cells
  obtain ⟨o0, o1, o2⟩ := O3.out.cells
  obtain ⟨p0, p1, p2⟩ := O3.out.fr
  go_wp2_with fail
  refine (hS.out _).mono ?_
  rintro e w4 ⟨rfl, rfl⟩
  go_upto_region 10 with (at_builtin; refine wpList_append_lies _ rfl _ _ 22 rfl W3.heap.size 88 i0 (.int .u64 0) 1 8 Try.underlying22 hi hz0 hz1 hz2 rfl (by decide) (.slice none 0 0) 0 [] rfl (World.ownsRow_nil _ _ _ _) ada na ca (La.map (Value.int .u64)) rfl (by rw [List.length_map, HLA.out, Nat.mul_one]) (fun j v hv => cell_later V3.out (HSA.out j v hv)) (ints_oneCell _ _) hpa (by unfold maxLen; omega) (by omega) (Nat.le_refl _) _ rfl ?_; intro gg cc w5 hown hgrow hat hlt; simp only [Nat.zero_add, List.nil_append] at hown ⊢; obtain ⟨j1, j2, j3, j4, j5⟩ := pushL0 O3.out (World.ownsRow_nil W3 W3.heap.size 88 1) (by omega) (Nat.le_refl _) hown hgrow; obtain ⟨r0, r1, r2⟩ := j1.cells; obtain ⟨r3, r4, r5⟩ := j1.fr)
  obtain ⟨X4, hX4⟩ : ∃ X4, w5.setCell ⟨w2.heap.size, 2, none⟩ (.slice (some ⟨gg, 0, none⟩) na cc) = X4 := ⟨_, rfl⟩
  rw [hX4] at j2 j3 j4 j5 ⊢
  have J2 := Lib.hid j2; have J3 := Lib.hid j3
  have V4 := Lib.hid (V3.out.trans (j4 w.heap.size (by omega)))
  have jb := j4 w2.heap.size (Nat.le_refl _)
  have B4 := Lib.hid (show Sb X4 (w.heap.size + 1) 24 (.int .i64 Wb) (.int .i64 Hb) (.slice (some adb) nb cb) from (jb.block _ (by omega)).trans B3.out)
  have Z4 := Lib.hid (show Sb X4 (w.heap.size + 1 + 1) 24 (.int .i64 0) (.int .i64 0) (.slice none 0 0) from (jb.block _ (by omega)).trans Z3.out)
  clear hX4 j1 j2 j3 j4 r0 r1 r2 r3 r4 r5 hown hgrow hat hlt a0 a1 a2 o0 o1 o2 p0 p1 p2 jb
  obtain ⟨b0, b1, b2⟩ := B4.out.cells
  obtain ⟨o0, o1, o2⟩ := J2.out.cells
  obtain ⟨p0, p1, p2⟩ := J2.out.fr
  go_wp2_with (at_builtin; refine wpList_append_lies _ rfl _ _ 22 rfl W3.heap.size 88 i0 (.int .u64 0) 1 8 Try.underlying22 hi hz0 hz1 hz2 rfl (by decide) (.slice (some ⟨gg, 0, none⟩) na cc) na _ rfl J3.out adb nb cb (Lb.map (Value.int .u64)) rfl (by rw [List.length_map, HLB.out, Nat.mul_one]) (fun j v hv => cell_later V4.out (HSB.out j v hv)) (ints_oneCell _ _) hpb (by unfold maxLen; omega) (by omega) j5 _ rfl ?_; intro g2 c2 w6 hown hgrow _ _; obtain ⟨k1, k2, k3, k4, k5⟩ := pushL0 J2.out J3.out (by omega) j5 hown hgrow; obtain ⟨r0, r1, r2⟩ := k1.cells; obtain ⟨r3, r4, r5⟩ := k1.fr; have hbe := (Below.refl W3.heap.size X4).grown hgrow j5 (fun j ej => (J3.out.lt j ej).1); have Z6 : Sb w6 (w.heap.size + 1 + 1) 24 (.int .i64 0) (.int .i64 0) (.slice none 0 0) := (hbe.block _ (by omega)).trans Z4.out; obtain ⟨z0, z1, z2⟩ := Z6.cells; obtain ⟨y0, y1, y2⟩ := Z6.fr)
  have Z7 := Z6.set ⟨w2.heap.size, 2, none⟩ (.slice (some ⟨g2, 0, none⟩) (na + nb) c2) (by simp; omega)
  have R := Z7.put (.int .i64 Wa) (.int .i64 (Ha + Hb)) (.slice (some ⟨g2, 0, none⟩) (na + nb) c2)
  refine bodyPost_ret (ret_cell2 Try.results18 _ _ _ _ rfl (load_m R)) rfl ?_
  rw [← List.map_append] at k3
  have hc9 := ownsRow_cap9 k3
  obtain ⟨ad, cp, hv, ho, hle⟩ := ownK_row HLL.out k3
  injection hv with e1 e2 e3
  subst e1 e3
  have V7 := V4.out.trans (k4 w.heap.size (by omega))
  exact ⟨_, _, rfl, (ownK_set (ownK_set (ownK_set ho (a := ⟨w.heap.size + 1 + 1, 0, none⟩) (by simp; omega) _) (a := ⟨w.heap.size + 1 + 1, 1, none⟩) (by simp; omega) _) (a := ⟨w.heap.size + 1 + 1, 2, none⟩) (by simp; omega) _).mono (by omega), hle, hc9, ((V7.setCell (p := ⟨w.heap.size + 1 + 1, 0, none⟩) (by simp; omega) _).setCell (p := ⟨w.heap.size + 1 + 1, 1, none⟩) (by simp; omega) _).setCell (p := ⟨w.heap.size + 1 + 1, 2, none⟩) (by simp; omega) _⟩
end Go.Proofs.Ytldhhhmihfcalaa
