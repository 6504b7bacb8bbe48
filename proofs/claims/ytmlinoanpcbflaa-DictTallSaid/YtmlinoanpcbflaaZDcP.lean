/- The document's example for dict, by the code. No condition. -/
import Derived.Test.YtmlinoanpcbflaaZDcPa
namespace Go.Proofs.Ytmlinoanpcbflaa
open Go.RowKit
set_option linter.unusedVariables false
open Dc
set_option maxRecDepth 100000 in
set_option maxHeartbeats 4000000 in
theorem dlives_any (w : World) : Calls Try.prog 12 #[] w fun e w' => e = .returned (.bool true) ∧ Below w.heap.size w w' := by
  have HN := Lib.hid (dNew_any w)
  go_enter Try.func12, Try.ntmps12
  go_upto_region 3 with (go_at_call 6; refine HN.out.mono ?_; rintro e w1 ⟨sb, F, rfl, hD, hF, hb⟩; have HD := Lib.hid hD; have HF := Lib.hid hF; have HB := Lib.hid hb; clear hD hF hb)
  go_upto_region 6 with fail
  have hz1 := HB.out.size
  have b1 := dc_box w1 (.cells #[.int .u64 281474976710657, .int .u64 281474976710658, .int .u64 281474976710658, .int .u64 281474976710657] 23)
  have s1 : SlK .u64 (w1.alloc (.cells #[.int .u64 281474976710657, .int .u64 281474976710658, .int .u64 281474976710658, .int .u64 281474976710657] 23)) (some ⟨w1.heap.size, 0, none⟩) 4 [281474976710657, 281474976710658, 281474976710658, 281474976710657] := lit_slk (q := .u64) w1 23 [281474976710657, 281474976710658, 281474976710658, 281474976710657] _ (by simp)
  have b2 := dc_box (w1.alloc (.cells #[.int .u64 281474976710657, .int .u64 281474976710658, .int .u64 281474976710658, .int .u64 281474976710657] 23)) (.cells #[.int .i64 1, .int .i64 9, .int .i64 2, .int .i64 2, .slice (some ⟨w1.heap.size, 0, none⟩) 4 4] 36)
  have i2 := Ib.new (w1.alloc (.cells #[.int .u64 281474976710657, .int .u64 281474976710658, .int .u64 281474976710658, .int .u64 281474976710657] 23)) 36 1 9 2 2 (.slice (some ⟨w1.heap.size, 0, none⟩) 4 4)
  have s2 := s1.below b2
  obtain ⟨WB, hWB⟩ : ∃ WB, (w1.alloc (.cells #[.int .u64 281474976710657, .int .u64 281474976710658, .int .u64 281474976710658, .int .u64 281474976710657] 23)).alloc (.cells #[.int .i64 1, .int .i64 9, .int .i64 2, .int .i64 2, .slice (some ⟨w1.heap.size, 0, none⟩) 4 4] 36) = WB := ⟨_, rfl⟩
  have hzB : WB.heap.size = w1.heap.size + 2 := by rw [← hWB]; simp
  have hb12 := bel_step b1 b2
  rw [hWB] at i2 s2 hb12
  have b3 := dc_box WB (.cells #[.int .i64 0, .int .i64 1, .int .i64 2, .int .i64 3, .int .i64 4, .int .i64 5, .int .i64 6, .int .i64 7] 3)
  have s3 : SlK .i64 (WB.alloc (.cells #[.int .i64 0, .int .i64 1, .int .i64 2, .int .i64 3, .int .i64 4, .int .i64 5, .int .i64 6, .int .i64 7] 3)) (some ⟨WB.heap.size, 0, none⟩) 8 [0, 1, 2, 3, 4, 5, 6, 7] := lit_slk (q := .i64) WB 3 [0, 1, 2, 3, 4, 5, 6, 7] _ (by simp)
  have HADD := Lib.hid (x0_any ((HD.out.later hb12).later b3) w1.heap.size (w1.heap.size + 2) (fun hF => by have := HD.out.lt hF; omega) (by rw [World.size_alloc]; omega) (s2.below b3) (by rw [← hzB]; exact s3))
  rw [World.size_alloc] at i2
  obtain ⟨c0, c1, c2, c3, c4⟩ := i2.cells
  have HBB := Lib.hid (bel_step hb12 b3)
  have HWB := Lib.hid hWB
  clear s1 s2 s3 b1 b2 b3 i2 hb12 hWB
  rw [HWB.out]
  go_upto_region 7 with (go_at_call 8; refine HADD.out.mono ?_; rintro e w3 ⟨rfl, F', hD', hS'⟩; have HD3 := Lib.hid hD'; have HS3 := Lib.hid hS'; clear hD' hS')
  have HVR := Lib.hid (dVariants_any HD3.out)
  rw [x0_imgs] at HVR
  have HO0 := Lib.hid (fun (W : World) (hb : Below w3.heap.size w3 W) => dOwners_any (HD3.out.later hb) x0_ok 0)
  have HO1 := Lib.hid (fun (W : World) (hb : Below w3.heap.size w3 W) => dOwners_any (HD3.out.later hb) x0_ok 1)
  unfold OwnR at HO0 HO1
  rw [x0_own0] at HO0
  rw [x0_own1] at HO1
  go_wp2_with (first
    | (go_at_call 9; refine HVR.out.mono ?_; rintro e w4 ⟨rfl, rfl⟩)
    | (go_at_call 10; refine (HO1.out _ HB5.out).mono ?_; rintro e w6 ⟨oa6, oc6, rfl, _, hb6⟩; have HB6 := Lib.hid (bel_step HB5.out hb6); clear hb6)
    | (go_at_call 10; refine (HO0.out _ (Below.refl _ _)).mono ?_; rintro e w5 ⟨oa, oc, rfl, _, hb5⟩; have HB5 := Lib.hid hb5; clear hb5))
  go_ret
  refine ⟨rfl, HB.out.trans (((HBB.out.mono HB.out.size).trans ?_).trans (HB6.out.mono ?_))⟩
  · exact HS3.out.below (Nat.le_trans HB.out.size HBB.out.size) fun k hk hF => by have := HF.out k hF; omega
  · exact Nat.le_trans HB.out.size (Nat.le_trans HBB.out.size HS3.out.size)
end Go.Proofs.Ytmlinoanpcbflaa
