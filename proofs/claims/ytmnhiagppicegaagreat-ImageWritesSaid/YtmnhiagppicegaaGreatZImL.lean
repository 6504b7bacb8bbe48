/- The document's example of an image that is parsed and written as another kind. No condition. -/
import Derived.Test.YtmnhiagppicegaaGreatZImQc
import Derived.Test.YtmnhiagppicegaaGreatZImY
import Derived.Test.YtmnhiagppicegaaGreatZgAB
import Derived.Test.YtmnhiagppicegaaGreatZgAA
import Derived.Lib.SlBytesConst
import Derived.Lib.SmallJoins
namespace Go.Proofs.YtmnhiagppicegaaGreat
open Go.RowKit
set_option linter.unusedVariables false
def Im.ex0 : List Int := [80, 49, 32, 50, 32, 49, 32, 49, 32, 48, 32]
theorem Im.ex1 : Im.parseV (Hd.limits 4096 65536 65535) Im.ex0 = ⟨1, 1, 2, 1, [281474976710657, 281474976710656], 10, 0⟩ :=
  Im.parse_all (h := ⟨1, 2, 1, 1⟩) (u := 7) (k := 3) (l := [281474976710657, 281474976710656]) (by kernel_rfl) (by kernel_rfl)
theorem Im.ex1k : ¬ 3 < (Hd.parseV (Hd.limits 4096 65536 65535) Im.ex0).1.kd := by decide
theorem Im.ex2 : Im.rawV 4 1 2 1 [281474976710657, 281474976710656] = [80, 52, 10, 50, 32, 49, 10, 128] := by
  have e : Rw.wRows ⟨4, ((2 : Nat) : Int), ((1 : Nat) : Int), 1⟩ [281474976710657, 281474976710656] 2 1 = [128] := by
    have e1 : List.map Rw.s0 ((List.drop (0 * 2) [281474976710657, 281474976710656]).take 2) = [1, 0] := by decide
    show [] ++ Rw.rowB ⟨4, ((2 : Nat) : Int), ((1 : Nat) : Int), 1⟩ ((List.drop (0 * 2) [281474976710657, 281474976710656]).take 2) = [128]
    unfold Rw.rowB
    rw [if_pos rfl, e1, Bt.packB_more (by simp), show List.drop 8 [(1 : Int), 0] = [] from rfl, Bt.packB_nil]
    rfl
  have d4 : Nu.decV 4 = [52] := Nu.decV_pos (by omega) (by omega)
  have d2 : Nu.decV ((2 : Nat) : Int) = [50] := Nu.decV_pos (by omega) (by omega)
  have d1 : Nu.decV ((1 : Nat) : Int) = [49] := Nu.decV_pos (by omega) (by omega)
  unfold Im.rawV
  rw [e]
  unfold Hd.bytes
  simp only [d4, d2, d1]
  rfl
theorem Im.ex3 : Im.tellV 1 1 ((2 : Nat) : Int) ((1 : Nat) : Int) 2 [281474976710657, 281474976710656] 4 = true := by decide
theorem Im.cells_bs (w : World) (l : List Int) (t : TypeId) (fr : Nat × Nat) (hl : ∀ z ∈ l, 0 ≤ z ∧ z ≤ 255) (h9 : l.length ≤ 100000) : Bt.Bs (w.alloc (.cells (l.map (Value.int .u8)).toArray t fr)) (some ⟨w.heap.size, 0, none⟩) l.length l.length l := by
  refine ⟨⟨rfl, .inr ⟨w.heap.size, 0, rfl, fun i hi => ?_⟩⟩, Nat.le_refl _, by omega, hl⟩
  rw [Nat.zero_add, World.cell?_alloc_mark, List.getElem?_toArray, List.getElem?_map, List.getElem?_eq_getElem hi, List.getD_eq_getElem?_getD, List.getElem?_eq_getElem hi]
  rfl
set_option maxRecDepth 100000 in
set_option maxHeartbeats 4000000 in
theorem lives10_any (w : World) : Calls Tryz.prog 23 #[] w fun e w' => e = .returned (.bool true) ∧ Below w.heap.size w w' := by
  have HP : Hid (∀ (W : World) (a : Option Addr), Bt.Bs W a 11 11 Im.ex0 → Calls Tryz.prog 18 #[.slice a 11 11, .agg #[.int .i64 4096, .int .i64 65536, .int .i64 65535]] W fun e w' => ∃ (b o cap' : Nat), e = .returned (.tuple #[.agg #[.int .i64 1, .int .i64 1, .int .i64 2, .int .i64 1, .slice (some ⟨b, o, none⟩) 2 cap'], .int .i64 10, .int .i64 0]) ∧ Hid (SlK .u64 w' (some ⟨b, o, none⟩) 2 [281474976710657, 281474976710656]) ∧ Below W.heap.size W w' ∧ Hid (Cp 2 cap')) := Lib.hid fun W a h => by
    refine (imParseC_any a 11 11 Im.ex0 (by decide) 4096 65536 65535 Im.ex1k W h).mono ?_
    rw [Im.ex1]
    rintro e w' ⟨a', cap', rfl, hs, hb, hc⟩
    obtain ⟨b, o, rfl, hcell⟩ := slk_pos (n := 2) hs (by decide)
    exact ⟨b, o, cap', rfl, hs, hb, hc⟩
  have HW : Hid (∀ (W : World) (b o cap : Nat), Cp 2 cap → SlK .u64 W (some ⟨b, o, none⟩) 2 [281474976710657, 281474976710656] → Calls Tryz.prog 15 #[.agg #[.int .i64 1, .int .i64 1, .int .i64 2, .int .i64 1, .slice (some ⟨b, o, none⟩) 2 cap], .int .i64 4] W fun e w' => ∃ a' c', e = .returned (.tuple #[.slice a' 8 c', .int .i64 0]) ∧ SlK .u8 w' a' 8 [80, 52, 10, 50, 32, 49, 10, 128] ∧ Below W.heap.size W w') := Lib.hid fun W b o cap hc hs => by
    have := imWrite_raw 1 1 4 2 1 (by unfold Nu.I; omega) (by unfold Nu.I; omega) (by unfold Nu.I; omega) b o 2 cap [281474976710657, 281474976710656] (by omega) (by omega) rfl hc.1 hc.2 (by intro x hx; simp at hx; unfold Pq.Px.U; omega) Im.ex3 (by omega) W hs
    rw [Im.ex2] at this
    exact this
  have h1 : Bt.Bs (w.alloc (.cells #[.int .u8 80, .int .u8 49, .int .u8 32, .int .u8 50, .int .u8 32, .int .u8 49, .int .u8 32, .int .u8 49, .int .u8 32, .int .u8 48, .int .u8 32] 5 (11, 12))) (some ⟨w.heap.size, 0, none⟩) 11 11 Im.ex0 := Im.cells_bs w Im.ex0 _ _ (by unfold Im.ex0; intro z hz; simp at hz; omega) (by decide)
  have kc := Lib.run_convert_bytes_const (P := Tryz.prog) w 43 5 #[.int .u8 80, .int .u8 49, .int .u8 32, .int .u8 50, .int .u8 32, .int .u8 49, .int .u8 32, .int .u8 49, .int .u8 32, .int .u8 48, .int .u8 32] 11 11 Tryz.underlying43 Tryz.underlying5
  have hB := box1 w (.cells #[.int .u8 80, .int .u8 49, .int .u8 32, .int .u8 50, .int .u8 32, .int .u8 49, .int .u8 32, .int .u8 49, .int .u8 32, .int .u8 48, .int .u8 32] 5 (11, 12))
  obtain ⟨W1, hW1⟩ : ∃ W1, w.alloc (.cells #[.int .u8 80, .int .u8 49, .int .u8 32, .int .u8 50, .int .u8 32, .int .u8 49, .int .u8 32, .int .u8 49, .int .u8 32, .int .u8 48, .int .u8 32] 5) = W1 := ⟨_, rfl⟩
  obtain ⟨V1, hV1⟩ : ∃ V1, w.alloc (.cells #[.int .u8 80, .int .u8 49, .int .u8 32, .int .u8 50, .int .u8 32, .int .u8 49, .int .u8 32, .int .u8 49, .int .u8 32, .int .u8 48, .int .u8 32] 5 (11, 12)) = V1 := ⟨_, rfl⟩
  have hV1' : w.alloc (.cells #[.int .u8 80, .int .u8 49, .int .u8 32, .int .u8 50, .int .u8 32, .int .u8 49, .int .u8 32, .int .u8 49, .int .u8 32, .int .u8 48, .int .u8 32] 5 ((#[.int .u8 80, .int .u8 49, .int .u8 32, .int .u8 50, .int .u8 32, .int .u8 49, .int .u8 32, .int .u8 49, .int .u8 32, .int .u8 48, .int .u8 32] : Array Value).size, (#[.int .u8 80, .int .u8 49, .int .u8 32, .int .u8 50, .int .u8 32, .int .u8 49, .int .u8 32, .int .u8 49, .int .u8 32, .int .u8 48, .int .u8 32] : Array Value).size + 1)) = V1 := hV1
  rw [hV1'] at kc
  rw [hV1] at h1 hB
  rw [hW1] at kc
  have H1 := Lib.hid h1
  clear h1 hV1 hV1'
  go_enter Tryz.func23, Tryz.ntmps23
  go_upto_region 1 with fail
  try rw [hW1]
  go_wp2_with (first
    | (go_at_call 19; refine (hall_any _).mono ?_; rintro e w2 ⟨rfl, hb2⟩; have H2 := Lib.hid (H1.out.below hb2); have HB2 := Lib.hid (bel_step (w := w) hB hb2); clear hb2)
    | (go_at_call 18; refine (HP.out _ _ H2.out).mono ?_; rintro e w3 ⟨pb, po, pc, rfl, HS3, hb3, HC3⟩; have HB3 := Lib.hid (HB2.out.trans (hb3.mono HB2.out.size)); clear hb3))
  go_upto_region 2 with fail
  have X := Ib.new w3 40 1 1 2 1 (.slice (some ⟨pb, po, none⟩) 2 pc)
  have hb4 := box1 w3 (.cells #[.int .i64 1, .int .i64 1, .int .i64 2, .int .i64 1, .slice (some ⟨pb, po, none⟩) 2 pc] 40)
  obtain ⟨W4, hW4⟩ : ∃ W4, w3.alloc (.cells #[.int .i64 1, .int .i64 1, .int .i64 2, .int .i64 1, .slice (some ⟨pb, po, none⟩) 2 pc] 40) = W4 := ⟨_, rfl⟩
  rw [hW4] at X hb4
  try rw [hW4]
  have HB4 := Lib.hid (HB3.out.trans (hb4.mono HB3.out.size))
  have HS4 := Lib.hid (HS3.out.below hb4)
  clear hW4 hb4
  obtain ⟨n0, n1, n2, n3, n4⟩ := X.cells
  go_wp2_with fail
  refine (HW.out _ pb po pc HC3.out HS4.out).mono ?_
  rintro e w5 ⟨wa, wc5, rfl, hs5, hb5⟩
  have HB5 := Lib.hid (HB4.out.trans (hb5.mono HB4.out.size))
  have C1 := Cv.conv_slk (cap := wc5) hs5
  have hCb := Im.cells_bs w5 [80, 52, 10, 50, 32, 49, 10, 128] 5 (0, 0) (by intro z hz; simp at hz; omega) (by decide)
  have C2 := Cv.conv_slk (len := 8) (cap := 8) hCb.1
  have C3 := Cv.conv_slk (cap := wc5) (hs5.below (box1 w5 (.cells ([80, 52, 10, 50, 32, 49, 10, 128].map (Value.int .u8)).toArray 5)))
  have hbz := box1 w5 (.cells ([80, 52, 10, 50, 32, 49, 10, 128].map (Value.int .u8)).toArray 5)
  simp only [List.map_cons, List.map_nil] at C2 C3 hbz
  obtain ⟨S, hS⟩ : ∃ S, strOfNums [80, 52, 10, 50, 32, 49, 10, 128] = S := ⟨_, rfl⟩
  rw [hS] at C1 C2 C3
  clear hS hs5 hCb n0 n1 n2 n3 n4 hb5 HP HW
  go_wp2
  go_ret
  exact ⟨by simp, HB5.out.trans (hbz.mono HB5.out.size)⟩
end Go.Proofs.YtmnhiagppicegaaGreat
