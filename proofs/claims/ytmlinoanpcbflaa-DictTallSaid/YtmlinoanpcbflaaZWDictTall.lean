/- DictTall: a template that may not be laid so is refused, ahead of what is full, and behind what may not be: the walk of the law. No condition. -/
import Derived.Test.YtmlinoanpcbflaaZgAG
namespace Go.Proofs.Ytmlinoanpcbflaa
open Go.RowKit
set_option linter.unusedVariables false
open Dc
namespace Dc
theorem tall_sized {h : Nat} (h1 : 1 ≤ h) (h2 : h ≤ 65536) : Rc.sized ((1 : Nat) : Int) (h : Int) = true := by unfold Rc.sized; simp; omega
theorem wide1 {L : List Int} (h : One 69649 L) : addE [] (oneI 17 4097 L) [0, 1] = 4 := by
  unfold addE
  rw [ris01, if_neg (by rw [one_may h (by decide) (by decide)]; decide), if_pos (show fitsB (oneI 17 4097 L) [0, 1] = false from rfl)]
theorem wide0 {L : List Int} (h : One 69649 L) : addE [] (oneI 17 4097 L) [0] = 8 := by
  unfold addE
  have hf : fitsB (oneI 17 4097 L) [0] = true := rfl
  rw [ris1 (by decide), if_neg (by rw [one_may h (by decide) (by decide)]; decide), if_neg (by rw [hf]; decide), if_pos]
  exact .inr (.inl (by show 65536 < L.length; rw [h.1]; decide))
theorem tall8 {h : Nat} {L : List Int} (g : Int) : addE [] (oneI 1 h L) [g, 8] = 1 := by
  unfold addE
  rw [ris_8, if_pos (.inl rfl)]
theorem tallg {h g : Nat} {L : List Int} (hL : One h L) (h1 : 1 ≤ h) (h2 : h ≤ 65536) (hg : g < 8) : addE [] (oneI 1 h L) [(g : Int)] = if g % 2 = 1 ∧ 4096 < h then 4 else 0 := by
  have hT : Tu.isT (g : Int) = true := by unfold Tu.isT; simp; omega
  unfold addE
  rw [ris1 hT, if_neg (by rw [one_may hL (by omega) (tall_sized h1 h2)]; simp)]
  have hfit : fitsB (oneI 1 h L) [(g : Int)] = decide (¬ (g % 2 = 1 ∧ 4096 < h)) := by
    by_cases hg2 : g % 2 = 1
    · simp [fitsB, fitB, oneI, Tu.sw, hg2]
      omega
    · simp [fitsB, fitB, oneI, Tu.sw, hg2]
      try omega
  rw [hfit]
  by_cases hc : g % 2 = 1 ∧ 4096 < h
  · rw [if_pos hc, if_pos (by simp [hc])]
  · rw [if_neg hc, if_neg (by simp; exact fun e => by have : ¬ 4096 < h := fun k => hc ⟨e, k⟩; omega), if_neg]
    rintro (k | k | k)
    · exact absurd k (by decide)
    · have : L.length = h := hL.1
      have k' : 65536 < L.length := k
      omega
    · have e : imgs ([] ++ [((oneI 1 h L), [(g : Int)])]) = [lay (oneI 1 h L) g] := rfl
      rw [e] at k
      have e2 : area [lay (oneI 1 h L) (g : Int)] = h := by
        unfold area
        rw [List.map_singleton, List.sum_singleton]
        show (Tu.layL g 1 h L).length = h
        rw [Tu.layL_len]; omega
      omega
theorem tall_imgs {h g : Nat} {L : List Int} : (imgs [((oneI 1 h L), [(g : Int)])]).length = 1 := rfl
theorem tall_area {h g : Nat} {L : List Int} : area (imgs [((oneI 1 h L), [(g : Int)])]) = h := by
  have e : imgs [((oneI 1 h L), [(g : Int)])] = [lay (oneI 1 h L) g] := rfl
  rw [e]
  unfold area
  rw [List.map_singleton, List.sum_singleton]
  show (Tu.layL g 1 h L).length = h
  rw [Tu.layL_len]; omega
end Dc
set_option maxRecDepth 100000 in
set_option maxHeartbeats 16000000 in
theorem dictTall_walk (a0 : Int) (a1 : Int) (w : World) (w0 : (Lit.int .i64 a0).wf = true) (w1 : (Lit.int .i64 a1).wf = true) :
    Calls Try.prog 5 #[.int .i64 a0, .int .i64 a1] w fun e w' => e = .returned (.bool true) ∧ Below w.heap.size w w' := by
  have i0 := wfI w0
  have i1 := wfI w1
  obtain ⟨h, hh⟩ : ∃ h : Nat, 4090 + Ar.around a0 14 = (h : Int) := ⟨(4090 + Ar.around a0 14).toNat, by have := Ar.around_lt a0 14 (by omega); omega⟩
  obtain ⟨g, hg⟩ : ∃ g : Nat, Ar.around a1 8 = (g : Int) := ⟨(Ar.around a1 8).toNat, by have := Ar.around_lt a1 8 (by omega); omega⟩
  have hh1 : 4090 ≤ h ∧ h ≤ 4103 := by have := Ar.around_lt a0 14 (by omega); omega
  have hg8 : g < 8 := by have := Ar.around_lt a1 8 (by omega); omega
  have HA0 := Lib.hid (aroundOf a0 14 (by omega) (by omega) (by omega) (by omega) w)
  have HA1 := Lib.hid (aroundOf a1 8 (by omega) (by omega) (by omega) (by omega) w)
  have hz0 : Ar.around a0 14 = (h : Int) - 4090 := by omega
  rw [hz0] at HA0
  rw [hg] at HA1
  have HNEW := Lib.hid (dNew_any w)
  obtain ⟨p0, hi, hz00, hz01, hz02⟩ := info_parts Try.info_dpx
  clear hh hg hz0 i0 i1 w0 w1
  go_enter Try.func5, Try.ntmps5
  go_upto_region 2 with (go_at_call 7; refine HA0.out.mono ?_; rintro e w1 ⟨rfl, rfl⟩)
  rw [show (4090 : Int) + ((h : Int) - 4090) = (h : Int) by omega]
  go_upto_region 4 with (first
    | (go_at_call 7; refine HA1.out.mono ?_; rintro e w1 ⟨rfl, rfl⟩)
    | (go_at_call 6; refine HNEW.out.mono ?_; rintro e w2 ⟨sb, F, rfl, hD, hF, hb⟩; have HD := Lib.hid hD; have HF := Lib.hid hF; have HB := Lib.hid hb; clear hD hF hb))
  have hf2 := dc_box w2 (.cells #[.int .i64 1, .int .i64 9] 25)
  have hfc : ∀ i : Nat, i < 2 → (w2.alloc (.cells #[.int .i64 1, .int .i64 9] 25)).cell? ⟨w2.heap.size, i, none⟩ = some (if i = 0 then .int .i64 1 else .int .i64 9) := fun i hi => by
    rcases (by omega : i = 0 ∨ i = 1) with rfl | rfl <;> simp [go_sem]
  have f0 := hfc 0 (by omega)
  have f1 := hfc 1 (by omega)
  rw [if_pos rfl] at f0
  rw [if_neg (by decide)] at f1
  obtain ⟨w3, hw3⟩ : ∃ w3, w2.alloc (.cells #[.int .i64 1, .int .i64 9] 25) = w3 := ⟨_, rfl⟩
  rw [hw3] at hf2 f0 f1
  have hz3 : w3.heap.size = w2.heap.size + 1 := by rw [← hw3]; simp
  have HW3 := Lib.hid hw3
  have HF2 := Lib.hid hf2
  have F0 := Lib.hid f0
  have F1 := Lib.hid f1
  clear hw3 hf2 hfc f0 f1
  go_upto_region 7 with fail
  rw [HW3.out]
  go_upto_region 8 with (at_make; refine wpList_make_full _ rfl _ _ 32 rfl w3.heap.size 23 p0 (.int .u64 0) 1 Try.underlying32 hi hz00 hz01 .i64 .i64 (69649 : Int) (69649 : Int) 69649 rfl rfl rfl rfl (by rw [hz02]; omega) (by unfold maxLen; omega) (Nat.le_refl _) ?_; intro w4 hown hgrow; have HOWN := Lib.hid hown; have HG4 := Lib.hid hgrow; clear hown hgrow)
  obtain ⟨L0, hL0, hLn⟩ := made_row HOWN.out
  rw [hz3] at hL0
  have hB4 : Below w3.heap.size w3 w4 := (Below.refl _ _).grown HG4.out (Nat.le_refl _) (fun j ej => by cases ej)
  have HB4 := Lib.hid hB4
  have HL0 := Lib.hid hL0
  have HLn := Lib.hid hLn
  have HD4 := Lib.hid ((HD.out.later HF2.out).later hB4)
  have F04 := Lib.hid (cell_later hB4 F0.out)
  have F14 := Lib.hid (cell_later hB4 F1.out)
  have hbl := hL0.lt
  have HFb : Hid (∀ k, w2.heap.size ≤ k → ¬ F k) := Lib.hid fun k hk hF => by have := HD.out.lt hF; omega
  clear hL0 hLn hB4 HOWN
  go_wp2
  go_loopg [10] 69649 (fun gg s wr => ∃ (j : Nat) (L : List Int), j + gg = 69649 ∧ s = .int .i64 j ∧ OwnG 0 wr (w2.heap.size + 1) L ∧ Hid (L.length = 69649 ∧ Upto j L) ∧ Below (w2.heap.size + 1) w4 wr)
  case atStart => exact ⟨0, L0, by omega, rfl, HL0.out, ⟨HLn.out, fun i hi => absurd hi (Nat.not_lt_zero _)⟩, Below.refl _ _⟩
  case round =>
    obtain ⟨j, L, hj, rfl, hL, hU, hBr⟩ := hrel
    have HL := Lib.hid hL
    have HBr := Lib.hid hBr
    clear hL hBr
    cases gk with
    | succ gg =>
      have hjn : j < 69649 := by omega
      have hlt : (j : Int) < 69649 := by omega
      have hc := HL.out.cell (i := j) (by rw [hU.out.1]; exact hjn)
      have hf := HL.out.fr j
      obtain ⟨z, hz⟩ : ∃ z, L.getD j 0 = z := ⟨_, rfl⟩
      rw [hz] at hc
      clear hz
      have HP := Lib.hid (HL.out.put j PX)
      unfold PX at HP
      go_wp2
      go_roundg gg
      case measure => omega
      case rel =>
        refine ⟨j + 1, L.set j 281474976710656, by omega, by go_num, HP.out, ⟨by rw [List.length_set]; exact hU.out.1, hU.out.2.succ (by rw [hU.out.1]; exact hjn)⟩, HBr.out.setCell (p := ⟨w2.heap.size + 1, j, none⟩) (Nat.le_refl _) _⟩
    | zero =>
      obtain rfl : j = 69649 := by omega
      have HONE := Lib.hid (hU.out.2.one hU.out.1)
      have hlt : ¬ ((69649 : Nat) : Int) < 69649 := by omega
      have hsz := HBr.out.size
      have hz4 := HB4.out.size
      have HDr : Hid (DctP wr F sb []) := Lib.hid (HD4.out.of_blocks fun k hk => HBr.out.block k (by have := HD.out.lt hk; omega))
      have f0 : wr.cell? ⟨w2.heap.size, 0, none⟩ = some (.int .i64 1) := (HBr.out.cell (p := ⟨w2.heap.size, 0, none⟩) (by show w2.heap.size < w2.heap.size + 1; omega)).trans F04.out
      have f1 : wr.cell? ⟨w2.heap.size, 1, none⟩ = some (.int .i64 9) := (HBr.out.cell (p := ⟨w2.heap.size, 1, none⟩) (by show w2.heap.size < w2.heap.size + 1; omega)).trans F14.out
      have b5 := dc_box wr (.cells #[.int .i64 1, .int .i64 9, .int .i64 17, .int .i64 4097, .slice (some ⟨w2.heap.size + 1, 0, none⟩) 69649 69649] 36)
      have i5 := Ib.new wr 36 1 9 17 4097 (.slice (some ⟨w2.heap.size + 1, 0, none⟩) 69649 69649)
      obtain ⟨w5, hw5⟩ : ∃ w5, wr.alloc (.cells #[.int .i64 1, .int .i64 9, .int .i64 17, .int .i64 4097, .slice (some ⟨w2.heap.size + 1, 0, none⟩) 69649 69649] 36) = w5 := ⟨_, rfl⟩
      have hz5 : w5.heap.size = wr.heap.size + 1 := by rw [← hw5]; simp
      rw [hw5] at b5 i5
      have HW5 := Lib.hid hw5
      have HB5 := Lib.hid b5
      have HI5 := Lib.hid i5
      clear hw5 i5 b5
      go_upto_region 13 with fail
      rw [HW5.out]
      have g0 := cell_later HB5.out f0
      have g1 := cell_later HB5.out f1
      have hh0 : (0 : Int) ≤ (h : Int) := by omega
      have hh9 : (h : Int) ≤ 69649 := by omega
      have hh9' : h ≤ 69649 := by omega
      have b6 := dc_box w5 (.cells #[.int .i64 0, .int .i64 0, .int .i64 0, .int .i64 0, .slice none 0 0] 36)
      have i6 : Ib (w5.alloc (.cells #[.int .i64 0, .int .i64 0, .int .i64 0, .int .i64 0, .slice none 0 0] 36)).drew w5.heap.size 36 0 0 0 0 (.slice none 0 0) := Ib.new w5 36 0 0 0 0 (.slice none 0 0)
      have k0 : (w5.alloc (.cells #[.int .i64 0, .int .i64 0, .int .i64 0, .int .i64 0, .slice none 0 0] 36)).drew.cell? ⟨w2.heap.size, 0, none⟩ = some (.int .i64 1) := (cell_later b6 g0 : (w5.alloc _).cell? _ = _)
      have k1 : (w5.alloc (.cells #[.int .i64 0, .int .i64 0, .int .i64 0, .int .i64 0, .slice none 0 0] 36)).drew.cell? ⟨w2.heap.size, 1, none⟩ = some (.int .i64 9) := (cell_later b6 g1 : (w5.alloc _).cell? _ = _)
      have HP6 := Lib.hid (i6.put 1 9 1 h (.slice (some ⟨w2.heap.size + 1, 0, none⟩) h 69649))
      have HS6 : Hid (Below wr.heap.size wr (w5.alloc (.cells #[.int .i64 0, .int .i64 0, .int .i64 0, .int .i64 0, .slice none 0 0] 36)).drew) := Lib.hid (by
        have := bel_step HB5.out b6
        exact ⟨this.os, this.tape, this.output, this.size, this.block⟩)
      clear f0 f1 b6 i6
      go_region
      have X7 : TX (w5.alloc (.cells #[.int .i64 1, .int .i64 9, .int .i64 1, .int .i64 (h : Int), .slice (some ⟨w2.heap.size + 1, 0, none⟩) h 69649] 36)).drew F sb [] wr.heap.size (wr.heap.size + 1) (w2.heap.size + 1) h 69649 L := by
        have b7 := dc_box w5 (.cells #[.int .i64 1, .int .i64 9, .int .i64 1, .int .i64 (h : Int), .slice (some ⟨w2.heap.size + 1, 0, none⟩) h 69649] 36)
        have b8 : Below w5.heap.size w5 (w5.alloc (.cells #[.int .i64 1, .int .i64 9, .int .i64 1, .int .i64 (h : Int), .slice (some ⟨w2.heap.size + 1, 0, none⟩) h 69649] 36)).drew := ⟨b7.os, b7.tape, b7.output, b7.size, b7.block⟩
        refine ⟨(HDr.out.later HB5.out).later b8, HI5.out.later b8, ?_, (HL.out.later HB5.out).later b8, HFb.out _ (by omega), HFb.out _ (by omega), HFb.out _ (by omega)⟩
        rw [← hz5]
        exact Ib.new w5 36 1 9 1 h (.slice (some ⟨w2.heap.size + 1, 0, none⟩) h 69649)
      have B7 : Below wr.heap.size wr (w5.alloc (.cells #[.int .i64 1, .int .i64 9, .int .i64 1, .int .i64 (h : Int), .slice (some ⟨w2.heap.size + 1, 0, none⟩) h 69649] 36)).drew := by
        have b7 := bel_step HB5.out (dc_box w5 (.cells #[.int .i64 1, .int .i64 9, .int .i64 1, .int .i64 (h : Int), .slice (some ⟨w2.heap.size + 1, 0, none⟩) h 69649] 36))
        exact ⟨b7.os, b7.tape, b7.output, b7.size, b7.block⟩
      obtain ⟨w7, hw7⟩ : ∃ w7, (w5.alloc (.cells #[.int .i64 1, .int .i64 9, .int .i64 1, .int .i64 (h : Int), .slice (some ⟨w2.heap.size + 1, 0, none⟩) h 69649] 36)).drew = w7 := ⟨_, rfl⟩
      rw [hw7] at X7 B7
      rw [hw7]
      have HX7 := Lib.hid X7
      have HBT : Hid (Below w.heap.size w w7) := Lib.hid (((((HB.out.trans (HF2.out.mono HB.out.size)).trans (HB4.out.mono (by have := HB.out.size; have := HF2.out.size; omega))).trans (HBr.out.mono (by have := HB.out.size; omega))).trans (B7.mono (by have := HB.out.size; omega))))
      clear hw7 X7 B7 g0 g1 k0 k1
      -- the first Add
      have s1 := lit_slk (q := .i64) w7 3 [0, 1] #[.int .i64 0, .int .i64 1] rfl
      have b1 := dc_box w7 (.cells #[.int .i64 0, .int .i64 1] 3)
      have HA1c := Lib.hid (tx_wide (HX7.out.later b1) HONE.out [0, 1] 2 2 w7.heap.size rfl (by omega) (by simp) s1 (wide1 HONE.out) (by decide))
      have HBT1 := Lib.hid (HBT.out.trans (b1.mono HBT.out.size))
      obtain ⟨x0, x1, x2, x3, x4⟩ := HX7.out.wide.cells
      clear s1 b1
      go_wp2_with fail
      go_upto_region 15 with (go_at_call 8; refine HA1c.out.mono ?_; rintro e w8 ⟨rfl, F8, hx8, hs8, hf8⟩; have HX8 := Lib.hid hx8; have HS8 := Lib.hid hs8; have HF8 := Lib.hid hf8; clear hx8 hs8 hf8)
      have HBT8 : Hid (Below w.heap.size w w8) := Lib.hid (HBT1.out.trans (HS8.out.below HBT1.out.size fun k hk hF => by have := HF.out k hF; omega))
      have HG8 : Hid (∀ k, F8 k → w.heap.size ≤ k) := Lib.hid fun k hk => by
        rcases HF8.out k hk with e | e
        · exact HF.out k e
        · exact Nat.le_trans HBT1.out.size e
      have s2 := lit_slk (q := .i64) w8 3 [0] #[.int .i64 0] rfl
      have b2 := dc_box w8 (.cells #[.int .i64 0] 3)
      have HA2c := Lib.hid (tx_wide (HX8.out.later b2) HONE.out [0] 1 1 w8.heap.size rfl (by omega) (by simp) s2 (wide0 HONE.out) (by decide))
      have HBT2 := Lib.hid (HBT8.out.trans (b2.mono HBT8.out.size))
      clear s2 b2 x0 x1 x2 x3 x4
      obtain ⟨x0, x1, x2, x3, x4⟩ := HX8.out.wide.cells
      go_upto_region 16 with (go_at_call 8; refine HA2c.out.mono ?_; rintro e w9 ⟨rfl, F9, hx9, hs9, hf9⟩; have HX9 := Lib.hid hx9; have HS9 := Lib.hid hs9; have HF9 := Lib.hid hf9; clear hx9 hs9 hf9)
      have HBT9 : Hid (Below w.heap.size w w9) := Lib.hid (HBT2.out.trans (HS9.out.below HBT2.out.size fun k hk hF => by have := HG8.out k hF; omega))
      have HG9 : Hid (∀ k, F9 k → w.heap.size ≤ k) := Lib.hid fun k hk => by
        rcases HF9.out k hk with e | e
        · exact HG8.out k e
        · exact Nat.le_trans HBT2.out.size e
      have s3 := lit_slk (q := .i64) w9 3 [(g : Int), 8] #[.int .i64 (g : Int), .int .i64 8] rfl
      have b3 := dc_box w9 (.cells #[.int .i64 (g : Int), .int .i64 8] 3)
      have HA3c := Lib.hid (tx_tallN (HX9.out.later b3) HONE.out hh9' [(g : Int), 8] 2 2 w9.heap.size rfl (by omega) (by simp) s3 (tall8 (g : Int)) (by decide))
      have HBT3 := Lib.hid (HBT9.out.trans (b3.mono HBT9.out.size))
      clear s3 b3 x0 x1 x2 x3 x4
      obtain ⟨x0, x1, x2, x3, x4⟩ := HX9.out.tall.cells
      go_upto_region 17 with (go_at_call 8; refine HA3c.out.mono ?_; rintro e w10 ⟨rfl, F10, hx10, hs10, hf10⟩; have HX10 := Lib.hid hx10; have HS10 := Lib.hid hs10; have HF10 := Lib.hid hf10; clear hx10 hs10 hf10)
      have HBT10 : Hid (Below w.heap.size w w10) := Lib.hid (HBT3.out.trans (HS10.out.below HBT3.out.size fun k hk hF => by have := HG9.out k hF; omega))
      have HG10 : Hid (∀ k, F10 k → w.heap.size ≤ k) := Lib.hid fun k hk => by
        rcases HF10.out k hk with e | e
        · exact HG9.out k e
        · exact Nat.le_trans HBT3.out.size e
      have HTN := Lib.hid (dTemplates_any HX10.out.d)
      have s4 := lit_slk (q := .i64) w10 3 [(g : Int)] #[.int .i64 (g : Int)] rfl
      have b4 := dc_box w10 (.cells #[.int .i64 (g : Int)] 3)
      have hta := tallg (HONE.out.take hh9') (h := h) (by omega) (by omega) hg8
      clear x0 x1 x2 x3 x4
      obtain ⟨x0, x1, x2, x3, x4⟩ := HX10.out.tall.cells
      have HBT4 := Lib.hid (HBT10.out.trans (b4.mono HBT10.out.size))
      have HLV := Lib.hid (fun W => dlives_any W)
      by_cases hcase : g % 2 = 1 ∧ 4096 < h
      · rw [if_pos hcase] at hta
        have HA4c := Lib.hid (tx_tallN (HX10.out.later b4) HONE.out hh9' [(g : Int)] 1 1 w10.heap.size rfl (by omega) (by simp) s4 hta (by decide))
        have hm2 : (g : Int).tmod 2 = 1 := by rw [Int.tmod_eq_emod_of_nonneg (by omega)]; omega
        have hgt : (h : Int) > 4096 := by omega
        clear s4 b4 hta
        go_upto_region 20 with (first
          | (go_at_call 11; refine HTN.out.mono ?_; rintro e w11 ⟨rfl, rfl⟩)
          | (go_at_call 8; refine HA4c.out.mono ?_; rintro e w11 ⟨rfl, F11, hx11, hs11, hf11⟩; have HX11 := Lib.hid hx11; have HS11 := Lib.hid hs11; have HF11 := Lib.hid hf11; clear hx11 hs11 hf11))
        have HBT11 : Hid (Below w.heap.size w w11) := Lib.hid (HBT4.out.trans (HS11.out.below HBT4.out.size fun k hk hF => by have := HG10.out k hF; omega))
        have HT11 : Hid (Calls Try.prog 11 #[.pointer (some ⟨sb, 0, none⟩)] w11 fun e w' => e = .returned (.int .i64 0) ∧ w11 = w') := Lib.hid (dTemplates_any HX11.out.d)
        have HV11 : Hid (Calls Try.prog 9 #[.pointer (some ⟨sb, 0, none⟩)] w11 fun e w' => e = .returned (.int .i64 0) ∧ w11 = w') := Lib.hid (dVariants_any HX11.out.d)
        have HR11 : Hid (Calls Try.prog 17 #[.pointer (some ⟨sb, 0, none⟩)] w11 fun e w' => e = .returned (.int .i64 0) ∧ Below w11.heap.size w11 w') := Lib.hid (dArea_any HX11.out.d (by decide))
        go_wp2_with (first
          | (go_at_call 11; refine HT11.out.mono ?_; rintro e w12 ⟨rfl, rfl⟩)
          | (go_at_call 9; refine HV11.out.mono ?_; rintro e w12 ⟨rfl, rfl⟩)
          | (go_at_call 17; refine HR11.out.mono ?_; rintro e w12 ⟨rfl, hb12⟩; have HB12 := Lib.hid hb12; clear hb12)
          | (go_at_call 12; refine (HLV.out _).mono ?_; rintro e w13 ⟨rfl, hb13⟩; have HB13 := Lib.hid hb13; clear hb13))
        go_ret
        exact ⟨rfl, HBT11.out.trans ((HB12.out.trans (HB13.out.mono HB12.out.size)).mono HBT11.out.size)⟩
      · rw [if_neg hcase] at hta
        have hA4 := tx_tall (HX10.out.later b4) HONE.out hh9' [(g : Int)] 1 1 w10.heap.size rfl (by omega) (by simp) s4 hta
        rw [if_pos rfl] at hA4
        have HA4c := Lib.hid hA4
        have hgT : Tu.isT (g : Int) = true := by unfold Tu.isT; simp; omega
        have hmm : (g : Int).tmod 2 = ((g % 2 : Nat) : Int) := by rw [Int.tmod_eq_emod_of_nonneg (by omega)]; omega
        have HCS := Lib.hid hcase
        clear s4 b4 hta hA4 hcase
        go_upto_region 20 with (first
          | (go_at_call 11; refine HTN.out.mono ?_; rintro e w11 ⟨rfl, rfl⟩)
          | (go_at_call 8; refine HA4c.out.mono ?_; rintro e w11 ⟨rfl, F11, hd11, hs11, hf11⟩; rw [if_pos rfl, ris1 hgT, List.nil_append] at hd11; have HD11 := Lib.hid hd11; have HS11 := Lib.hid hs11; clear hd11 hs11 hf11))
        have HBT11 : Hid (Below w.heap.size w w11) := Lib.hid (HBT4.out.trans (HS11.out.below HBT4.out.size fun k hk hF => by have := HG10.out k hF; omega))
        have HV11 : Hid (Calls Try.prog 9 #[.pointer (some ⟨sb, 0, none⟩)] w11 fun e w' => e = .returned (.int .i64 1) ∧ w11 = w') := Lib.hid (dVariants_any HD11.out)
        have hR := dArea_any HD11.out (by rw [tall_area]; omega)
        rw [tall_area] at hR
        have HR11 := Lib.hid hR
        clear hR
        by_cases hg2 : g % 2 = 1
        · have hle : ¬ (h : Int) > 4096 := fun k => HCS.out ⟨hg2, by omega⟩
          rw [hg2] at hmm
          clear hg2
          go_wp2_with (first
            | (go_at_call 9; refine HV11.out.mono ?_; rintro e w12 ⟨rfl, rfl⟩)
            | (go_at_call 17; refine HR11.out.mono ?_; rintro e w12 ⟨rfl, hb12⟩; have HB12 := Lib.hid hb12; clear hb12)
            | (go_at_call 12; refine (HLV.out _).mono ?_; rintro e w13 ⟨rfl, hb13⟩; have HB13 := Lib.hid hb13; clear hb13))
          go_ret
          exact ⟨rfl, HBT11.out.trans ((HB12.out.trans (HB13.out.mono HB12.out.size)).mono HBT11.out.size)⟩
        · have hg20 : g % 2 = 0 := by omega
          rw [hg20] at hmm
          clear hg2 hg20
          go_wp2_with (first
            | (go_at_call 9; refine HV11.out.mono ?_; rintro e w12 ⟨rfl, rfl⟩)
            | (go_at_call 17; refine HR11.out.mono ?_; rintro e w12 ⟨rfl, hb12⟩; have HB12 := Lib.hid hb12; clear hb12)
            | (go_at_call 12; refine (HLV.out _).mono ?_; rintro e w13 ⟨rfl, hb13⟩; have HB13 := Lib.hid hb13; clear hb13))
          go_ret
          exact ⟨rfl, HBT11.out.trans ((HB12.out.trans (HB13.out.mono HB12.out.size)).mono HBT11.out.size)⟩
end Go.Proofs.Ytmlinoanpcbflaa
