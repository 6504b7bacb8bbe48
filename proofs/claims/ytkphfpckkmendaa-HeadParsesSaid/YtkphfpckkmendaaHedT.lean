/- A head's bytes, by head and by the document, over any memory. Condition: numbers fit their kinds. -/
import Derived.Test.YtkphfpckkmendaaHedN
import Derived.Test.YtkphfpckkmendaaNumK
import Derived.Test.YtkphfpckkmendaaDec
namespace Go.Proofs.Ytkphfpckkmendaa
open Go.RowKit
set_option linter.unusedVariables false

/-- the first part of a head's bytes -/
def Hj.pre (h : Hd.H) : List Int := [80] ++ Nu.decV h.kd ++ [10] ++ Nu.decV h.w ++ [32] ++ Nu.decV h.h ++ [10]
theorem Hj.pre_str (h : Hd.H) : (⟨#[80]⟩ : ByteArray) ++ strOfNums (Nu.decV h.kd) ++ ⟨#[10]⟩ ++ strOfNums (Nu.decV h.w) ++ ⟨#[32]⟩ ++ strOfNums (Nu.decV h.h) ++ ⟨#[10]⟩ = strOfNums (Hj.pre h) := by
  unfold Hj.pre
  simp only [strOfNums_append]
  rfl
theorem Hj.bytes_bits {h : Hd.H} (hb : Hd.bits h.kd = true) : Hd.bytes h = Hj.pre h := by unfold Hd.bytes Hj.pre; rw [if_pos hb, List.append_nil]
theorem Hj.bytes_more {h : Hd.H} (hb : Hd.bits h.kd = false) : Hd.bytes h = Hj.pre h ++ (Nu.decV h.m ++ [10]) := by unfold Hd.bytes Hj.pre; rw [if_neg (by rw [hb]; simp)]
theorem Hj.pre_size {h : Hd.H} (hf : Hj.Fit h) : (strOfNums (Hj.pre h)).size ≤ 204 := by
  have a := Nu.decV_len hf.1
  have b := Nu.decV_len hf.2.1
  have c := Nu.decV_len hf.2.2.1
  rw [strOfNums_size]
  unfold Hj.pre
  simp only [List.length_append, List.length_cons, List.length_nil]
  omega
/-- what Write hands back -/
def Hj.wr (h : Hd.H) : Value := if Hd.May h then .tuple #[.string (strOfNums (Hd.bytes h)), .int .i64 0] else .tuple #[.string ⟨#[]⟩, .int .i64 1]
set_option maxRecDepth 100000 in
set_option maxHeartbeats 4000000 in
theorem refWrite_any (h : Hd.H) (hf : Hj.Fit h) (w : World) :
    Calls Try.prog 6 #[agH h] w fun e w' => e = .returned (Hj.wr h) ∧ Below w.heap.size w w' := by
  have HM := Lib.hid (refMay_any h hf)
  have HT := Lib.hid (bits_any h.kd)
  by_cases hm : Hd.May h
  · rw [decide_eq_true hm] at HM
    have X0 : Hid (Hj.wr h = .tuple #[.string (strOfNums (Hd.bytes h)), .int .i64 0]) := if_pos hm
    have XP := Lib.hid (Hj.pre_str h)
    have XS := Lib.hid (Hj.pre_size hf)
    have XB := Lib.hid (@Hj.bytes_bits h)
    have XM := Lib.hid (@Hj.bytes_more h)
    obtain ⟨kd, ww, hh, m⟩ := h
    have HD1 := Lib.hid (refDecimal_any kd hf.1)
    have HD2 := Lib.hid (refDecimal_any ww hf.2.1)
    have HD3 := Lib.hid (refDecimal_any hh hf.2.2.1)
    have HD4 := Lib.hid (refDecimal_any m hf.2.2.2)
    have s1 : (strOfNums (Nu.decV kd)).size ≤ 66 := by rw [strOfNums_size]; exact Nu.decV_len hf.1
    have s2 : (strOfNums (Nu.decV ww)).size ≤ 66 := by rw [strOfNums_size]; exact Nu.decV_len hf.2.1
    have s3 : (strOfNums (Nu.decV hh)).size ≤ 66 := by rw [strOfNums_size]; exact Nu.decV_len hf.2.2.1
    have s4 : (strOfNums (Nu.decV m)).size ≤ 66 := by rw [strOfNums_size]; exact Nu.decV_len hf.2.2.2
    obtain ⟨g, hg⟩ : ∃ g, Hd.bits kd = g := ⟨_, rfl⟩
    simp only at XP XB XM HT
    rw [hg] at HT
    obtain ⟨D1, hD1⟩ : ∃ D, strOfNums (Nu.decV kd) = D := ⟨_, rfl⟩
    obtain ⟨D2, hD2⟩ : ∃ D, strOfNums (Nu.decV ww) = D := ⟨_, rfl⟩
    obtain ⟨D3, hD3⟩ : ∃ D, strOfNums (Nu.decV hh) = D := ⟨_, rfl⟩
    obtain ⟨D4, hD4⟩ : ∃ D, strOfNums (Nu.decV m) = D := ⟨_, rfl⟩
    rw [hD1] at HD1 s1 XP
    rw [hD2] at HD2 s2 XP
    rw [hD3] at HD3 s3 XP
    rw [hD4] at HD4 s4
    have L1 : ¬ 9223372036854775807 < 1 + D1.size := by omega
    have L2 : ¬ 9223372036854775807 < 1 + D1.size + 1 := by omega
    have L3 : ¬ 9223372036854775807 < 1 + D1.size + 1 + D2.size := by omega
    have L4 : ¬ 9223372036854775807 < 1 + D1.size + 1 + D2.size + 1 := by omega
    have L5 : ¬ 9223372036854775807 < 1 + D1.size + 1 + D2.size + 1 + D3.size := by omega
    have L6 : ¬ 9223372036854775807 < 1 + D1.size + 1 + D2.size + 1 + D3.size + 1 := by omega
    have HG := Lib.hid hg
    have HD4S := Lib.hid hD4
    have S4 := Lib.hid s4
    clear hm hf s1 s2 s3 s4 hD1 hD2 hD3 hD4 hg
    unfold agH at HM ⊢
    go_enter Try.func6, Try.ntmps6
    go_wp2_with fail
    refine (HM.out _).mono ?_
    rintro e w9 ⟨rfl, hb9⟩
    obtain ⟨n0, n1, n2, n3⟩ := ((Hb.new w 25 ⟨kd, ww, hh, m⟩).later hb9).cells
    have HBz : Hid (Below w.heap.size w w9) := ((Below.refl _ w).alloc (Nat.le_refl _) (.cells #[.int .i64 kd, .int .i64 ww, .int .i64 hh, .int .i64 m] 25)).trans (hb9.mono (by simp))
    have hBr : Below w9.heap.size w9 w9 := .refl _ _
    clear hb9
    go_wp2_with fail
    go_cut [5] (fun s4 wx => s4 = .string ((⟨#[80]⟩ : ByteArray) ++ D1 ++ ⟨#[10]⟩ ++ D2 ++ ⟨#[32]⟩ ++ D3 ++ ⟨#[10]⟩) ∧ Below w9.heap.size w9 wx)
    case first =>
      go_region_held3 (fun w' => w'.cell? ⟨w.heap.size, 0, none⟩ = some (.int .i64 kd) ∧ w'.cell? ⟨w.heap.size, 1, none⟩ = some (.int .i64 ww) ∧ w'.cell? ⟨w.heap.size, 2, none⟩ = some (.int .i64 hh))
        (first | exact ⟨n0, n1, n2⟩ | exact ⟨cell_later hBr n0, cell_later hBr n1, cell_later hBr n2⟩)
        (first
          | (go_at_call 14; with_reducible refine (HD1.out _).mono ?_; rintro e w8 ⟨rfl, hb8⟩; replace hBr := bel_step (w := w9) (by first | exact hBr | exact hBr.drew) hb8)
          | (go_at_call 14; with_reducible refine (HD2.out _).mono ?_; rintro e w8 ⟨rfl, hb8⟩; replace hBr := bel_step (w := w9) (by first | exact hBr | exact hBr.drew) hb8)
          | (go_at_call 14; with_reducible refine (HD3.out _).mono ?_; rintro e w8 ⟨rfl, hb8⟩; replace hBr := bel_step (w := w9) (by first | exact hBr | exact hBr.drew) hb8))
      all_goals
        go_wp2_with fail
        go_meet
        case rel => exact ⟨rfl, hBr⟩
    case rest =>
      obtain ⟨rfl, hBx⟩ := hcut
      have m0 := cell_later hBx n0
      have m3 := cell_later hBx n3
      have HBy := Lib.hid (HBz.out.trans (hBx.mono HBz.out.size))
      clear n0 n1 n2 n3 hBr hBx L1 L2 L3 L4 L5 L6
      rw [XP.out]
      obtain ⟨T, hT⟩ : ∃ T, strOfNums (Hj.pre ⟨kd, ww, hh, m⟩) = T := ⟨_, rfl⟩
      rw [hT] at XS ⊢
      have s4 := S4.out
      have sT := XS.out
      have M1 : ¬ 9223372036854775807 < D4.size + 1 := by omega
      have M2 : ¬ 9223372036854775807 < T.size + (D4.size + 1) := by omega
      have M3 : ¬ 9223372036854775807 < T.size + D4.size := by omega
      have M4 : ¬ 9223372036854775807 < T.size + D4.size + 1 := by omega
      have HTT := Lib.hid hT
      clear hT s4 sT
      cases g with
      | true =>
        go_wp2_with (go_at_call 19; refine (HT.out _).mono ?_; rintro e w7 ⟨rfl, rfl⟩)
        go_ret2
        exact ⟨by rw [X0.out, XB.out HG.out, HTT.out]; rfl, HBy.out⟩
      | false =>
        have XF : Hid (strOfNums (Hd.bytes ⟨kd, ww, hh, m⟩) = T ++ (D4 ++ ⟨#[10]⟩)) := by
          show _ = _
          rw [XM.out HG.out, strOfNums_append, strOfNums_append, HTT.out, HD4S.out]; rfl
        go_wp2_with (first
          | (go_at_call 19; refine (HT.out _).mono ?_; rintro e w7 ⟨rfl, rfl⟩)
          | (go_at_call 14; with_reducible refine (HD4.out _).mono ?_; rintro e w6 ⟨rfl, hb6⟩))
        go_ret2
        exact ⟨by rw [X0.out, XF.out, ← ByteArray.append_assoc]; rfl, HBy.out.trans (hb6.mono HBy.out.size)⟩
  · rw [decide_eq_false hm] at HM
    have X0 : Hid (Hj.wr h = .tuple #[.string ⟨#[]⟩, .int .i64 1]) := if_neg hm
    obtain ⟨kd, ww, hh, m⟩ := h
    clear hm HT
    unfold agH at HM ⊢
    go_enter Try.func6, Try.ntmps6
    go_wp2_with fail
    refine (HM.out _).mono ?_
    rintro e w9 ⟨rfl, hb9⟩
    go_wp2
    go_ret2
    exact ⟨by rw [X0.out]; rfl, ((Below.refl _ w).alloc (Nat.le_refl _) _).trans (hb9.mono (by simp))⟩
end Go.Proofs.Ytkphfpckkmendaa
