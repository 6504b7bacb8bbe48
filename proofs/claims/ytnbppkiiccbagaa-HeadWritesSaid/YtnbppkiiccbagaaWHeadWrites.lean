/- HeadWrites: a head's bytes are the document's, or it is refused; they are parsed as it was: the walk of the law. No condition. -/
import Derived.Test.YtnbppkiiccbagaaHedO
import Derived.Test.YtnbppkiiccbagaaHedX
namespace Go.Proofs.Ytnbppkiiccbagaa
open Go.RowKit
set_option linter.unusedVariables false

theorem Hj.bel4 {B : Nat} {w w1 w2 : World} (h : Below B w w1) (k : Below w1.heap.size w1 w2) (hB : B ≤ w1.heap.size) : Below B w w2 := h.trans (k.mono hB)
theorem Hj.sneq (s : ByteArray) : (!(s.toList == s.toList)) = false := by simp
set_option maxRecDepth 100000 in
set_option maxHeartbeats 8000000 in
theorem headWrites_walk (a0k0 a0w1 a0h2 a0m3 : Int) (a1 : ByteArray) (w : World) (w00 : (Lit.int .i64 a0k0).wf = true) (w01 : (Lit.int .i64 a0w1).wf = true) (w02 : (Lit.int .i64 a0h2).wf = true) (w03 : (Lit.int .i64 a0m3).wf = true) (w1 : a1.size ≤ maxLen) :
    Calls Try.prog 7 #[.agg #[.int .i64 a0k0, .int .i64 a0w1, .int .i64 a0h2, .int .i64 a0m3], .string a1] w fun e w' => e = .returned (.bool true) ∧ Below w.heap.size w w' := by
  have HF : Hj.Fit ⟨a0k0, a0w1, a0h2, a0m3⟩ := ⟨wfI w00, wfI w01, wfI w02, wfI w03⟩
  have HGD := Lib.hid (hgood_any _ HF)
  have hM := Hj.may_good ⟨a0k0, a0w1, a0h2, a0m3⟩
  generalize Hj.good ⟨a0k0, a0w1, a0h2, a0m3⟩ = G at HGD hM
  have HFG := Lib.hid (Hj.may_fit hM)
  have HFR := Lib.hid HF
  have HWR := Lib.hid (hwrite_any G (Hj.may_fit hM))
  rw [Hj.wr_may hM] at HWR
  have hts := Hj.text_size (Hj.may_fit hM)
  have HFEW := Lib.hid (few_any a1 9 (by omega) w1)
  have HP : Hid (∀ (F : ByteArray), F.size ≤ 9 → ∀ W, Calls Try.prog 36 #[.string (Hj.text G ++ F), .agg #[.int .i64 4096, .int .i64 65536, .int .i64 65535]] W fun e w' => e = .returned (.tuple #[agH G, .int .i64 ((Hj.text G).size : Int), .int .i64 0]) ∧ Below W.heap.size W w') := fun F hF W => by
    refine (hparse_any (Hj.text G ++ F) (by rw [ByteArray.size_append]; omega) 4096 65536 65535 W).mono ?_
    rintro e w' ⟨rfl, hb⟩
    have hlim : Hd.limits 4096 65536 65535 = ⟨4096, 65536, 65535⟩ := rfl
    unfold hcnt
    rw [hlim, Hj.text_parse hM hM.2.1.2 hM.2.2.1.2 (.inr hM.2.2.2.1.2)]
    exact ⟨rfl, hb⟩
  have HTS := Lib.hid hts
  generalize Hj.text G = T at HWR HP HTS
  obtain ⟨kd, ww, hh, m⟩ := G
  have HOG := Lib.hid (hof_any ⟨kd, ww, hh, m⟩)
  have HAS := Lib.hid (has_any ⟨kd, ww, hh, m⟩)
  unfold agH at HGD HWR HP HOG HAS
  have hq := rheq_self kd ww hh m
  have hqg := rheq_guard
  clear hM HF w00 w01 w02 w03 w1 hts
  have hBt : Below w.heap.size w w := .refl _ _
  go_enter Try.func7, Try.ntmps7
  go_wp2_with fail
  refine (HGD.out _).mono ?_
  rintro e w1 ⟨rfl, hb1⟩
  have hR1 := (Hb.new w 50 ⟨a0k0, a0w1, a0h2, a0m3⟩).later hb1
  have hB1 : Below w.heap.size w w1 := (hBt.alloc (Nat.le_refl _) (.cells #[.int .i64 a0k0, .int .i64 a0w1, .int .i64 a0h2, .int .i64 a0m3] 50)).trans (hb1.mono (by simp))
  obtain ⟨r0, r1, r2, r3⟩ := hR1.cells
  simp only at r0 r1 r2 r3
  have hrlt := hR1.lt
  have hrne : ¬ w.heap.size = w1.heap.size := Nat.ne_of_lt hrlt
  go_wp2_with fail
  obtain ⟨W, hW⟩ : ∃ W, (w1.alloc (Obj.cells #[Value.int IntKind.i64 kd, Value.int IntKind.i64 ww, Value.int IntKind.i64 hh, Value.int IntKind.i64 m] 50)).alloc (Obj.cells #[Value.int IntKind.i64 a0k0, Value.int IntKind.i64 a0w1, Value.int IntKind.i64 a0h2, Value.int IntKind.i64 a0m3, Value.int IntKind.i64 kd, Value.int IntKind.i64 ww, Value.int IntKind.i64 hh, Value.int IntKind.i64 m] 50) = W := ⟨_, rfl⟩
  have hBW : Below w1.heap.size w1 W := by rw [← hW]; exact ((Below.refl _ _).alloc (Nat.le_refl _) _).alloc (by simp) _
  have n0 : W.cell? ⟨w1.heap.size, 0, none⟩ = some (.int .i64 kd) := by rw [← hW]; simp [go_sem]
  have n1 : W.cell? ⟨w1.heap.size, 1, none⟩ = some (.int .i64 ww) := by rw [← hW]; simp [go_sem]
  have n2 : W.cell? ⟨w1.heap.size, 2, none⟩ = some (.int .i64 hh) := by rw [← hW]; simp [go_sem]
  have n3 : W.cell? ⟨w1.heap.size, 3, none⟩ = some (.int .i64 m) := by rw [← hW]; simp [go_sem]
  have b0 : W.cell? ⟨w1.heap.size + 1, 0, none⟩ = some (.int .i64 a0k0) := by rw [← hW]; simp [go_sem]
  have b1 : W.cell? ⟨w1.heap.size + 1, 1, none⟩ = some (.int .i64 a0w1) := by rw [← hW]; simp [go_sem]
  have b2 : W.cell? ⟨w1.heap.size + 1, 2, none⟩ = some (.int .i64 a0h2) := by rw [← hW]; simp [go_sem]
  have b3 : W.cell? ⟨w1.heap.size + 1, 3, none⟩ = some (.int .i64 a0m3) := by rw [← hW]; simp [go_sem]
  have b4 : W.cell? ⟨w1.heap.size + 1, 4, none⟩ = some (.int .i64 kd) := by rw [← hW]; simp [go_sem]
  have b5 : W.cell? ⟨w1.heap.size + 1, 5, none⟩ = some (.int .i64 ww) := by rw [← hW]; simp [go_sem]
  have b6 : W.cell? ⟨w1.heap.size + 1, 6, none⟩ = some (.int .i64 hh) := by rw [← hW]; simp [go_sem]
  have b7 : W.cell? ⟨w1.heap.size + 1, 7, none⟩ = some (.int .i64 m) := by rw [← hW]; simp [go_sem]
  have HB := Lib.hid (hB1.trans (hBW.mono hB1.size))
  have HBW0 := Lib.hid (show w.heap.size ≤ W.heap.size from HB.out.size)
  rw [hW]
  clear hW hBW hB1 hBt hb1 hR1 r0 r1 r2 r3 hrlt hrne
  go_loopw [7] (fun u7 wr => ∃ i : Nat, i ≤ 2 ∧ u7 = .int .i64 i ∧ Below W.heap.size W wr) (fun u7 _ => 2 - (intOf u7).toNat)
  case atStart => exact ⟨0, by omega, rfl, .refl _ _⟩
  case round =>
    obtain ⟨i, hi, rfl, hBr⟩ := hrel
    have hcs : i = 0 ∨ i = 1 ∨ i = 2 := by omega
    rcases hcs with rfl | rfl | rfl
    · have HO := Lib.hid (hof_any ⟨a0k0, a0w1, a0h2, a0m3⟩)
      have HW := Lib.hid (hwrite_any ⟨a0k0, a0w1, a0h2, a0m3⟩ HFR.out)
      have HV := Lib.hid (refWrite_any ⟨a0k0, a0w1, a0h2, a0m3⟩ HFR.out)
      have HM := Lib.hid (hmay_any ⟨a0k0, a0w1, a0h2, a0m3⟩ HFR.out)
      have HN := Lib.hid (refMay_any ⟨a0k0, a0w1, a0h2, a0m3⟩ HFR.out)
      obtain ⟨sa, ea, hae⟩ := Hj.wr_two ⟨a0k0, a0w1, a0h2, a0m3⟩
      rw [hae] at HW HV
      obtain ⟨d, hd⟩ : ∃ d, decide (Hd.May ⟨a0k0, a0w1, a0h2, a0m3⟩) = d := ⟨_, rfl⟩
      rw [hd] at HM HN
      unfold agH at HO HW HV HM HN
      have hsn := Hj.sneq sa
      have hen : (ea != ea) = false := by simp
      have hdn : (d != d) = false := by simp
      have c0 := cell_later hBr b0
      have c1 := cell_later hBr b1
      have c2 := cell_later hBr b2
      have c3 := cell_later hBr b3
      clear hae hd b0 b1 b2 b3 b4 b5 b6 b7 n0 n1 n2 n3
      go_wp2_with fail
      refine (HO.out _).mono ?_
      rintro e w2 ⟨rfl, hb⟩
      replace hBr := hBr.trans (hb.mono hBr.size)
      replace c0 := cell_later hb c0
      replace c1 := cell_later hb c1
      replace c2 := cell_later hb c2
      replace c3 := cell_later hb c3
      clear hb
      go_wp2_with fail
      refine (HW.out _).mono ?_
      rintro e w3 ⟨rfl, hb⟩
      replace hBr := hBr.trans (hb.mono hBr.size)
      replace c0 := cell_later hb c0
      replace c1 := cell_later hb c1
      replace c2 := cell_later hb c2
      replace c3 := cell_later hb c3
      clear hb
      go_wp2_with fail
      refine (HV.out _).mono ?_
      rintro e w4 ⟨rfl, hb⟩
      replace hBr := hBr.trans (hb.mono hBr.size)
      replace c0 := cell_later hb c0
      replace c1 := cell_later hb c1
      replace c2 := cell_later hb c2
      replace c3 := cell_later hb c3
      clear hb
      have HBR := Lib.hid hBr
      have hBt : Below w4.heap.size w4 w4 := .refl _ _
      clear hBr
      go_wp2_with fail
      go_region_held3 (fun w' => w'.cell? ⟨w1.heap.size + 1, 0, none⟩ = some (.int .i64 a0k0) ∧ w'.cell? ⟨w1.heap.size + 1, 1, none⟩ = some (.int .i64 a0w1) ∧ w'.cell? ⟨w1.heap.size + 1, 2, none⟩ = some (.int .i64 a0h2) ∧ w'.cell? ⟨w1.heap.size + 1, 3, none⟩ = some (.int .i64 a0m3))
        (first | exact ⟨c0, c1, c2, c3⟩ | exact ⟨cell_later hBt c0, cell_later hBt c1, cell_later hBt c2, cell_later hBt c3⟩)
        (first
          | (go_at_call 44; refine (HO.out _).mono ?_; rintro e w8 ⟨rfl, hb8⟩; replace hBt := bel_step (w := w4) (by first | exact hBt | exact hBt.drew) hb8)
          | (go_at_call 45; refine (HM.out _).mono ?_; rintro e w8 ⟨rfl, hb8⟩; replace hBt := bel_step (w := w4) (by first | exact hBt | exact hBt.drew) hb8)
          | (go_at_call 46; refine (HN.out _).mono ?_; rintro e w8 ⟨rfl, hb8⟩; replace hBt := bel_step (w := w4) (by first | exact hBt | exact hBt.drew) hb8))
      all_goals
        go_wp2_with fail
        go_roundw
        case rel => exact ⟨1, by omega, rfl, HBR.out.trans (hBt.mono HBR.out.size)⟩
        case measure => simp [intOf]
    · have HO := Lib.hid (hof_any ⟨kd, ww, hh, m⟩)
      have HW := Lib.hid (hwrite_any ⟨kd, ww, hh, m⟩ HFG.out)
      have HV := Lib.hid (refWrite_any ⟨kd, ww, hh, m⟩ HFG.out)
      have HM := Lib.hid (hmay_any ⟨kd, ww, hh, m⟩ HFG.out)
      have HN := Lib.hid (refMay_any ⟨kd, ww, hh, m⟩ HFG.out)
      obtain ⟨sa, ea, hae⟩ := Hj.wr_two ⟨kd, ww, hh, m⟩
      rw [hae] at HW HV
      obtain ⟨d, hd⟩ : ∃ d, decide (Hd.May ⟨kd, ww, hh, m⟩) = d := ⟨_, rfl⟩
      rw [hd] at HM HN
      unfold agH at HO HW HV HM HN
      have hsn := Hj.sneq sa
      have hen : (ea != ea) = false := by simp
      have hdn : (d != d) = false := by simp
      have c0 := cell_later hBr b4
      have c1 := cell_later hBr b5
      have c2 := cell_later hBr b6
      have c3 := cell_later hBr b7
      clear hae hd b0 b1 b2 b3 b4 b5 b6 b7 n0 n1 n2 n3
      go_wp2_with fail
      refine (HO.out _).mono ?_
      rintro e w2 ⟨rfl, hb⟩
      replace hBr := hBr.trans (hb.mono hBr.size)
      replace c0 := cell_later hb c0
      replace c1 := cell_later hb c1
      replace c2 := cell_later hb c2
      replace c3 := cell_later hb c3
      clear hb
      go_wp2_with fail
      refine (HW.out _).mono ?_
      rintro e w3 ⟨rfl, hb⟩
      replace hBr := hBr.trans (hb.mono hBr.size)
      replace c0 := cell_later hb c0
      replace c1 := cell_later hb c1
      replace c2 := cell_later hb c2
      replace c3 := cell_later hb c3
      clear hb
      go_wp2_with fail
      refine (HV.out _).mono ?_
      rintro e w4 ⟨rfl, hb⟩
      replace hBr := hBr.trans (hb.mono hBr.size)
      replace c0 := cell_later hb c0
      replace c1 := cell_later hb c1
      replace c2 := cell_later hb c2
      replace c3 := cell_later hb c3
      clear hb
      have HBR := Lib.hid hBr
      have hBt : Below w4.heap.size w4 w4 := .refl _ _
      clear hBr
      go_wp2_with fail
      go_region_held3 (fun w' => w'.cell? ⟨w1.heap.size + 1, 4, none⟩ = some (.int .i64 kd) ∧ w'.cell? ⟨w1.heap.size + 1, 5, none⟩ = some (.int .i64 ww) ∧ w'.cell? ⟨w1.heap.size + 1, 6, none⟩ = some (.int .i64 hh) ∧ w'.cell? ⟨w1.heap.size + 1, 7, none⟩ = some (.int .i64 m))
        (first | exact ⟨c0, c1, c2, c3⟩ | exact ⟨cell_later hBt c0, cell_later hBt c1, cell_later hBt c2, cell_later hBt c3⟩)
        (first
          | (go_at_call 44; refine (HO.out _).mono ?_; rintro e w8 ⟨rfl, hb8⟩; replace hBt := bel_step (w := w4) (by first | exact hBt | exact hBt.drew) hb8)
          | (go_at_call 45; refine (HM.out _).mono ?_; rintro e w8 ⟨rfl, hb8⟩; replace hBt := bel_step (w := w4) (by first | exact hBt | exact hBt.drew) hb8)
          | (go_at_call 46; refine (HN.out _).mono ?_; rintro e w8 ⟨rfl, hb8⟩; replace hBt := bel_step (w := w4) (by first | exact hBt | exact hBt.drew) hb8))
      all_goals
        go_wp2_with fail
        go_roundw
        case rel => exact ⟨2, by omega, rfl, HBR.out.trans (hBt.mono HBR.out.size)⟩
        case measure => simp [intOf]
    · have HO := HOG
      have HBr := Lib.hid (HB.out.trans (hBr.mono HB.out.size))
      replace n0 := cell_later hBr n0
      replace n1 := cell_later hBr n1
      replace n2 := cell_later hBr n2
      replace n3 := cell_later hBr n3
      clear hBr b0 b1 b2 b3 b4 b5 b6 b7
      go_wp2_with fail
      refine (HO.out _).mono ?_
      rintro e w2 ⟨rfl, hb⟩
      replace HBr := Lib.hid (HBr.out.trans (hb.mono HBr.out.size))
      replace n0 := cell_later hb n0
      replace n1 := cell_later hb n1
      replace n2 := cell_later hb n2
      replace n3 := cell_later hb n3
      clear hb
      go_wp2_with fail
      refine (HWR.out _).mono ?_
      rintro e w3 ⟨rfl, hb⟩
      replace HBr := Lib.hid (HBr.out.trans (hb.mono HBr.out.size))
      replace n0 := cell_later hb n0
      replace n1 := cell_later hb n1
      replace n2 := cell_later hb n2
      replace n3 := cell_later hb n3
      clear hb
      go_wp2_with fail
      refine (HFEW.out _).mono ?_
      rintro e w4 ⟨F, rfl, hF, rfl⟩
      have hT := HTS.out
      have L1 : ¬ 9223372036854775807 < T.size + F.size := by omega
      have HFS := Lib.hid hF
      clear hT hF
      go_wp2_with fail
      refine (hall_any _).mono ?_
      rintro e w5 ⟨rfl, hb⟩
      replace HBr := Lib.hid (HBr.out.trans (hb.mono HBr.out.size))
      replace n0 := cell_later hb n0
      replace n1 := cell_later hb n1
      replace n2 := cell_later hb n2
      replace n3 := cell_later hb n3
      clear hb
      go_wp2_with fail
      refine (HP.out F HFS.out _).mono ?_
      rintro e w6 ⟨rfl, hb⟩
      replace HBr := Lib.hid (HBr.out.trans (hb.mono HBr.out.size))
      replace n0 := cell_later hb n0
      replace n1 := cell_later hb n1
      replace n2 := cell_later hb n2
      replace n3 := cell_later hb n3
      clear hb L1
      obtain ⟨U, hU⟩ : ∃ U, w6.alloc (.cells #[.int .i64 kd, .int .i64 ww, .int .i64 hh, .int .i64 m] 59) = U := ⟨_, rfl⟩
      have hBU : Below w6.heap.size w6 U := by rw [← hU]; exact (Below.refl _ _).alloc (Nat.le_refl _) _
      have hU6 : Hb U w6.heap.size 59 ⟨kd, ww, hh, m⟩ := by rw [← hU]; exact Hb.new w6 _ ⟨kd, ww, hh, m⟩
      obtain ⟨l0, l1, l2, l3⟩ := hU6.cells
      simp only at l0 l1 l2 l3
      replace n0 := cell_later hBU n0
      replace n1 := cell_later hBU n1
      replace n2 := cell_later hBU n2
      replace n3 := cell_later hBU n3
      have HBU := Lib.hid (HBr.out.trans (hBU.mono HBr.out.size))
      have hBt : Below U.heap.size U U := .refl _ _
      go_wp2_with fail
      try rw [hU]
      clear hU hBU hU6
      go_region_held3 (fun w' => w'.cell? ⟨w1.heap.size, 0, none⟩ = some (.int .i64 kd) ∧ w'.cell? ⟨w1.heap.size, 1, none⟩ = some (.int .i64 ww) ∧ w'.cell? ⟨w1.heap.size, 2, none⟩ = some (.int .i64 hh) ∧ w'.cell? ⟨w1.heap.size, 3, none⟩ = some (.int .i64 m) ∧ w'.cell? ⟨w6.heap.size, 0, none⟩ = some (.int .i64 kd) ∧ w'.cell? ⟨w6.heap.size, 1, none⟩ = some (.int .i64 ww) ∧ w'.cell? ⟨w6.heap.size, 2, none⟩ = some (.int .i64 hh) ∧ w'.cell? ⟨w6.heap.size, 3, none⟩ = some (.int .i64 m))
        (first | exact ⟨n0, n1, n2, n3, l0, l1, l2, l3⟩ | exact ⟨cell_later hBt n0, cell_later hBt n1, cell_later hBt n2, cell_later hBt n3, cell_later hBt l0, cell_later hBt l1, cell_later hBt l2, cell_later hBt l3⟩)
        (first
          | (go_at_call 38; refine (HAS.out _).mono ?_; rintro e w8 ⟨rfl, hb8⟩; replace hBt := bel_step (w := U) (by first | exact hBt | exact hBt.drew) hb8)
          | (go_at_call 33; refine (lives6_any _).mono ?_; rintro e w8 ⟨rfl, hb8⟩; replace hBt := bel_step (w := U) (by first | exact hBt | exact hBt.drew) hb8))
      all_goals
        go_wp2
        go_ret
        exact ⟨rfl, HBU.out.trans (hBt.mono HBU.out.size)⟩
end Go.Proofs.Ytnbppkiiccbagaa
