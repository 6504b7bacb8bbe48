/- Whether all numbers of a matrix are pixels of a format, by the document, over any memory. Condition: numbers fit their kinds. -/
import Derived.Test.YteonfgphihacgaaFitA
import Derived.Test.YteonfgphihacgaaQPixD
namespace Go.Proofs.Yteonfgphihacgaa
open Go.RowKit
set_option linter.unusedVariables false

theorem fit_drew {w w9 : World} (h : Below w.drew.heap.size w.drew w9) : Below w.heap.size w w9 := Below.trans (b := w.drew) ⟨rfl, rfl, rfl, Nat.le_refl _, fun _ _ => rfl⟩ h
set_option maxRecDepth 100000 in
set_option maxHeartbeats 4000000 in
theorem refFitsM_any (W H : Int) (a : Option Addr) (n cap : Nat) (c m : Int) (L : List Int) (hn : n ≤ 9223372036854775807) (hU : ∀ x ∈ L, Pq.Px.U x) (w : World) (hs : SlK .u64 w a n L) :
    Calls Try.prog 53 #[.agg #[.int .i64 W, .int .i64 H, .slice a n cap], .agg #[.int .i64 c, .int .i64 m]] w fun e w' => e = .returned (.bool (Rc.mayV W H n && fitL c m L)) ∧ Below w.heap.size w w' := by
  have B1 := box1 w (.cells #[.int .i64 W, .int .i64 H, .slice a n cap] 53)
  obtain ⟨W1, hW1⟩ : ∃ W1, w.alloc (.cells #[.int .i64 W, .int .i64 H, .slice a n cap] 53) = W1 := ⟨_, rfl⟩
  have B2 := box1 W1 (.cells #[.int .i64 c, .int .i64 m] 74)
  have hz1 : W1.heap.size = w.heap.size + 1 := by rw [← hW1]; simp
  have X := Sb.new w 53 (.int .i64 W) (.int .i64 H) (.slice a n cap)
  rw [hW1] at B1 X
  have X2 := X.later B2
  have c0 : (W1.alloc (.cells #[.int .i64 c, .int .i64 m] 74)).cell? ⟨W1.heap.size, 0, none⟩ = some (.int .i64 c) := by simp [go_sem]
  have c1 : (W1.alloc (.cells #[.int .i64 c, .int .i64 m] 74)).cell? ⟨W1.heap.size, 1, none⟩ = some (.int .i64 m) := by simp [go_sem]
  have HS := Lib.hid ((hs.below B1).below B2)
  have HL := Lib.hid hs.1
  have HB := Lib.hid (B1.trans (B2.mono B1.size))
  have HU := Lib.hid hU
  have HW1 := Lib.hid hW1
  obtain ⟨W2, hW2⟩ : ∃ W2, W1.alloc (.cells #[.int .i64 c, .int .i64 m] 74) = W2 := ⟨_, rfl⟩
  rw [hW2] at c0 c1 HS HB X2
  rw [hz1] at c0 c1
  have HW2 := Lib.hid hW2
  have HX := Lib.hid X2
  have HC0 := Lib.hid c0
  have HC1 := Lib.hid c1
  clear hs B1 B2 X X2 hU c0 c1 hW1 hW2 hz1
  obtain ⟨r, hr⟩ : ∃ r, Rc.mayV W H n = r := ⟨_, rfl⟩
  have HM := refMay_any W H a n cap hn
  rw [hr] at HM ⊢
  have HM' := Lib.hid HM
  clear HM hr
  go_enter Try.func53, Try.ntmps53
  go_upto_region 1 with (fail)
  rw [HW1.out, HW2.out]
  obtain ⟨x0, x1, x2⟩ := HX.out.cells
  cases r with
  | false =>
    go_wp2_with (go_at_call 64; refine (HM'.out _).mono ?_; rintro e w3 ⟨rfl, hb3⟩; have HB3 := Lib.hid (HB.out.trans (hb3.mono HB.out.size)); clear hb3)
    go_ret
    exact ⟨ret_b (by simp), HB3.out⟩
  | true =>
    go_wp2_with fail
    refine (HM'.out _).mono ?_
    rintro e w3 ⟨rfl, hb3⟩
    have HB3 := Lib.hid (HB.out.trans (hb3.mono HB.out.size))
    have HS3 := Lib.hid (HS.out.below hb3)
    have HX3 := Lib.hid (HX.out.later hb3)
    have HD0 := Lib.hid (cell_later hb3 HC0.out)
    have HD1 := Lib.hid (cell_later hb3 HC1.out)
    clear x0 x1 x2 hb3
    go_wp2_with fail
    go_loopw [6] (fun s6 wr => ∃ j : Nat, j ≤ n ∧ s6 = .int .i64 j ∧ Below w3.heap.size w3 wr ∧ Hid (fitL c m (L.take j) = true)) (fun s6 _ => n - (intOf s6).toNat)
    case atStart => exact ⟨0, Nat.zero_le _, rfl, Below.refl _ _, rfl⟩
    case round =>
      obtain ⟨j, hj, rfl, hB, hA⟩ := hrel
      obtain ⟨x0, x1, x2⟩ := (HX3.out.later hB).cells
      by_cases hlt : j < n
      · have hltI : (j : Int) < (n : Int) := by omega
        have hj0 : (0 : Int) ≤ (j : Int) := by omega
        obtain ⟨blk, off, ha, hcell⟩ : ∃ blk off, a = some ⟨blk, off, none⟩ ∧ w3.cell? ⟨blk, off + j, none⟩ = some (.int .u64 (L.getD j 0)) := by
          rcases HS3.out.2 with h | ⟨blk, off, h, hc⟩
          · omega
          · exact ⟨blk, off, h, hc j hlt⟩
        have hjl : j < L.length := by rw [HL.out]; exact hlt
        have hxm : L.getD j 0 ∈ L := by rw [List.getD_eq_getElem?_getD, List.getElem?_eq_getElem hjl]; exact List.getElem_mem _
        have hxU := HU.out _ hxm
        have hcl := Pq.refFits_any (L.getD j 0) c m hxU
        have hcw := cell_later hB hcell
        have y0 := cell_later hB HD0.out
        have y1 := cell_later hB HD1.out
        obtain ⟨r, hr⟩ : ∃ r, Pq.Px.fitsV (L.getD j 0) c m = r := ⟨_, rfl⟩
        rw [hr] at hcl
        have HR := Lib.hid hr
        obtain ⟨x, hx⟩ : ∃ x, L.getD j 0 = x := ⟨_, rfl⟩
        rw [hx] at hcl hcw
        have HC := Lib.hid hcl
        have HBj := Lib.hid hB
        clear hcl hr hx hcell hxm hxU hB
        subst ha
        cases r with
        | true =>
          have HN := Lib.hid (fitL_cut hjl hA.out HR.out)
          go_wp2_with fail
          go_region_held3 (fun w' => w'.cell? ⟨w.heap.size, 2, none⟩ = some (.slice (some ⟨blk, off, none⟩) n cap) ∧ w'.cell? ⟨blk, off + j, none⟩ = some (.int .u64 x) ∧ w'.cell? ⟨w.heap.size + 1, 0, none⟩ = some (.int .i64 c) ∧ w'.cell? ⟨w.heap.size + 1, 1, none⟩ = some (.int .i64 m))
            (first | exact ⟨x2, hcw, y0, y1⟩ | exact ⟨cell_later hb9 x2, cell_later hb9 hcw, cell_later hb9 y0, cell_later hb9 y1⟩)
            (first
              | (go_at_call 78; refine (HC.out _).mono ?_; rintro e w9 ⟨rfl, hb9⟩; have HB9 := Lib.hid (HBj.out.trans (Below.mono (fit_drew hb9) HBj.out.size))))
          all_goals
            go_wp2
            go_roundw
            case rel => exact ⟨j + 1, by omega, by go_num, HB9.out, HN.out⟩
            case measure => simp [intOf]; omega
        | false =>
          have HN := Lib.hid (fitL_no hjl HR.out)
          go_wp2_with fail
          go_region_held3 (fun w' => w'.cell? ⟨w.heap.size, 2, none⟩ = some (.slice (some ⟨blk, off, none⟩) n cap) ∧ w'.cell? ⟨blk, off + j, none⟩ = some (.int .u64 x) ∧ w'.cell? ⟨w.heap.size + 1, 0, none⟩ = some (.int .i64 c) ∧ w'.cell? ⟨w.heap.size + 1, 1, none⟩ = some (.int .i64 m))
            (first | exact ⟨x2, hcw, y0, y1⟩ | exact ⟨cell_later hb9 x2, cell_later hb9 hcw, cell_later hb9 y0, cell_later hb9 y1⟩)
            (first
              | (go_at_call 78; refine (HC.out _).mono ?_; rintro e w9 ⟨rfl, hb9⟩; have HB9 := Lib.hid (HBj.out.trans (Below.mono (fit_drew hb9) HBj.out.size))))
          all_goals
            go_wp2
            go_ret
            exact ⟨ret_b (by simp [HN.out]), HB3.out.trans (HB9.out.mono HB3.out.size)⟩
      · have hltI : ¬ (j : Int) < (n : Int) := by omega
        have HN : Hid (fitL c m L = true) := by
          show _ = _
          have h := hA.out
          rwa [List.take_of_length_le (by rw [HL.out]; omega)] at h
        go_wp2
        go_ret
        exact ⟨ret_b (by simp [HN.out]), HB3.out.trans (hB.mono HB3.out.size)⟩
end Go.Proofs.Yteonfgphihacgaa
