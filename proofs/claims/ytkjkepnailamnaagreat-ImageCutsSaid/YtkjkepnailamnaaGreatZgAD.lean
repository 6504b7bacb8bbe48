/- Whether all numbers of a matrix are pixels of a format, by rect and by the document, over any memory. Condition: numbers fit their kinds. -/
import Derived.Test.YtkjkepnailamnaaGreatZQPixF
import Derived.Test.YtkjkepnailamnaaGreatZgAA
import Derived.Deep.DeepCutAuto
import Derived.Test.YtkjkepnailamnaaGreatZgAB
import Derived.Test.YtkjkepnailamnaaGreatZTokC
import Derived.Deep.RegionHeld3
import Derived.Lib.Hide
import Derived.Deep.QuietTactic
import Derived.Laws.EntriesVeiled
namespace Go.Proofs.YtkjkepnailamnaaGreat
open Go.RowKit
set_option linter.unusedVariables false
def fitL (c m : Int) (L : List Int) : Bool := L.all fun p => Pq.Px.fitsV p c m
theorem fitL_cut {c m : Int} {L : List Int} {k : Nat} (hk : k < L.length) (h : fitL c m (L.take k) = true) (e : Pq.Px.fitsV (L.getD k 0) c m = true) : fitL c m (L.take (k + 1)) = true := by
  unfold fitL at *
  rw [List.take_succ_eq_append_getElem hk, List.all_append, h]
  rw [List.getD_eq_getElem?_getD, List.getElem?_eq_getElem hk] at e
  simpa using e
theorem fitL_no {c m : Int} {L : List Int} {k : Nat} (hk : k < L.length) (e : Pq.Px.fitsV (L.getD k 0) c m = false) : fitL c m L = false := by
  unfold fitL
  rw [List.getD_eq_getElem?_getD, List.getElem?_eq_getElem hk] at e
  have e' : Pq.Px.fitsV L[k] c m = false := e
  rw [List.all_eq_false]
  exact ⟨L[k], List.getElem_mem hk, by simp [e']⟩
set_option maxHeartbeats 1000000 in
theorem unfit_any (p c m : Int) (b : Nat) (hU : Pq.Px.U p) (w : World) (h0 : w.cell? ⟨b, 0, none⟩ = some (.int .i64 c)) (h1 : w.cell? ⟨b, 1, none⟩ = some (.int .i64 m)) :
    Calls Tryz.prog 110 #[.int .u64 p, .pointer (some ⟨b, 0, none⟩)] w fun e w' => e = .returned (.bool (!Pq.Px.fitsV p c m)) ∧ Below w.heap.size w w' := by
  have HF := Lib.hid (Pq.fits_any p c m hU)
  generalize Pq.Px.fitsV p c m = r at HF ⊢
  go_enter Tryz.func110, Tryz.ntmps110
  go_wp2_with (go_at_call 111; refine (HF.out _).mono ?_; rintro e w1 ⟨rfl, hb⟩)
  go_ret
  exact ⟨rfl, hb⟩
def AtFit (c m : Int) (L : List Int) (w : World) (e : Ending) (w' : World) : Prop := ∃ j : Int, e = .returned (.int .i64 j) ∧ decide (0 ≤ j) = (!fitL c m L) ∧ Below w.heap.size w w'
set_option maxRecDepth 100000 in
set_option maxHeartbeats 4000000 in
theorem indexP_any (a : Option Addr) (n cap b : Nat) (c m : Int) (L : List Int) (hn : n ≤ 9223372036854775807) (hU : ∀ x ∈ L, Pq.Px.U x) (w : World) (hs : SlK .u64 w a n L) (h0 : w.cell? ⟨b, 0, none⟩ = some (.int .i64 c)) (h1 : w.cell? ⟨b, 1, none⟩ = some (.int .i64 m)) :
    Calls Tryz.prog 149 #[.slice a n cap, .func (.func 110) #[] #[.pointer (some ⟨b, 0, none⟩)]] w (AtFit c m L w) := by
  obtain ⟨hl, hs⟩ := hs
  have HL := Lib.hid hl
  have HU := Lib.hid hU
  have HS := Lib.hid hs
  have H0 := Lib.hid h0
  have H1 := Lib.hid h1
  have en := enters_of Tryz.func110 (by kernel_rfl) rfl
  clear hl hs h0 h1 hU
  go_enter Tryz.func149, Tryz.ntmps149
  go_wp2
  go_loopw [8] (fun s8 wr => ∃ j : Nat, j ≤ n ∧ s8 = .int .i64 j ∧ Below w.heap.size w wr ∧ Hid (fitL c m (L.take j) = true)) (fun s8 _ => n - (intOf s8).toNat)
  case atStart => exact ⟨0, Nat.zero_le _, rfl, Below.refl _ _, rfl⟩
  case round =>
    obtain ⟨j, hj, rfl, hB, hA⟩ := hrel
    by_cases hlt : j < n
    · have hltI : (j : Int) < (n : Int) := by omega
      obtain ⟨blk, off, ha, hcell⟩ : ∃ blk off, a = some ⟨blk, off, none⟩ ∧ w.cell? ⟨blk, off + j, none⟩ = some (.int .u64 (L.getD j 0)) := by
        rcases HS.out with h | ⟨blk, off, h, hc⟩
        · omega
        · exact ⟨blk, off, h, hc j hlt⟩
      have hjl : j < L.length := by rw [HL.out]; exact hlt
      have hxm : L.getD j 0 ∈ L := by rw [List.getD_eq_getElem?_getD, List.getElem?_eq_getElem hjl]; exact List.getElem_mem _
      have hxU := HU.out _ hxm
      have hcl := unfit_any (L.getD j 0) c m b hxU wr (cell_later hB H0.out) (cell_later hB H1.out)
      have hcw := cell_later hB hcell
      obtain ⟨r, hr⟩ : ∃ r, Pq.Px.fitsV (L.getD j 0) c m = r := ⟨_, rfl⟩
      rw [hr] at hcl
      have HR := Lib.hid hr
      obtain ⟨x, hx⟩ : ∃ x, L.getD j 0 = x := ⟨_, rfl⟩
      rw [hx] at hcl hcw
      have HC := Lib.hid hcl
      clear hcl hr hx hcell hxm hxU
      cases r with
      | true =>
        have HN := Lib.hid (fitL_cut hjl hA.out HR.out)
        subst ha
        go_wp2_with fail
        refine HC.out.mono ?_
        rintro e w9 ⟨rfl, hb9⟩
        have hB9 := hB.trans (hb9.mono hB.size)
        go_wp2
        go_roundw
        case rel => exact ⟨j + 1, by omega, by go_num, hB9, HN.out⟩
        case measure => simp [intOf]; omega
      | false =>
        have HN := Lib.hid (fitL_no hjl HR.out)
        subst ha
        go_wp2_with fail
        refine HC.out.mono ?_
        rintro e w9 ⟨rfl, hb9⟩
        have hB9 := hB.trans (hb9.mono hB.size)
        go_wp2
        go_ret
        exact ⟨j, rfl, by rw [HN.out]; simp, hB9⟩
    · have hltI : ¬ (j : Int) < (n : Int) := by omega
      have HN : Hid (fitL c m L = true) := by
        show _ = _
        have h := hA.out
        rwa [List.take_of_length_le (by rw [HL.out]; omega)] at h
      go_wp2
      go_ret
      exact ⟨-1, rfl, by rw [HN.out]; decide, hB⟩
set_option maxHeartbeats 1000000 in
theorem containsP_any (a : Option Addr) (n cap b : Nat) (c m : Int) (L : List Int) (hn : n ≤ 9223372036854775807) (hU : ∀ x ∈ L, Pq.Px.U x) (w : World) (hs : SlK .u64 w a n L) (h0 : w.cell? ⟨b, 0, none⟩ = some (.int .i64 c)) (h1 : w.cell? ⟨b, 1, none⟩ = some (.int .i64 m)) :
    Calls Tryz.prog 113 #[.slice a n cap, .func (.func 110) #[] #[.pointer (some ⟨b, 0, none⟩)]] w fun e w' => e = .returned (.bool (!fitL c m L)) ∧ Below w.heap.size w w' := by
  have HC := Lib.hid (indexP_any a n cap b c m L hn hU w hs h0 h1)
  clear hU hs h0 h1
  go_enter Tryz.func113, Tryz.ntmps113
  go_wp2_with fail
  refine HC.out.mono ?_
  rintro e w1 ⟨j, rfl, hj, hb⟩
  have HJ := Lib.hid hj
  clear hj
  go_wp2
  go_ret
  exact ⟨ret_bR HJ.out, hb⟩
set_option maxHeartbeats 2000000 in
theorem fitsM_any (W H : Int) (a : Option Addr) (n cap : Nat) (c m : Int) (L : List Int) (hn : n ≤ 9223372036854775807) (hU : ∀ x ∈ L, Pq.Px.U x) (w : World) (hs : SlK .u64 w a n L) :
    Calls Tryz.prog 66 #[.agg #[.int .i64 W, .int .i64 H, .slice a n cap], .agg #[.int .i64 c, .int .i64 m]] w fun e w' => e = .returned (.bool (Rc.mayV W H n && fitL c m L)) ∧ Below w.heap.size w w' := by
  have B1 := box1 w (.cells #[.int .i64 W, .int .i64 H, .slice a n cap] 44)
  obtain ⟨W1, hW1⟩ : ∃ W1, w.alloc (.cells #[.int .i64 W, .int .i64 H, .slice a n cap] 44) = W1 := ⟨_, rfl⟩
  have B2 := box1 W1 (.cells #[.int .i64 c, .int .i64 m] 29)
  have hz1 : W1.heap.size = w.heap.size + 1 := by rw [← hW1]; simp
  have X := Sb.new w 44 (.int .i64 W) (.int .i64 H) (.slice a n cap)
  rw [hW1] at B1 X
  have X2 := X.later B2
  have c0 : (W1.alloc (.cells #[.int .i64 c, .int .i64 m] 29)).cell? ⟨W1.heap.size, 0, none⟩ = some (.int .i64 c) := by simp [go_sem]
  have c1 : (W1.alloc (.cells #[.int .i64 c, .int .i64 m] 29)).cell? ⟨W1.heap.size, 1, none⟩ = some (.int .i64 m) := by simp [go_sem]
  have HS := Lib.hid ((hs.below B1).below B2)
  have HB := Lib.hid (B1.trans (B2.mono B1.size))
  have HU := Lib.hid hU
  have HW1 := Lib.hid hW1
  obtain ⟨W2, hW2⟩ : ∃ W2, W1.alloc (.cells #[.int .i64 c, .int .i64 m] 29) = W2 := ⟨_, rfl⟩
  rw [hW2] at c0 c1 HS HB X2
  rw [hz1] at c0 c1
  have HW2 := Lib.hid hW2
  have HX := Lib.hid X2
  have HC0 := Lib.hid c0
  have HC1 := Lib.hid c1
  clear hs B1 B2 X X2 hU c0 c1 hW1 hW2 hz1
  obtain ⟨r, hr⟩ : ∃ r, Rc.mayV W H n = r := ⟨_, rfl⟩
  have HM := may_any W H a n cap hn
  rw [hr] at HM ⊢
  have HM' := Lib.hid HM
  clear HM hr
  go_enter Tryz.func66, Tryz.ntmps66
  go_upto_region 2 with (fail)
  rw [HW1.out, HW2.out]
  obtain ⟨x0, x1, x2⟩ := HX.out.cells
  cases r with
  | true =>
    go_wp2_with fail
    refine (HM'.out _).mono ?_
    rintro e w3 ⟨rfl, hb3⟩
    have HB3 := Lib.hid (HB.out.trans (hb3.mono HB.out.size))
    have HC := Lib.hid (containsP_any a n cap (w.heap.size + 1) c m L hn HU.out w3 (HS.out.below hb3) (cell_later hb3 HC0.out) (cell_later hb3 HC1.out))
    obtain ⟨y0, y1, y2⟩ := (HX.out.later hb3).cells
    clear x0 x1 x2 hb3
    go_wp2_with fail
    refine HC.out.mono ?_
    rintro e w4 ⟨rfl, hb4⟩
    have HB4 := Lib.hid (HB3.out.trans (hb4.mono HB3.out.size))
    clear hb4
    go_wp2
    go_ret
    exact ⟨ret_bR (by simp), HB4.out⟩
  | false =>
    go_wp2_with (go_at_call 112; refine (HM'.out _).mono ?_; rintro e w3 ⟨rfl, hb3⟩; have HB3 := Lib.hid (HB.out.trans (hb3.mono HB.out.size)); clear hb3)
    go_ret
    exact ⟨ret_bR (by simp), HB3.out⟩
end Go.Proofs.YtkjkepnailamnaaGreat
namespace Go.Proofs.YtkjkepnailamnaaGreat
open Go.RowKit
set_option linter.unusedVariables false
theorem fit_drew {w w9 : World} (h : Below w.drew.heap.size w.drew w9) : Below w.heap.size w w9 := Below.trans (b := w.drew) ⟨rfl, rfl, rfl, Nat.le_refl _, fun _ _ => rfl⟩ h
set_option maxRecDepth 100000 in
set_option maxHeartbeats 4000000 in
theorem refFitsM_any (W H : Int) (a : Option Addr) (n cap : Nat) (c m : Int) (L : List Int) (hn : n ≤ 9223372036854775807) (hU : ∀ x ∈ L, Pq.Px.U x) (w : World) (hs : SlK .u64 w a n L) :
    Calls Tryz.prog 67 #[.agg #[.int .i64 W, .int .i64 H, .slice a n cap], .agg #[.int .i64 c, .int .i64 m]] w fun e w' => e = .returned (.bool (Rc.mayV W H n && fitL c m L)) ∧ Below w.heap.size w w' := by
  have B1 := box1 w (.cells #[.int .i64 W, .int .i64 H, .slice a n cap] 32)
  obtain ⟨W1, hW1⟩ : ∃ W1, w.alloc (.cells #[.int .i64 W, .int .i64 H, .slice a n cap] 32) = W1 := ⟨_, rfl⟩
  have B2 := box1 W1 (.cells #[.int .i64 c, .int .i64 m] 29)
  have hz1 : W1.heap.size = w.heap.size + 1 := by rw [← hW1]; simp
  have X := Sb.new w 32 (.int .i64 W) (.int .i64 H) (.slice a n cap)
  rw [hW1] at B1 X
  have X2 := X.later B2
  have c0 : (W1.alloc (.cells #[.int .i64 c, .int .i64 m] 29)).cell? ⟨W1.heap.size, 0, none⟩ = some (.int .i64 c) := by simp [go_sem]
  have c1 : (W1.alloc (.cells #[.int .i64 c, .int .i64 m] 29)).cell? ⟨W1.heap.size, 1, none⟩ = some (.int .i64 m) := by simp [go_sem]
  have HS := Lib.hid ((hs.below B1).below B2)
  have HL := Lib.hid hs.1
  have HB := Lib.hid (B1.trans (B2.mono B1.size))
  have HU := Lib.hid hU
  have HW1 := Lib.hid hW1
  obtain ⟨W2, hW2⟩ : ∃ W2, W1.alloc (.cells #[.int .i64 c, .int .i64 m] 29) = W2 := ⟨_, rfl⟩
  rw [hW2] at c0 c1 HS HB X2
  rw [hz1] at c0 c1
  have HW2 := Lib.hid hW2
  have HX := Lib.hid X2
  have HC0 := Lib.hid c0
  have HC1 := Lib.hid c1
  clear hs B1 B2 X X2 hU c0 c1 hW1 hW2 hz1
  obtain ⟨r, hr⟩ : ∃ r, Rc.mayV W H n = r := ⟨_, rfl⟩
  have HM := refMayM_any W H a n cap hn
  rw [hr] at HM ⊢
  have HM' := Lib.hid HM
  clear HM hr
  go_enter Tryz.func67, Tryz.ntmps67
  go_upto_region 1 with (fail)
  rw [HW1.out, HW2.out]
  obtain ⟨x0, x1, x2⟩ := HX.out.cells
  cases r with
  | false =>
    go_wp2_with (go_at_call 114; refine (HM'.out _).mono ?_; rintro e w3 ⟨rfl, hb3⟩; have HB3 := Lib.hid (HB.out.trans (hb3.mono HB.out.size)); clear hb3)
    go_ret
    exact ⟨ret_bR (by simp), HB3.out⟩
  | true =>
    go_wp2_with fail
    refine (HM'.out _).mono ?_
    rintro e w3 ⟨rfl, hb3⟩
    have HB3 := Lib.hid (HB.out.trans (hb3.mono HB.out.size))
    have HS3 := Lib.hid (HS.out.below hb3)
    have HX3 := Lib.hid (HX.out.later hb3)
    have HD0 := Lib.hid (cell_later hb3 HC0.out)
    have HD1 := Lib.hid (cell_later hb3 HC1.out)
    clear x0 x1 x2 hb3
    go_wp2_with fail
    go_loopw [6] (fun s6 wr => ∃ j : Nat, j ≤ n ∧ s6 = .int .i64 j ∧ Below w3.heap.size w3 wr ∧ Hid (fitL c m (L.take j) = true)) (fun s6 _ => n - (intOf s6).toNat)
    case atStart => exact ⟨0, Nat.zero_le _, rfl, Below.refl _ _, rfl⟩
    case round =>
      obtain ⟨j, hj, rfl, hB, hA⟩ := hrel
      obtain ⟨x0, x1, x2⟩ := (HX3.out.later hB).cells
      by_cases hlt : j < n
      · have hltI : (j : Int) < (n : Int) := by omega
        have hj0 : (0 : Int) ≤ (j : Int) := by omega
        obtain ⟨blk, off, ha, hcell⟩ : ∃ blk off, a = some ⟨blk, off, none⟩ ∧ w3.cell? ⟨blk, off + j, none⟩ = some (.int .u64 (L.getD j 0)) := by
          rcases HS3.out.2 with h | ⟨blk, off, h, hc⟩
          · omega
          · exact ⟨blk, off, h, hc j hlt⟩
        have hjl : j < L.length := by rw [HL.out]; exact hlt
        have hxm : L.getD j 0 ∈ L := by rw [List.getD_eq_getElem?_getD, List.getElem?_eq_getElem hjl]; exact List.getElem_mem _
        have hxU := HU.out _ hxm
        have hcl := Pq.refFits_any (L.getD j 0) c m hxU
        have hcw := cell_later hB hcell
        have y0 := cell_later hB HD0.out
        have y1 := cell_later hB HD1.out
        obtain ⟨r, hr⟩ : ∃ r, Pq.Px.fitsV (L.getD j 0) c m = r := ⟨_, rfl⟩
        rw [hr] at hcl
        have HR := Lib.hid hr
        obtain ⟨x, hx⟩ : ∃ x, L.getD j 0 = x := ⟨_, rfl⟩
        rw [hx] at hcl hcw
        have HC := Lib.hid hcl
        have HBj := Lib.hid hB
        clear hcl hr hx hcell hxm hxU hB
        subst ha
        cases r with
        | true =>
          have HN := Lib.hid (fitL_cut hjl hA.out HR.out)
          go_wp2_with fail
          go_region_held3 (fun w' => w'.cell? ⟨w.heap.size, 2, none⟩ = some (.slice (some ⟨blk, off, none⟩) n cap) ∧ w'.cell? ⟨blk, off + j, none⟩ = some (.int .u64 x) ∧ w'.cell? ⟨w.heap.size + 1, 0, none⟩ = some (.int .i64 c) ∧ w'.cell? ⟨w.heap.size + 1, 1, none⟩ = some (.int .i64 m))
            (first | exact ⟨x2, hcw, y0, y1⟩ | exact ⟨cell_later hb9 x2, cell_later hb9 hcw, cell_later hb9 y0, cell_later hb9 y1⟩)
            (first
              | (go_at_call 73; refine (HC.out _).mono ?_; rintro e w9 ⟨rfl, hb9⟩; have HB9 := Lib.hid (HBj.out.trans (Below.mono (fit_drew hb9) HBj.out.size))))
          all_goals
            go_wp2
            go_roundw
            case rel => exact ⟨j + 1, by omega, by go_num, HB9.out, HN.out⟩
            case measure => simp [intOf]; omega
        | false =>
          have HN := Lib.hid (fitL_no hjl HR.out)
          go_wp2_with fail
          go_region_held3 (fun w' => w'.cell? ⟨w.heap.size, 2, none⟩ = some (.slice (some ⟨blk, off, none⟩) n cap) ∧ w'.cell? ⟨blk, off + j, none⟩ = some (.int .u64 x) ∧ w'.cell? ⟨w.heap.size + 1, 0, none⟩ = some (.int .i64 c) ∧ w'.cell? ⟨w.heap.size + 1, 1, none⟩ = some (.int .i64 m))
            (first | exact ⟨x2, hcw, y0, y1⟩ | exact ⟨cell_later hb9 x2, cell_later hb9 hcw, cell_later hb9 y0, cell_later hb9 y1⟩)
            (first
              | (go_at_call 73; refine (HC.out _).mono ?_; rintro e w9 ⟨rfl, hb9⟩; have HB9 := Lib.hid (HBj.out.trans (Below.mono (fit_drew hb9) HBj.out.size))))
          all_goals
            go_wp2
            go_ret
            exact ⟨ret_bR (by simp [HN.out]), HB3.out.trans (HB9.out.mono HB3.out.size)⟩
      · have hltI : ¬ (j : Int) < (n : Int) := by omega
        have HN : Hid (fitL c m L = true) := by
          show _ = _
          have h := hA.out
          rwa [List.take_of_length_le (by rw [HL.out]; omega)] at h
        go_wp2
        go_ret
        exact ⟨ret_bR (by simp [HN.out]), HB3.out.trans (hB.mono HB3.out.size)⟩
end Go.Proofs.YtkjkepnailamnaaGreat
namespace Go.Proofs.YtkjkepnailamnaaGreat
open Go.RowKit
set_option linter.unusedVariables false
def agI (c m W H : Int) (v : Value) : Value := .agg #[.int .i64 c, .int .i64 m, .int .i64 W, .int .i64 H, v]
def Ib (w : World) (b : Nat) (t : TypeId) (c m W H : Int) (v : Value) : Prop := w.heap[b]? = some (.cells #[.int .i64 c, .int .i64 m, .int .i64 W, .int .i64 H, v] t (0, 0))
section
variable {w w' : World} {b : Nat} {t : TypeId} {c m W H : Int} {v : Value}
theorem Ib.lt (hh : Ib w b t c m W H v) : b < w.heap.size := (Array.getElem?_eq_some_iff.1 hh).1
theorem Ib.later (hh : Ib w b t c m W H v) (hb : Below w.heap.size w w') : Ib w' b t c m W H v := (hb.block b hh.lt).trans hh
theorem Ib.sep {Z : Nat → Prop} (hh : Ib w b t c m W H v) (hs : Sep Z w w') (hz : ¬ Z b) : Ib w' b t c m W H v := (hs.block b hh.lt hz).trans hh
theorem Ib.cells (hh : Ib w b t c m W H v) : w.cell? ⟨b, 0, none⟩ = some (.int .i64 c) ∧ w.cell? ⟨b, 1, none⟩ = some (.int .i64 m) ∧ w.cell? ⟨b, 2, none⟩ = some (.int .i64 W) ∧ w.cell? ⟨b, 3, none⟩ = some (.int .i64 H) ∧ w.cell? ⟨b, 4, none⟩ = some v := by
  have h' : w.heap[b]? = _ := hh
  refine ⟨?_, ?_, ?_, ?_, ?_⟩ <;> simp [World.cell?, h']
theorem Ib.fr (hh : Ib w b t c m W H v) : w.frozen? ⟨b, 0, none⟩ = false ∧ w.frozen? ⟨b, 1, none⟩ = false ∧ w.frozen? ⟨b, 2, none⟩ = false ∧ w.frozen? ⟨b, 3, none⟩ = false ∧ w.frozen? ⟨b, 4, none⟩ = false := by
  have h' : w.heap[b]? = _ := hh
  refine ⟨?_, ?_, ?_, ?_, ?_⟩ <;> simp [World.frozen?, h']
theorem Ib.new (w : World) (t : TypeId) (c m W H : Int) (v : Value) : Ib (w.alloc (.cells #[.int .i64 c, .int .i64 m, .int .i64 W, .int .i64 H, v] t)) w.heap.size t c m W H v := World.alloc_heap_new w _
theorem Ib.put (hh : Ib w b t c m W H v) (c' m' W' H' : Int) (v' : Value) : Ib (((((w.setCell ⟨b, 0, none⟩ (.int .i64 c')).setCell ⟨b, 1, none⟩ (.int .i64 m')).setCell ⟨b, 2, none⟩ (.int .i64 W')).setCell ⟨b, 3, none⟩ (.int .i64 H')).setCell ⟨b, 4, none⟩ v') b t c' m' W' H' v' := by
  have h' : w.heap[b]? = _ := hh
  have h1 := Go.heap_setCell_same w b 0 _ _ (.int .i64 c') h'
  have h2 := Go.heap_setCell_same _ b 1 _ _ (.int .i64 m') h1
  have h3 := Go.heap_setCell_same _ b 2 _ _ (.int .i64 W') h2
  have h4 := Go.heap_setCell_same _ b 3 _ _ (.int .i64 H') h3
  have h5 := Go.heap_setCell_same _ b 4 _ _ v' h4
  simpa [Ib] using h5
end
theorem load_im {w : World} {b : Nat} {t : TypeId} {c m W H : Int} {v : Value} (hh : Ib w b t c m W H v) : (loadVar 46 ⟨b, 0, none⟩).run Tryz.prog w = .ok (agI c m W H v) w := by
  obtain ⟨h0, h1, h2, h3, h4⟩ := hh.cells
  simp [go_sem, h0, h1, h2, h3, h4, agI]
theorem load_ri {w : World} {b : Nat} {t : TypeId} {c m W H : Int} {v : Value} (hh : Ib w b t c m W H v) : (loadVar 34 ⟨b, 0, none⟩).run Tryz.prog w = .ok (agI c m W H v) w := by
  obtain ⟨h0, h1, h2, h3, h4⟩ := hh.cells
  simp [go_sem, h0, h1, h2, h3, h4, agI]
def Im.mayV (c m W H : Int) (n : Nat) (L : List Int) : Bool := Rc.mayV W H n && fitL c m L
theorem imMay_any (c m W H : Int) (a : Option Addr) (n cap : Nat) (L : List Int) (hn : n ≤ 9223372036854775807) (hU : ∀ x ∈ L, Pq.Px.U x) (w : World) (hs : SlK .u64 w a n L) :
    Calls Tryz.prog 22 #[agI c m W H (.slice a n cap)] w fun e w' => e = .returned (.bool (Im.mayV c m W H n L)) ∧ Below w.heap.size w w' := by
  have B := box1 w (.cells #[.int .i64 c, .int .i64 m, .int .i64 W, .int .i64 H, .slice a n cap] 46)
  have HF := Lib.hid (fitsM_any W H a n cap c m L hn hU _ (hs.below B))
  unfold agI Im.mayV
  go_enter Tryz.func22, Tryz.ntmps22
  go_wp2_with (go_at_call 66; refine HF.out.mono ?_; rintro e w1 ⟨rfl, hb⟩; replace B := bel_step B hb)
  go_ret
  exact ⟨rfl, B⟩
theorem refImMay_any (c m W H : Int) (a : Option Addr) (n cap : Nat) (L : List Int) (hn : n ≤ 9223372036854775807) (hU : ∀ x ∈ L, Pq.Px.U x) (w : World) (hs : SlK .u64 w a n L) :
    Calls Tryz.prog 24 #[agI c m W H (.slice a n cap)] w fun e w' => e = .returned (.bool (Im.mayV c m W H n L)) ∧ Below w.heap.size w w' := by
  have B := box1 w (.cells #[.int .i64 c, .int .i64 m, .int .i64 W, .int .i64 H, .slice a n cap] 34)
  have HF := Lib.hid (refFitsM_any W H a n cap c m L hn hU _ (hs.below B))
  unfold agI Im.mayV
  go_enter Tryz.func24, Tryz.ntmps24
  go_wp2_with (go_at_call 67; refine HF.out.mono ?_; rintro e w1 ⟨rfl, hb⟩; replace B := bel_step B hb)
  go_ret
  exact ⟨rfl, B⟩
def Im.sameV (c m W H : Int) (L : List Int) (c' m' W' H' : Int) (M : List Int) : Bool := Hj.same2 c m c' m' && (decide (W = W') && (decide (H = H') && decide (L = M)))
theorem Im.same_self (c m W H : Int) (L : List Int) : Im.sameV c m W H L c m W H L = true := by simp [Im.sameV, Hj.same2_self]
theorem refImSame_any (c m W H c' m' W' H' : Int) (a a2 : Option Addr) (n k cap cap2 : Nat) (L M : List Int) (w : World) (hn : n ≤ 9223372036854775807) (ha : SlK .u64 w a n L) (hb : SlK .u64 w a2 k M) :
    Calls Tryz.prog 20 #[agI c m W H (.slice a n cap), agI c' m' W' H' (.slice a2 k cap2)] w fun e w' => e = .returned (.bool (Im.sameV c m W H L c' m' W' H' M)) ∧ Below w.heap.size w w' := by
  have B := box2 w (.cells #[.int .i64 c, .int .i64 m, .int .i64 W, .int .i64 H, .slice a n cap] 34) (.cells #[.int .i64 c', .int .i64 m', .int .i64 W', .int .i64 H', .slice a2 k cap2] 34)
  have HF := Lib.hid (refSame_any W H W' H' a a2 n k cap cap2 L M _ hn (ha.below B) (hb.below B))
  have E := feq_run c m c' m'
  have G := feq_guard
  have X1 := (Ib.new w 34 c m W H (.slice a n cap)).later (box1 _ (.cells #[.int .i64 c', .int .i64 m', .int .i64 W', .int .i64 H', .slice a2 k cap2] 34))
  have X2 := Ib.new (w.alloc (.cells #[.int .i64 c, .int .i64 m, .int .i64 W, .int .i64 H, .slice a n cap] 34)) 34 c' m' W' H' (.slice a2 k cap2)
  rw [show (w.alloc (.cells #[.int .i64 c, .int .i64 m, .int .i64 W, .int .i64 H, .slice a n cap] 34)).heap.size = w.heap.size + 1 by simp] at X2
  have HX1 := Lib.hid X1
  have HX2 := Lib.hid X2
  unfold agI Im.sameV
  clear ha hb X1 X2
  obtain ⟨q, hq⟩ : ∃ q, Hj.same2 c m c' m' = q := ⟨_, rfl⟩
  rw [hq] at E ⊢
  obtain ⟨r, hr⟩ : ∃ r, (decide (W = W') && (decide (H = H') && decide (L = M))) = r := ⟨_, rfl⟩
  rw [hr] at HF ⊢
  cases r with
  | true =>
    go_enter Tryz.func20, Tryz.ntmps20
    go_wp2_with (go_at_call 65; refine HF.out.mono ?_; rintro e w1 ⟨rfl, hb⟩; replace B := bel_step B hb; obtain ⟨x0, x1, _⟩ := (HX1.out.later hb).cells; obtain ⟨y0, y1, _⟩ := (HX2.out.later hb).cells)
    go_ret
    exact ⟨by simp, B⟩
  | false =>
    go_enter Tryz.func20, Tryz.ntmps20
    go_wp2_with (go_at_call 65; refine HF.out.mono ?_; rintro e w1 ⟨rfl, hb⟩; replace B := bel_step B hb; obtain ⟨x0, x1, _⟩ := (HX1.out.later hb).cells; obtain ⟨y0, y1, _⟩ := (HX2.out.later hb).cells)
    go_ret
    exact ⟨by simp, B⟩
end Go.Proofs.YtkjkepnailamnaaGreat
namespace Go.Proofs.YtkjkepnailamnaaGreat
open Go.RowKit
set_option linter.unusedVariables false
def nxt (k b : Nat) : Value := if k = 0 then nxA b else if k = 1 then nxR b else if k = 2 then nxD b else nxB b
def RdS (w : World) (b : Nat) (m : Int) (s : Tk.S) : Prop :=
  Tk.Good m s ∧ ∃ v f x, RdC w b m v s.bg (Tk.st s) f x ∧ (s.k ≤ 4 → v = s.n) ∧ (s.k ≤ 3 → x = nxt s.k b) ∧ (s.k = 5 → f = s.e)
theorem RdS.lt {w : World} {b : Nat} {m : Int} {s : Tk.S} (h : RdS w b m s) : b < w.heap.size := by obtain ⟨_, v, f, x, h1, _⟩ := h; exact h1.lt
theorem RdS.kept {w w' : World} {row : Option Nat} {b : Nat} {m : Int} {s : Tk.S} (h : RdS w b m s) (hg : w.grownBy w' row) (hne : some b ≠ row) : RdS w' b m s := by
  obtain ⟨hG, v, f, x, h1, h2⟩ := h; exact ⟨hG, v, f, x, h1.kept hg hne, h2⟩
theorem RdS.later {w w' : World} {b : Nat} {m : Int} {s : Tk.S} (h : RdS w b m s) (hb : Below w.heap.size w w') : RdS w' b m s := by
  obtain ⟨hG, v, f, x, h1, h2⟩ := h; exact ⟨hG, v, f, x, h1.later hb, h2⟩
theorem tokNew_s (m : Int) (m0 : 0 ≤ m) (w : World) :
    Calls Tryz.prog 213 #[.int .i64 m] w fun e w' => e = .returned (.pointer (some ⟨w.heap.size, 0, none⟩)) ∧ RdS w' w.heap.size m Tk.new ∧ Below w.heap.size w w' := by
  refine (tokNew_any m w).mono ?_
  rintro e w' ⟨rfl, h, hb⟩
  exact ⟨rfl, ⟨Tk.good_new m0, 0, 0, _, h, fun _ => rfl, fun _ => rfl, fun h => absurd h (by decide)⟩, hb⟩
def PutR (w : World) (b : Nat) (m : Int) (s : Tk.S) (e : Ending) (w' : World) : Prop :=
  e = .returned (.int .i64 (Tk.st s)) ∧ RdS w' b m s ∧ w.grownBy w' (some b)
theorem enA : ∀ args w, (callFunc 220 args).run Tryz.prog w = .ok (.enter 220 args) w := enters_of Tryz.func220 (by kernel_rfl) rfl
theorem enR : ∀ args w, (callFunc 221 args).run Tryz.prog w = .ok (.enter 221 args) w := enters_of Tryz.func221 (by kernel_rfl) rfl
theorem enD : ∀ args w, (callFunc 222 args).run Tryz.prog w = .ok (.enter 222 args) w := enters_of Tryz.func222 (by kernel_rfl) rfl
theorem enB : ∀ args w, (callFunc 225 args).run Tryz.prog w = .ok (.enter 225 args) w := enters_of Tryz.func225 (by kernel_rfl) rfl
theorem put_both {m : Int} {s : Tk.S} (hG : Tk.Good m s) (m1 : m ≤ 4611686018427387903) (c : Int) (c0 : 0 ≤ c) (c1 : c ≤ 255) :
    (∀ w b, RdS w b m s → Calls Tryz.prog 214 #[.pointer (some ⟨b, 0, none⟩), .int .u8 c] w (PutR w b m (Tk.put m s c))) ∧
    (∀ w, Calls Tryz.prog 103 #[agS s.k s.n m s.e, .int .u8 c] w (RpR w (Tk.put m s c).k (Tk.put m s c).n m (Tk.put m s c).e (Tk.st (Tk.put m s c)))) := by
  have hG' := Tk.good_put hG c
  generalize ht : Tk.put m s c = t at hG' ⊢
  obtain ⟨k, n, e, bg⟩ := s
  have H := hG
  obtain ⟨h1, h2, h3, h4, h5, h6, h7, h8⟩ := H
  simp only at h1 h2 h3 h4 h5 h6 h7 h8
  have L10 : Tk.line 10 = true := by decide
  have L13 : Tk.line 13 = true := by decide
  have fin : ∀ (w : World) (b : Nat) (v : Int) (f : Int) (x : Value), (t.k ≤ 4 → v = t.n) → (t.k ≤ 3 → x = nxt t.k b) → (t.k = 5 → f = t.e) → ∀ e' w', (e' = Ending.returned (.int .i64 (Tk.st t)) ∧ RdC w' b m v t.bg (Tk.st t) f x ∧ w.grownBy w' (some b)) → PutR w b m t e' w' := fun w b v f x a1 a2 a3 e' w' hh => ⟨hh.1, ⟨hG', v, f, x, hh.2.1, a1, a2, a3⟩, hh.2.2⟩
  have hk : k = 0 ∨ k = 1 ∨ k = 2 ∨ k = 3 ∨ k = 4 ∨ k = 5 := by omega
  have nl : Tk.line c = false → (c == 10) = false ∧ (c == 13) = false := fun h => by unfold Tk.line at h; simp at h; simp; exact h
  have yl : Tk.line c = true → c = 10 ∨ c = 13 := fun h => by unfold Tk.line at h; simpa using h
  rcases hk with rfl | rfl | rfl | rfl | rfl | rfl
  · -- ahead
    obtain ⟨rfl, rfl⟩ := h7 (by omega)
    have h9 := h4 (by omega); subst h9
    have open' : ∀ w b, RdS w b m ⟨0, 0, 9, false⟩ → ∃ f, RdC w b m 0 false 0 f (nxA b) := fun w b hr => by
      obtain ⟨_, v, f, x, r1, r2, r3, _⟩ := hr
      have := r2 (by simp); simp only at this; subst this
      have := r3 (by simp); subst this
      exact ⟨f, r1⟩
    by_cases hc : c = 35
    · subst hc
      have ht' : t = ⟨1, 0, 9, false⟩ := by rw [← ht]; rfl
      subst ht'
      refine ⟨fun w b hr => ?_, fun w => rp_a35 0 m 9 w⟩
      obtain ⟨f, hr⟩ := open' w b hr
      exact (put_next w b _ m 0 false f 35 m 0 false f (nxR b) 0 enA hr (ahead_rem w b m 0 false f 35 c0 c1 rfl hr)).mono (fin w b 0 f (nxR b) (fun _ => rfl) (fun _ => rfl) (fun h => absurd h (by simp)))
    by_cases hb : Tk.blank c = true
    · have ht' : t = ⟨0, 0, 9, false⟩ := by rw [← ht]; simp [Tk.put, hc, hb]
      subst ht'
      refine ⟨fun w b hr => ?_, fun w => ?_⟩
      · obtain ⟨f, hr⟩ := open' w b hr
        exact (put_next w b _ m 0 false f c m 0 false f (nxA b) 0 enA hr (ahead_blank w b m 0 false f c c0 c1 hb hr)).mono (fin w b 0 f (nxA b) (fun _ => rfl) (fun _ => rfl) (fun h => absurd h (by simp)))
      · by_cases hl : Tk.line c = true
        · rcases yl hl with rfl | rfl
          · exact rp_a10 0 m 9 w
          · exact rp_a13 0 m 9 w
        · obtain ⟨a1, a2⟩ := nl (by simpa using hl)
          exact rp_a_blank 0 m 9 c c0 c1 a1 a2 (by simpa using hc) hb w
    have hb' : Tk.blank c = false := by simpa using hb
    have hnl : Tk.line c = false := by
      cases e : Tk.line c with
      | false => rfl
      | true => rcases yl e with rfl | rfl <;> exact absurd hb' (by decide)
    obtain ⟨a1, a2⟩ := nl hnl
    obtain ⟨p, hp⟩ : ∃ p, Nu.stepV 0 c m = p := ⟨_, rfl⟩
    obtain ⟨v, er⟩ := p
    by_cases he : er = 0
    · subst he
      have ht' : t = ⟨2, v, 9, true⟩ := by rw [← ht]; simp [Tk.put, hc, hb', hp]
      subst ht'
      refine ⟨fun w b hr => ?_, fun w => rp_a_yes 0 m 9 c c0 c1 a1 a2 (by simpa using hc) hb' h2 h3 m1 v hp w⟩
      obtain ⟨f, hr⟩ := open' w b hr
      exact (put_next w b _ m 0 false f c m v true f (nxD b) 0 enA hr (ahead_yes w b m 0 false f c c0 c1 hb' hc h2 h3 m1 v hp hr)).mono (fin w b v f (nxD b) (fun _ => rfl) (fun _ => rfl) (fun h => absurd h (by simp)))
    · have ht' : t = ⟨5, 0, er, false⟩ := by rw [← ht]; simp [Tk.put, hc, hb', hp, he]
      subst ht'
      refine ⟨fun w b hr => ?_, fun w => rp_a_no 0 m 9 c c0 c1 a1 a2 (by simpa using hc) hb' h2 h3 m1 v er hp he w⟩
      obtain ⟨f, hr⟩ := open' w b hr
      exact (put_next w b _ m 0 false f c m 0 false er (nxD b) 2 enA hr (ahead_no w b m 0 false f c c0 c1 hb' hc h2 h3 m1 v er hp he hr)).mono (fin w b 0 er (nxD b) (fun _ => rfl) (fun h => absurd h (by simp)) (fun _ => rfl))
  · -- a remark ahead
    obtain ⟨rfl, rfl⟩ := h7 (by omega)
    have h9 := h4 (by omega); subst h9
    have open' : ∀ w b, RdS w b m ⟨1, 0, 9, false⟩ → ∃ f, RdC w b m 0 false 0 f (nxR b) := fun w b hr => by
      obtain ⟨_, v, f, x, r1, r2, r3, _⟩ := hr
      have := r2 (by simp); simp only at this; subst this
      have := r3 (by simp); subst this
      exact ⟨f, r1⟩
    by_cases hl : Tk.line c = true
    · have ht' : t = ⟨0, 0, 9, false⟩ := by rw [← ht]; simp [Tk.put, hl]
      subst ht'
      refine ⟨fun w b hr => ?_, fun w => ?_⟩
      · obtain ⟨f, hr⟩ := open' w b hr
        exact (put_next w b _ m 0 false f c m 0 false f (nxA b) 0 enR hr (remA_line w b m 0 false f c c0 c1 hl hr)).mono (fin w b 0 f (nxA b) (fun _ => rfl) (fun _ => rfl) (fun h => absurd h (by simp)))
      · rcases yl hl with rfl | rfl
        · exact rp_remA10 0 m 9 w
        · exact rp_remA13 0 m 9 w
    · have hl' : Tk.line c = false := by simpa using hl
      have ht' : t = ⟨1, 0, 9, false⟩ := by rw [← ht]; simp [Tk.put, hl']
      subst ht'
      obtain ⟨a1, a2⟩ := nl hl'
      refine ⟨fun w b hr => ?_, fun w => rp_remA_not 0 m 9 c c0 c1 a1 a2 w⟩
      obtain ⟨f, hr⟩ := open' w b hr
      exact (put_next w b _ m 0 false f c m 0 false f (nxR b) 0 enR hr (remA_not w b m 0 false f c c0 c1 hl' hr)).mono (fin w b 0 f (nxR b) (fun _ => rfl) (fun _ => rfl) (fun h => absurd h (by simp)))
  · -- digits
    have hbg := h8 (by omega) (by omega); subst hbg
    have h9 := h4 (by omega); subst h9
    have open' : ∀ w b, RdS w b m ⟨2, n, 9, true⟩ → ∃ f, RdC w b m n true 0 f (nxD b) := fun w b hr => by
      obtain ⟨_, v, f, x, r1, r2, r3, _⟩ := hr
      have := r2 (by simp); simp only at this; subst this
      have := r3 (by simp); subst this
      exact ⟨f, r1⟩
    by_cases hc : c = 35
    · subst hc
      have ht' : t = ⟨3, n, 9, true⟩ := by rw [← ht]; rfl
      subst ht'
      refine ⟨fun w b hr => ?_, fun w => rp_d35 n m 9 w⟩
      obtain ⟨f, hr⟩ := open' w b hr
      exact (put_next w b _ m n true f 35 m n true f (nxB b) 0 enD hr (digit_rem w b m n true f 35 c0 c1 rfl hr)).mono (fin w b n f (nxB b) (fun _ => rfl) (fun _ => rfl) (fun h => absurd h (by simp)))
    by_cases hb : Tk.blank c = true
    · have ht' : t = ⟨4, n, 0, true⟩ := by rw [← ht]; simp [Tk.put, hc, hb]
      subst ht'
      refine ⟨fun w b hr => ?_, fun w => ?_⟩
      · obtain ⟨f, hr⟩ := open' w b hr
        exact (put_next w b _ m n true f c m n true f (nxD b) 1 enD hr (digit_blank w b m n true f c c0 c1 hb hr)).mono (fin w b n f (nxD b) (fun _ => rfl) (fun h => absurd h (by simp)) (fun h => absurd h (by simp)))
      · by_cases hl : Tk.line c = true
        · rcases yl hl with rfl | rfl
          · exact rp_d10 n m 9 w
          · exact rp_d13 n m 9 w
        · obtain ⟨a1, a2⟩ := nl (by simpa using hl)
          exact rp_d_blank n m 9 c c0 c1 a1 a2 (by simpa using hc) hb w
    have hb' : Tk.blank c = false := by simpa using hb
    have hnl : Tk.line c = false := by
      cases e : Tk.line c with
      | false => rfl
      | true => rcases yl e with rfl | rfl <;> exact absurd hb' (by decide)
    obtain ⟨a1, a2⟩ := nl hnl
    obtain ⟨p, hp⟩ : ∃ p, Nu.stepV n c m = p := ⟨_, rfl⟩
    obtain ⟨v, er⟩ := p
    by_cases he : er = 0
    · subst he
      have ht' : t = ⟨2, v, 9, true⟩ := by rw [← ht]; simp [Tk.put, hc, hb', hp]
      subst ht'
      refine ⟨fun w b hr => ?_, fun w => rp_d_yes n m 9 c c0 c1 a1 a2 (by simpa using hc) hb' h2 h3 m1 v hp w⟩
      obtain ⟨f, hr⟩ := open' w b hr
      exact (put_next w b _ m n true f c m v true f (nxD b) 0 enD hr (digit_yes w b m n true f c c0 c1 hb' hc h2 h3 m1 v hp hr)).mono (fin w b v f (nxD b) (fun _ => rfl) (fun _ => rfl) (fun h => absurd h (by simp)))
    · have ht' : t = ⟨5, 0, er, true⟩ := by rw [← ht]; simp [Tk.put, hc, hb', hp, he]
      subst ht'
      refine ⟨fun w b hr => ?_, fun w => rp_d_no n m 9 c c0 c1 a1 a2 (by simpa using hc) hb' h2 h3 m1 v er hp he w⟩
      obtain ⟨f, hr⟩ := open' w b hr
      exact (put_next w b _ m n true f c m n true er (nxD b) 2 enD hr (digit_no w b m n true f c c0 c1 hb' hc h2 h3 m1 v er hp he hr)).mono (fin w b n er (nxD b) (fun h => absurd h (by simp)) (fun h => absurd h (by simp)) (fun _ => rfl))
  · -- a remark behind
    have hbg := h8 (by omega) (by omega); subst hbg
    have h9 := h4 (by omega); subst h9
    have open' : ∀ w b, RdS w b m ⟨3, n, 9, true⟩ → ∃ f, RdC w b m n true 0 f (nxB b) := fun w b hr => by
      obtain ⟨_, v, f, x, r1, r2, r3, _⟩ := hr
      have := r2 (by simp); simp only at this; subst this
      have := r3 (by simp); subst this
      exact ⟨f, r1⟩
    by_cases hl : Tk.line c = true
    · have ht' : t = ⟨4, n, 0, true⟩ := by rw [← ht]; simp [Tk.put, hl]
      subst ht'
      refine ⟨fun w b hr => ?_, fun w => ?_⟩
      · obtain ⟨f, hr⟩ := open' w b hr
        exact (put_next w b _ m n true f c m n true f (nxB b) 1 enB hr (remB_line w b m n true f c c0 c1 hl hr)).mono (fin w b n f (nxB b) (fun _ => rfl) (fun h => absurd h (by simp)) (fun h => absurd h (by simp)))
      · rcases yl hl with rfl | rfl
        · exact rp_remB10 n m 9 w
        · exact rp_remB13 n m 9 w
    · have hl' : Tk.line c = false := by simpa using hl
      have ht' : t = ⟨3, n, 9, true⟩ := by rw [← ht]; simp [Tk.put, hl']
      subst ht'
      obtain ⟨a1, a2⟩ := nl hl'
      refine ⟨fun w b hr => ?_, fun w => rp_remB_not n m 9 c c0 c1 a1 a2 w⟩
      obtain ⟨f, hr⟩ := open' w b hr
      exact (put_next w b _ m n true f c m n true f (nxB b) 0 enB hr (remB_not w b m n true f c c0 c1 hl' hr)).mono (fin w b n f (nxB b) (fun _ => rfl) (fun _ => rfl) (fun h => absurd h (by simp)))
  · -- over
    have ht' : t = ⟨4, n, e, bg⟩ := by rw [← ht]; rfl
    subst ht'
    refine ⟨fun w b hr => ?_, fun w => rp_over n m e c w⟩
    have hr' := hr
    obtain ⟨_, v, f, x, r1, _⟩ := hr
    refine (put_done w b m v bg f c 1 x (by decide) r1).mono ?_
    rintro e' w' ⟨rfl, rfl⟩
    exact ⟨rfl, hr', .refl _ _⟩
  · -- wrong
    have ht' : t = ⟨5, n, e, bg⟩ := by rw [← ht]; rfl
    subst ht'
    refine ⟨fun w b hr => ?_, fun w => rp_wrong n m e c w⟩
    have hr' := hr
    obtain ⟨_, v, f, x, r1, _⟩ := hr
    refine (put_done w b m v bg f c 2 x (by decide) r1).mono ?_
    rintro e' w' ⟨rfl, rfl⟩
    exact ⟨rfl, hr', .refl _ _⟩
end Go.Proofs.YtkjkepnailamnaaGreat
namespace Go.Proofs.YtkjkepnailamnaaGreat
open Go.RowKit
set_option linter.unusedVariables false
def HdC (w : World) (b : Nat) (kd m0 m1 m2 v0 v1 v2 i : Int) (nv : Value) (t f : Int) (x : Value) : Prop :=
  w.heap[b]? = some (.cells #[.int .i64 kd, .int .i64 m0, .int .i64 m1, .int .i64 m2, .int .i64 v0, .int .i64 v1, .int .i64 v2, .int .i64 i, nv, .int .i64 t, .int .i64 f, x] 205 (0, 0))
section
variable {w w' : World} {b : Nat} {kd m0 m1 m2 v0 v1 v2 i : Int} {nv : Value} {t f : Int} {x : Value}
theorem HdC.lt (h : HdC w b kd m0 m1 m2 v0 v1 v2 i nv t f x) : b < w.heap.size := (Array.getElem?_eq_some_iff.1 h).1
theorem HdC.later (h : HdC w b kd m0 m1 m2 v0 v1 v2 i nv t f x) (hb : Below w.heap.size w w') : HdC w' b kd m0 m1 m2 v0 v1 v2 i nv t f x := (hb.block b h.lt).trans h
theorem HdC.kept {row : Option Nat} (h : HdC w b kd m0 m1 m2 v0 v1 v2 i nv t f x) (hg : w.grownBy w' row) (hne : some b ≠ row) : HdC w' b kd m0 m1 m2 v0 v1 v2 i nv t f x := (hg.block b h.lt hne).trans h
theorem HdC.sep {Z : Nat → Prop} (h : HdC w b kd m0 m1 m2 v0 v1 v2 i nv t f x) (hs : Sep Z w w') (hz : ¬ Z b) : HdC w' b kd m0 m1 m2 v0 v1 v2 i nv t f x := (hs.block b h.lt hz).trans h
theorem HdC.drewN (h : HdC w b kd m0 m1 m2 v0 v1 v2 i nv t f x) (k : Nat) : HdC (w.drewN k) b kd m0 m1 m2 v0 v1 v2 i nv t f x := h
theorem HdC.fr (h : HdC w b kd m0 m1 m2 v0 v1 v2 i nv t f x) (o : Nat) : w.frozen? ⟨b, o, none⟩ = false := by have h' : w.heap[b]? = _ := h; simp [World.frozen?, h']
theorem HdC.c0 (h : HdC w b kd m0 m1 m2 v0 v1 v2 i nv t f x) : w.cell? ⟨b, 0, none⟩ = some (.int .i64 kd) := by have h' : w.heap[b]? = _ := h; simp [World.cell?, h']
theorem HdC.c1 (h : HdC w b kd m0 m1 m2 v0 v1 v2 i nv t f x) : w.cell? ⟨b, 1, none⟩ = some (.int .i64 m0) := by have h' : w.heap[b]? = _ := h; simp [World.cell?, h']
theorem HdC.c2 (h : HdC w b kd m0 m1 m2 v0 v1 v2 i nv t f x) : w.cell? ⟨b, 2, none⟩ = some (.int .i64 m1) := by have h' : w.heap[b]? = _ := h; simp [World.cell?, h']
theorem HdC.c3 (h : HdC w b kd m0 m1 m2 v0 v1 v2 i nv t f x) : w.cell? ⟨b, 3, none⟩ = some (.int .i64 m2) := by have h' : w.heap[b]? = _ := h; simp [World.cell?, h']
theorem HdC.c4 (h : HdC w b kd m0 m1 m2 v0 v1 v2 i nv t f x) : w.cell? ⟨b, 4, none⟩ = some (.int .i64 v0) := by have h' : w.heap[b]? = _ := h; simp [World.cell?, h']
theorem HdC.c5 (h : HdC w b kd m0 m1 m2 v0 v1 v2 i nv t f x) : w.cell? ⟨b, 5, none⟩ = some (.int .i64 v1) := by have h' : w.heap[b]? = _ := h; simp [World.cell?, h']
theorem HdC.c6 (h : HdC w b kd m0 m1 m2 v0 v1 v2 i nv t f x) : w.cell? ⟨b, 6, none⟩ = some (.int .i64 v2) := by have h' : w.heap[b]? = _ := h; simp [World.cell?, h']
theorem HdC.c7 (h : HdC w b kd m0 m1 m2 v0 v1 v2 i nv t f x) : w.cell? ⟨b, 7, none⟩ = some (.int .i64 i) := by have h' : w.heap[b]? = _ := h; simp [World.cell?, h']
theorem HdC.c8 (h : HdC w b kd m0 m1 m2 v0 v1 v2 i nv t f x) : w.cell? ⟨b, 8, none⟩ = some (nv) := by have h' : w.heap[b]? = _ := h; simp [World.cell?, h']
theorem HdC.c9 (h : HdC w b kd m0 m1 m2 v0 v1 v2 i nv t f x) : w.cell? ⟨b, 9, none⟩ = some (.int .i64 t) := by have h' : w.heap[b]? = _ := h; simp [World.cell?, h']
theorem HdC.c10 (h : HdC w b kd m0 m1 m2 v0 v1 v2 i nv t f x) : w.cell? ⟨b, 10, none⟩ = some (.int .i64 f) := by have h' : w.heap[b]? = _ := h; simp [World.cell?, h']
theorem HdC.c11 (h : HdC w b kd m0 m1 m2 v0 v1 v2 i nv t f x) : w.cell? ⟨b, 11, none⟩ = some (x) := by have h' : w.heap[b]? = _ := h; simp [World.cell?, h']
theorem HdC.put0 (h : HdC w b kd m0 m1 m2 v0 v1 v2 i nv t f x) (y : Int) : HdC (w.setCell ⟨b, 0, none⟩ (.int .i64 y)) b y m0 m1 m2 v0 v1 v2 i nv t f x := by
  have h' : w.heap[b]? = _ := h
  simpa [HdC] using Go.heap_setCell_same w b 0 _ _ (.int .i64 y) h'
theorem HdC.put4 (h : HdC w b kd m0 m1 m2 v0 v1 v2 i nv t f x) (y : Int) : HdC (w.setCell ⟨b, 4, none⟩ (.int .i64 y)) b kd m0 m1 m2 y v1 v2 i nv t f x := by
  have h' : w.heap[b]? = _ := h
  simpa [HdC] using Go.heap_setCell_same w b 4 _ _ (.int .i64 y) h'
theorem HdC.put5 (h : HdC w b kd m0 m1 m2 v0 v1 v2 i nv t f x) (y : Int) : HdC (w.setCell ⟨b, 5, none⟩ (.int .i64 y)) b kd m0 m1 m2 v0 y v2 i nv t f x := by
  have h' : w.heap[b]? = _ := h
  simpa [HdC] using Go.heap_setCell_same w b 5 _ _ (.int .i64 y) h'
theorem HdC.put6 (h : HdC w b kd m0 m1 m2 v0 v1 v2 i nv t f x) (y : Int) : HdC (w.setCell ⟨b, 6, none⟩ (.int .i64 y)) b kd m0 m1 m2 v0 v1 y i nv t f x := by
  have h' : w.heap[b]? = _ := h
  simpa [HdC] using Go.heap_setCell_same w b 6 _ _ (.int .i64 y) h'
theorem HdC.put7 (h : HdC w b kd m0 m1 m2 v0 v1 v2 i nv t f x) (y : Int) : HdC (w.setCell ⟨b, 7, none⟩ (.int .i64 y)) b kd m0 m1 m2 v0 v1 v2 y nv t f x := by
  have h' : w.heap[b]? = _ := h
  simpa [HdC] using Go.heap_setCell_same w b 7 _ _ (.int .i64 y) h'
theorem HdC.put8 (h : HdC w b kd m0 m1 m2 v0 v1 v2 i nv t f x) (y : Value) : HdC (w.setCell ⟨b, 8, none⟩ (y)) b kd m0 m1 m2 v0 v1 v2 i y t f x := by
  have h' : w.heap[b]? = _ := h
  simpa [HdC] using Go.heap_setCell_same w b 8 _ _ (y) h'
theorem HdC.put9 (h : HdC w b kd m0 m1 m2 v0 v1 v2 i nv t f x) (y : Int) : HdC (w.setCell ⟨b, 9, none⟩ (.int .i64 y)) b kd m0 m1 m2 v0 v1 v2 i nv y f x := by
  have h' : w.heap[b]? = _ := h
  simpa [HdC] using Go.heap_setCell_same w b 9 _ _ (.int .i64 y) h'
theorem HdC.put10 (h : HdC w b kd m0 m1 m2 v0 v1 v2 i nv t f x) (y : Int) : HdC (w.setCell ⟨b, 10, none⟩ (.int .i64 y)) b kd m0 m1 m2 v0 v1 v2 i nv t y x := by
  have h' : w.heap[b]? = _ := h
  simpa [HdC] using Go.heap_setCell_same w b 10 _ _ (.int .i64 y) h'
theorem HdC.put11 (h : HdC w b kd m0 m1 m2 v0 v1 v2 i nv t f x) (y : Value) : HdC (w.setCell ⟨b, 11, none⟩ (y)) b kd m0 m1 m2 v0 v1 v2 i nv t f y := by
  have h' : w.heap[b]? = _ := h
  simpa [HdC] using Go.heap_setCell_same w b 11 _ _ (y) h'
end
def nxH1 (b : Nat) : Value := .func (.func 133) #[.pointer (some ⟨b, 0, none⟩)] #[]
theorem enH1 : ∀ args w, (callFunc 133 args).run Tryz.prog w = .ok (.enter 133 args) w := enters_of Tryz.func133 (by kernel_rfl) rfl
def nxH2 (b : Nat) : Value := .func (.func 172) #[.pointer (some ⟨b, 0, none⟩)] #[]
theorem enH2 : ∀ args w, (callFunc 172 args).run Tryz.prog w = .ok (.enter 172 args) w := enters_of Tryz.func172 (by kernel_rfl) rfl
def nxH3 (b : Nat) : Value := .func (.func 191) #[.pointer (some ⟨b, 0, none⟩)] #[]
theorem enH3 : ∀ args w, (callFunc 191 args).run Tryz.prog w = .ok (.enter 191 args) w := enters_of Tryz.func191 (by kernel_rfl) rfl
def nxHN (b : Nat) : Value := .func (.func 206) #[.pointer (some ⟨b, 0, none⟩)] #[]
theorem enHN : ∀ args w, (callFunc 206 args).run Tryz.prog w = .ok (.enter 206 args) w := enters_of Tryz.func206 (by kernel_rfl) rfl
def UpV (w : World) (v : Value) (m : Int) : Prop := ∃ b, v = .func (.func 170) #[] #[.pointer (some ⟨b, 0, none⟩)] ∧ w.cell? ⟨b, 0, none⟩ = some (.int .i64 m)
theorem UpV.later {w w' : World} {v : Value} {m : Int} (h : UpV w v m) (hb : Below w.heap.size w w') : UpV w' v m := by
  obtain ⟨b, h1, h2⟩ := h; exact ⟨b, h1, cell_later hb h2⟩
set_option maxHeartbeats 1000000 in
theorem upTo_any (m : Int) (w : World) :
    Calls Tryz.prog 132 #[.int .i64 m] w fun e w' => ∃ v, e = .returned v ∧ UpV w' v m ∧ Below w.heap.size w w' := by
  go_enter Tryz.func132, Tryz.ntmps132
  go_wp2
  go_ret
  exact ⟨_, rfl, ⟨_, rfl, by simp [go_sem]⟩, by go_grown⟩
set_option maxHeartbeats 1000000 in
theorem upTo1_any (n m : Int) (m1 : 1 ≤ m) (b : Nat) (w : World) (hc : w.cell? ⟨b, 0, none⟩ = some (.int .i64 m)) :
    Calls Tryz.prog 170 #[.int .i64 n, .pointer (some ⟨b, 0, none⟩)] w fun e w' => e = .returned (.int .i64 (Hd.lim n m)) ∧ w = w' := by
  by_cases h1 : n < 1
  · have hmm : min (max n 1) m = 1 := by omega
    have X := Lib.hid (show Hd.lim n m = 1 by unfold Hd.lim; rw [if_pos h1])
    have h2 : ¬ m < 1 := by omega
    go_enter Tryz.func170, Tryz.ntmps170
    go_wp2
    go_ret
    exact ⟨Ar.ret_i X.out.symm, rfl⟩
  by_cases h2 : m < n
  · have hmm : min (max n 1) m = m := by omega
    have X := Lib.hid (show Hd.lim n m = m by unfold Hd.lim; rw [if_neg h1, if_pos h2])
    go_enter Tryz.func170, Tryz.ntmps170
    go_wp2
    go_ret
    exact ⟨Ar.ret_i X.out.symm, rfl⟩
  · have hmm : min (max n 1) m = n := by omega
    have X := Lib.hid (show Hd.lim n m = n by unfold Hd.lim; rw [if_neg h1, if_neg h2])
    go_enter Tryz.func170, Tryz.ntmps170
    go_wp2
    go_ret
    exact ⟨Ar.ret_i X.out.symm, rfl⟩
end Go.Proofs.YtkjkepnailamnaaGreat
namespace Go.Proofs.YtkjkepnailamnaaGreat
open Go.RowKit
set_option linter.unusedVariables false
theorem value_s {w : World} {b : Nat} {m : Int} {s : Tk.S} (h : RdS w b m s) :
    Calls Tryz.prog 215 #[.pointer (some ⟨b, 0, none⟩)] w fun e w' => e = .returned (.tuple #[.int .i64 (Tk.val s).1, .int .i64 (Tk.val s).2]) ∧ w.grownBy w' none := by
  obtain ⟨⟨h1, h2, h3, h4, h5, h6, h7, h8⟩, v, f, x, r1, r2, r3, r4⟩ := h
  obtain ⟨k, n, er, bg⟩ := s
  simp only at h1 h2 h3 h4 h5 h6 h7 h8 r2 r3 r4
  by_cases k4 : k = 4
  · subst k4
    have hv := r2 (by omega)
    have he := h5 rfl
    subst hv he
    have r1' : RdC w b m v bg 1 f x := r1
    have hc1 := r1'.c1
    have hc3 := r1'.c3
    clear r1 r1' r2 r3 r4 h1 h2 h3 h4 h5 h6 h7 h8
    go_enter Tryz.func215, Tryz.ntmps215
    go_wp2
    go_ret2
    exact ⟨rfl, .refl _ _⟩
  by_cases k5 : k = 5
  · subst k5
    have hf := r4 rfl
    have he : er ≠ 0 := by have := h6 rfl; omega
    subst hf
    have r1' : RdC w b m v bg 2 f x := r1
    have X : Hid (Tk.val ⟨5, n, f, bg⟩ = (0, f)) := by show _ = _; unfold Tk.val; exact if_neg he
    have hc4 := r1'.c4
    have hc3 := r1'.c3
    clear r1 r1' r2 r3 r4 h1 h2 h3 h4 h5 h6 h7 h8 he
    go_enter Tryz.func215, Tryz.ntmps215
    go_wp2_with (go_quiet (fail))
    go_ret2
    exact ⟨(by rw [X.out]; rfl), grown_drew _ _ _⟩
  · have he := h4 (by omega)
    subst he
    have hst : Tk.st ⟨k, n, 9, bg⟩ = 0 := by unfold Tk.st; simp [k4, k5]
    rw [hst] at r1
    have hc3 := r1.c3
    clear r1 r2 r3 r4 h1 h2 h3 h4 h5 h6 h7 h8 hst
    go_enter Tryz.func215, Tryz.ntmps215
    go_wp2
    go_ret2
    exact ⟨rfl, .refl _ _⟩
theorem RdS.not_row {w : World} {b : Nat} {m : Int} {s : Tk.S} (h : RdS w b m s) {e : TypeId} (hte : 289 ≠ e) {base size k : Nat} {v : Value} {xs : List Value} (hr : w.ownsRow base e size v k xs) : some b ≠ v.ownBlock := by
  obtain ⟨_, _, f, x, h1, _⟩ := h
  have h1' : w.heap[b]? = _ := h1
  rcases hr.2 with ⟨hv, _⟩ | ⟨j, cap, cur, hv, _, hj, _⟩
  · rw [hv]; simp [Value.ownBlock]
  · rw [hv]; intro e2
    have e2 : b = j := by simpa [Value.ownBlock] using e2
    subst e2
    rw [h1'] at hj
    injection hj with hj
    injection hj with _ ht _
    exact hte ht
end Go.Proofs.YtkjkepnailamnaaGreat
namespace Go.Proofs.YtkjkepnailamnaaGreat
open Go.RowKit
set_option linter.unusedVariables false
def nxP (p b : Nat) : Value := if p = 0 then nxH1 b else if p = 1 then nxH2 b else if p = 2 then nxH3 b else nxHN b
def HdX (T : Int) (w : World) (b n : Nat) (l : Hd.L) (s : Hd.S) : Prop :=
  Hd.Good l s ∧ ∃ nv f x, HdC w b s.kd l.m0 l.m1 l.m2 s.v0 s.v1 s.v2 s.i nv T f x ∧ (s.p = 3 → nv = .pointer (some ⟨n, 0, none⟩) ∧ RdS w n (l.at s.i) s.t ∧ n ≠ b) ∧ (s.p ≤ 3 → x = nxP s.p b) ∧ (s.p = 5 → f = s.e)
def two (b n : Nat) : Nat → Prop := fun k => k = b ∨ k = n
def InR (w : World) (b n : Nat) (l : Hd.L) (s : Hd.S) (e : Ending) (w' : World) : Prop :=
  ∃ n', e = .returned (.int .i64 (Hd.st s)) ∧ HdX 0 w' b n' l s ∧ Sep (two b n) w w' ∧ (n' = n ∨ w.heap.size ≤ n')
theorem Sep.grown {Z : Nat → Prop} {w w' : World} {k : Nat} (hg : w.grownBy w' (some k)) (hz : Z k) : Sep Z w w' := ⟨hg.os, hg.tape, hg.output, hg.size, fun j hj hn => hg.block j hj (fun e => hn (by injection e with e; rw [e]; exact hz))⟩
theorem Sep.grownN {Z : Nat → Prop} {w w' : World} (hg : w.grownBy w' none) : Sep Z w w' := ⟨hg.os, hg.tape, hg.output, hg.size, fun j hj hn => hg.block j hj (by simp)⟩
theorem Sep.bel {Z : Nat → Prop} {w w' : World} (hb : Below w.heap.size w w') : Sep Z w w' := ⟨hb.os, hb.tape, hb.output, hb.size, fun j hj _ => hb.block j hj⟩
theorem HdX.lt {T : Int} {w : World} {b n : Nat} {l : Hd.L} {s : Hd.S} (h : HdX T w b n l s) : b < w.heap.size := by obtain ⟨_, nv, f, x, h1, _⟩ := h; exact h1.lt
theorem HdX.sep {T : Int} {w w' : World} {Z : Nat → Prop} {b n : Nat} {l : Hd.L} {s : Hd.S} (h : HdX T w b n l s) (hs : Sep Z w w') (hb : ¬ Z b) (hn : ¬ Z n) : HdX T w' b n l s := by
  obtain ⟨hG, nv, f, x, h1, h2, h3, h4⟩ := h
  refine ⟨hG, nv, f, x, h1.sep hs hb, fun hp => ?_, h3, h4⟩
  obtain ⟨a1, a2, a3⟩ := h2 hp
  refine ⟨a1, ?_, a3⟩
  obtain ⟨g, v, f', x', r1, r2⟩ := a2
  exact ⟨g, v, f', x', (hs.block n r1.lt hn).trans r1, r2⟩
theorem HdX.later {T : Int} {w w' : World} {b n : Nat} {l : Hd.L} {s : Hd.S} (h : HdX T w b n l s) (hb : Below w.heap.size w w') : HdX T w' b n l s :=
  h.sep (Z := fun _ => False) (.bel hb) (fun h => h) (fun h => h)
set_option maxHeartbeats 1000000 in
theorem hwrong_any (w : World) (b : Nat) (kd m0 m1 m2 v0 v1 v2 i : Int) (nv : Value) (t f : Int) (x : Value) (h : HdC w b kd m0 m1 m2 v0 v1 v2 i nv t f x) (e : Int) :
    Calls Tryz.prog 171 #[.pointer (some ⟨b, 0, none⟩), .int .i64 e] w fun r w' => r = .returned (.int .i64 2) ∧ HdC w' b kd m0 m1 m2 v0 v1 v2 i nv t e x ∧ w.grownBy w' (some b) := by
  have hc := h.c10
  have hf := h.fr 10
  go_enter Tryz.func171, Tryz.ntmps171
  go_wp2
  go_ret
  exact ⟨rfl, h.put10 _, grown_set _ _ _ _⟩
set_option maxHeartbeats 2000000 in
theorem hbegin0_any (w : World) (b : Nat) (kd m0 m1 m2 v0 v1 v2 : Int) (nv : Value) (t f : Int) (x : Value) (h : HdC w b kd m0 m1 m2 v0 v1 v2 0 nv t f x) (hm : 0 ≤ m0) :
    Calls Tryz.prog 205 #[.pointer (some ⟨b, 0, none⟩)] w fun r w' => r = .returned (.tuple #[]) ∧ HdC w' b kd m0 m1 m2 v0 v1 v2 0 (.pointer (some ⟨w.heap.size, 0, none⟩)) t f x ∧ RdS w' w.heap.size m0 Tk.new ∧ w.grownBy w' (some b) := by
  have hc7 := h.c7
  have hc := h.c1
  have hlt := h.lt
  have HT := Lib.hid (fun W => tokNew_s m0 hm W)
  clear hm
  go_enter Tryz.func205, Tryz.ntmps205
  go_wp2_with fail
  go_region_with (go_at_call 213; refine (HT.out _).mono ?_; rintro e w1 ⟨rfl, hR, hB⟩; have h2 : HdC w1 b kd m0 m1 m2 v0 v1 v2 0 nv t f x := (show HdC w.drew b kd m0 m1 m2 v0 v1 v2 0 nv t f x from h).later hB; have hd8 := h2.c8; have hf8 := h2.fr 8)
  all_goals
    go_wp2
    go_end0
    exact ⟨rfl, h2.put8 _, hR.kept (grown_set _ _ _ _) (by intro e; injection e with e; exact Nat.ne_of_lt hlt e.symm), ((show w.grownBy w.drew (some b) from grown_drew w 1 _).trans ⟨hB.os, hB.tape, hB.output, hB.size, fun k hk _ => hB.block k hk⟩).trans (grown_set _ _ _ _)⟩
set_option maxHeartbeats 2000000 in
theorem hbegin1_any (w : World) (b : Nat) (kd m0 m1 m2 v0 v1 v2 : Int) (nv : Value) (t f : Int) (x : Value) (h : HdC w b kd m0 m1 m2 v0 v1 v2 1 nv t f x) (hm : 0 ≤ m1) :
    Calls Tryz.prog 205 #[.pointer (some ⟨b, 0, none⟩)] w fun r w' => r = .returned (.tuple #[]) ∧ HdC w' b kd m0 m1 m2 v0 v1 v2 1 (.pointer (some ⟨w.heap.size, 0, none⟩)) t f x ∧ RdS w' w.heap.size m1 Tk.new ∧ w.grownBy w' (some b) := by
  have hc7 := h.c7
  have hc := h.c2
  have hlt := h.lt
  have HT := Lib.hid (fun W => tokNew_s m1 hm W)
  clear hm
  go_enter Tryz.func205, Tryz.ntmps205
  go_wp2_with fail
  go_region_with (go_at_call 213; refine (HT.out _).mono ?_; rintro e w1 ⟨rfl, hR, hB⟩; have h2 : HdC w1 b kd m0 m1 m2 v0 v1 v2 1 nv t f x := (show HdC w.drew b kd m0 m1 m2 v0 v1 v2 1 nv t f x from h).later hB; have hd8 := h2.c8; have hf8 := h2.fr 8)
  all_goals
    go_wp2
    go_end0
    exact ⟨rfl, h2.put8 _, hR.kept (grown_set _ _ _ _) (by intro e; injection e with e; exact Nat.ne_of_lt hlt e.symm), ((show w.grownBy w.drew (some b) from grown_drew w 1 _).trans ⟨hB.os, hB.tape, hB.output, hB.size, fun k hk _ => hB.block k hk⟩).trans (grown_set _ _ _ _)⟩
set_option maxHeartbeats 2000000 in
theorem hbegin2_any (w : World) (b : Nat) (kd m0 m1 m2 v0 v1 v2 : Int) (nv : Value) (t f : Int) (x : Value) (h : HdC w b kd m0 m1 m2 v0 v1 v2 2 nv t f x) (hm : 0 ≤ m2) :
    Calls Tryz.prog 205 #[.pointer (some ⟨b, 0, none⟩)] w fun r w' => r = .returned (.tuple #[]) ∧ HdC w' b kd m0 m1 m2 v0 v1 v2 2 (.pointer (some ⟨w.heap.size, 0, none⟩)) t f x ∧ RdS w' w.heap.size m2 Tk.new ∧ w.grownBy w' (some b) := by
  have hc7 := h.c7
  have hc := h.c3
  have hlt := h.lt
  have HT := Lib.hid (fun W => tokNew_s m2 hm W)
  clear hm
  go_enter Tryz.func205, Tryz.ntmps205
  go_wp2_with fail
  go_region_with (go_at_call 213; refine (HT.out _).mono ?_; rintro e w1 ⟨rfl, hR, hB⟩; have h2 : HdC w1 b kd m0 m1 m2 v0 v1 v2 2 nv t f x := (show HdC w.drew b kd m0 m1 m2 v0 v1 v2 2 nv t f x from h).later hB; have hd8 := h2.c8; have hf8 := h2.fr 8)
  all_goals
    go_wp2
    go_end0
    exact ⟨rfl, h2.put8 _, hR.kept (grown_set _ _ _ _) (by intro e; injection e with e; exact Nat.ne_of_lt hlt e.symm), ((show w.grownBy w.drew (some b) from grown_drew w 1 _).trans ⟨hB.os, hB.tape, hB.output, hB.size, fun k hk _ => hB.block k hk⟩).trans (grown_set _ _ _ _)⟩
end Go.Proofs.YtkjkepnailamnaaGreat
namespace Go.Proofs.YtkjkepnailamnaaGreat
open Go.RowKit
set_option linter.unusedVariables false
theorem Tk.val_over {m : Int} {t : Tk.S} (h : Tk.Good m t) (hk : t.k = 4) : Tk.val t = (t.n, 0) := by unfold Tk.val; rw [if_pos (h.2.2.2.2.1 hk)]
theorem Tk.val_wrong {m : Int} {t : Tk.S} (h : Tk.Good m t) (hk : t.k = 5) : Tk.val t = (0, t.e) := by
  have := h.2.2.2.2.2.1 hk
  unfold Tk.val; rw [if_neg (by omega)]
theorem Tk.st_over {t : Tk.S} (hk : t.k = 4) : Tk.st t = 1 := by unfold Tk.st; rw [if_pos hk]
theorem Tk.st_wrong {t : Tk.S} (hk : t.k = 5) : Tk.st t = 2 := by unfold Tk.st; rw [if_neg (by omega), if_pos hk]
theorem Tk.st_more {t : Tk.S} (hk : t.k ≤ 3) : Tk.st t = 0 := by unfold Tk.st; rw [if_neg (by omega), if_neg (by omega)]
theorem some_ne {a b : Nat} (h : a ≠ b) : some a ≠ some b := by intro e; injection e with e; exact h e
def TokC (l : Hd.L) (s : Hd.S) (n : Nat) (c : Int) (t : Tk.S) (q : Int) : Prop :=
  ∀ W, RdS W n (l.at s.i) s.t → Calls Tryz.prog 214 #[.pointer (some ⟨n, 0, none⟩), .int .u8 c] W fun e w' => e = .returned (.int .i64 q) ∧ RdS w' n (l.at s.i) t ∧ W.grownBy w' (some n)
theorem tokC {l : Hd.L} {s : Hd.S} {n : Nat} {c : Int} {t : Tk.S} {q : Int} (hG : Tk.Good (l.at s.i) s.t) (hl : l.Ok) (c0 : 0 ≤ c) (c1 : c ≤ 255) (ht : Tk.put (l.at s.i) s.t c = t) (hq : Tk.st t = q) : TokC l s n c t q := by
  intro W hr
  have h := (put_both hG (by have := Hd.L.at_ok hl s.i; omega) c c0 c1).1 W n hr
  rw [ht] at h
  refine h.mono ?_
  rintro e w' ⟨h1, h2, h3⟩
  exact ⟨by rw [h1, hq], h2, h3⟩
set_option maxHeartbeats 2000000 in
theorem in_more {l : Hd.L} (hl : l.Ok) {s : Hd.S} (hG : Hd.Good l s) (hp : s.p = 3) (c : Int) (c0 : 0 ≤ c) (c1 : c ≤ 255) (t : Tk.S) (ht : Tk.put (l.at s.i) s.t c = t) (hk : t.k ≤ 3) (w : World) (b n : Nat) (h : HdX 0 w b n l s) :
    Calls Tryz.prog 206 #[.pointer (some ⟨b, 0, none⟩), .int .u8 c] w (InR w b n l (s.tok t)) := by
  have hG' := Hd.good_take hl (hG.2.2.2.2.1 (by omega) (by omega)) (hG.2.2.2.2.2.1 (by omega)) (Tk.good_put (hG.2.1 (by omega)).1 c)
  rw [ht, show Hd.take s t = s.tok t by unfold Hd.take; rw [if_neg (by omega), if_neg (by omega)]] at hG'
  obtain ⟨_, nv, f, x, h1, h2, h3, h4⟩ := h
  obtain ⟨rfl, hr, hne⟩ := h2 hp
  have hx := h3 (by omega)
  rw [hp] at hx
  have hc8 := h1.c8
  have HC := Lib.hid (tokC (n := n) (hG.2.1 (by omega)).1 hl c0 c1 ht (Tk.st_more hk))
  have H1 := Lib.hid h1
  have HR := Lib.hid hr
  have HG' := Lib.hid hG'
  have HX := Lib.hid hx
  clear h1 hr h2 h3 h4 hG hl ht hk hG' hx
  go_enter Tryz.func206, Tryz.ntmps206
  go_wp2_with (go_at_call 214; refine (HC.out _ HR.out).mono ?_; rintro e w1 ⟨rfl, hr, hg⟩; have HR1 := Lib.hid hr; have HG1 := Lib.hid hg; clear hr hg)
  go_ret
  exact ⟨n, rfl, ⟨HG'.out, _, f, x, H1.out.kept HG1.out (some_ne (Ne.symm hne)), fun _ => ⟨rfl, HR1.out, hne⟩, fun _ => HX.out, fun h => absurd h (by show ¬ (3 : Nat) = 5; decide)⟩, .grown HG1.out (.inr rfl), .inl rfl⟩
set_option maxHeartbeats 2000000 in
theorem in_wrong {l : Hd.L} (hl : l.Ok) {s : Hd.S} (hG : Hd.Good l s) (hp : s.p = 3) (c : Int) (c0 : 0 ≤ c) (c1 : c ≤ 255) (t : Tk.S) (ht : Tk.put (l.at s.i) s.t c = t) (hk : t.k = 5) (w : World) (b n : Nat) (h : HdX 0 w b n l s) :
    Calls Tryz.prog 206 #[.pointer (some ⟨b, 0, none⟩), .int .u8 c] w (InR w b n l (s.wrong t.e)) := by
  have hT := Tk.good_put (hG.2.1 (by omega)).1 c
  rw [ht] at hT
  have hG' : Hd.Good l (s.wrong t.e) := Hd.good_wrong (by have := hG.2.2.2.2.2.2.2; omega) (.inr (hT.2.2.2.2.2.1 hk))
  have hv := Tk.val_wrong hT hk
  have hz : (t.e != 0) = true := by have := hT.2.2.2.2.2.1 hk; simp; omega
  obtain ⟨_, nv, f, x, h1, h2, h3, h4⟩ := h
  obtain ⟨rfl, hr, hne⟩ := h2 hp
  have hc8 := h1.c8
  have HC := Lib.hid (tokC (n := n) (hG.2.1 (by omega)).1 hl c0 c1 ht (Tk.st_wrong hk))
  have HV : Hid (∀ W, RdS W n (l.at s.i) t → Calls Tryz.prog 215 #[.pointer (some ⟨n, 0, none⟩)] W fun e w' => e = .returned (.tuple #[.int .i64 0, .int .i64 t.e]) ∧ W.grownBy w' none) := fun W hr => (value_s hr).mono fun e w' hh => ⟨by rw [hh.1, hv], hh.2⟩
  have HW := Lib.hid hwrong_any
  have H1 := Lib.hid h1
  have HR := Lib.hid hr
  have HG' := Lib.hid hG'
  clear h1 hr h2 h3 h4 hG hl ht hk hG' hT hv
  obtain ⟨e, he⟩ : ∃ e, t.e = e := ⟨_, rfl⟩
  rw [he] at HV HG' hz ⊢
  go_enter Tryz.func206, Tryz.ntmps206
  go_wp2_with fail
  refine (HC.out _ HR.out).mono ?_
  rintro e1 w1 ⟨rfl, hr, hg⟩
  have HR1 := Lib.hid hr
  have HG1 := Lib.hid hg
  have h2 := H1.out.kept hg (some_ne (Ne.symm hne))
  have hd8 := h2.c8
  have H2 := Lib.hid h2
  clear hr hg h2
  go_wp2_with fail
  refine (HV.out _ HR1.out).mono ?_
  rintro e1 w2 ⟨rfl, hg⟩
  have HG2 := Lib.hid hg
  have H3 := Lib.hid (H2.out.kept hg (by simp))
  clear hg
  go_wp2_with fail
  refine (HW.out _ _ _ _ _ _ _ _ _ _ _ _ _ _ H3.out _).mono ?_
  rintro e1 w3 ⟨rfl, h3, hg⟩
  have HG3 := Lib.hid hg
  have H4 := Lib.hid h3
  clear h3 hg
  go_wp2
  go_ret
  exact ⟨n, rfl, ⟨HG'.out, _, e, x, H4.out, fun h => absurd h (by show ¬ (5 : Nat) = 3; decide), fun h => absurd h (by show ¬ (5 : Nat) ≤ 3; decide), fun _ => rfl⟩, ((Sep.grown HG1.out (.inr rfl)).trans (.grownN HG2.out)).trans (.grown HG3.out (.inl rfl)), .inl rfl⟩
set_option maxHeartbeats 2000000 in
theorem in_zero {l : Hd.L} (hl : l.Ok) {s : Hd.S} (hG : Hd.Good l s) (hp : s.p = 3) (c : Int) (c0 : 0 ≤ c) (c1 : c ≤ 255) (t : Tk.S) (ht : Tk.put (l.at s.i) s.t c = t) (hk : t.k = 4) (hn : t.n = 0) (w : World) (b n : Nat) (h : HdX 0 w b n l s) :
    Calls Tryz.prog 206 #[.pointer (some ⟨b, 0, none⟩), .int .u8 c] w (InR w b n l (s.wrong 4)) := by
  have hT := Tk.good_put (hG.2.1 (by omega)).1 c
  rw [ht] at hT
  have hG' : Hd.Good l (s.wrong 4) := Hd.good_wrong (by have := hG.2.2.2.2.2.2.2; omega) (.inr (.inr rfl))
  have hv := Tk.val_over hT hk
  rw [hn] at hv
  obtain ⟨_, nv, f, x, h1, h2, h3, h4⟩ := h
  obtain ⟨rfl, hr, hne⟩ := h2 hp
  have hc8 := h1.c8
  have HC := Lib.hid (tokC (n := n) (hG.2.1 (by omega)).1 hl c0 c1 ht (Tk.st_over hk))
  have HV : Hid (∀ W, RdS W n (l.at s.i) t → Calls Tryz.prog 215 #[.pointer (some ⟨n, 0, none⟩)] W fun e w' => e = .returned (.tuple #[.int .i64 0, .int .i64 0]) ∧ W.grownBy w' none) := fun W hr => (value_s hr).mono fun e w' hh => ⟨by rw [hh.1, hv], hh.2⟩
  have HW := Lib.hid hwrong_any
  have H1 := Lib.hid h1
  have HR := Lib.hid hr
  have HG' := Lib.hid hG'
  clear h1 hr h2 h3 h4 hG hl ht hk hG' hT hv hn
  go_enter Tryz.func206, Tryz.ntmps206
  go_wp2_with fail
  refine (HC.out _ HR.out).mono ?_
  rintro e1 w1 ⟨rfl, hr, hg⟩
  have HR1 := Lib.hid hr
  have HG1 := Lib.hid hg
  have h2 := H1.out.kept hg (some_ne (Ne.symm hne))
  have hd8 := h2.c8
  have H2 := Lib.hid h2
  clear hr hg h2
  go_wp2_with fail
  refine (HV.out _ HR1.out).mono ?_
  rintro e1 w2 ⟨rfl, hg⟩
  have HG2 := Lib.hid hg
  have H3 := Lib.hid (H2.out.kept hg (by simp))
  clear hg
  go_wp2_with fail
  refine (HW.out _ _ _ _ _ _ _ _ _ _ _ _ _ _ H3.out _).mono ?_
  rintro e1 w3 ⟨rfl, h3, hg⟩
  have HG3 := Lib.hid hg
  have H4 := Lib.hid h3
  clear h3 hg
  go_wp2
  go_ret
  exact ⟨n, rfl, ⟨HG'.out, _, 4, x, H4.out, fun h => absurd h (by show ¬ (5 : Nat) = 3; decide), fun h => absurd h (by show ¬ (5 : Nat) ≤ 3; decide), fun _ => rfl⟩, ((Sep.grown HG1.out (.inr rfl)).trans (.grownN HG2.out)).trans (.grown HG3.out (.inl rfl)), .inl rfl⟩
set_option maxHeartbeats 1000000 in
theorem tells_any (k : Int) (w : World) :
    Calls Tryz.prog 117 #[.int .i64 k] w fun e w' => e = .returned (.bool (!Hd.bits k)) ∧ w = w' := by
  by_cases h1 : k = 1
  · subst h1
    have X := Lib.hid (show (!Hd.bits 1) = false by decide)
    go_enter Tryz.func117, Tryz.ntmps117
    go_wp2
    go_ret
    exact ⟨ret_b X.out.symm, rfl⟩
  by_cases h4 : k = 4
  · subst h4
    have X := Lib.hid (show (!Hd.bits 4) = false by decide)
    go_enter Tryz.func117, Tryz.ntmps117
    go_wp2
    go_ret
    exact ⟨ret_b X.out.symm, rfl⟩
  · have X := Lib.hid (show (!Hd.bits k) = true by unfold Hd.bits; rw [decide_eq_false (by omega)]; rfl)
    have k1 : (k != 1) = true := by simpa using h1
    have k4 : (k != 4) = true := by simpa using h4
    go_enter Tryz.func117, Tryz.ntmps117
    go_wp2
    go_ret
    exact ⟨ret_b X.out.symm, rfl⟩
set_option maxHeartbeats 1000000 in
theorem numbers_any (k : Int) (w : World) :
    Calls Tryz.prog 216 #[.int .i64 k] w fun e w' => e = .returned (.int .i64 (Hd.many k : Nat)) ∧ w = w' := by
  have HT := Lib.hid (tells_any k)
  cases hb : Hd.bits k with
  | true =>
    have X := Lib.hid (show Hd.many k = 2 by unfold Hd.many; rw [if_pos hb])
    rw [hb] at HT
    go_enter Tryz.func216, Tryz.ntmps216
    go_wp2_with (go_at_call 117; refine (HT.out _).mono ?_; rintro e w1 ⟨rfl, rfl⟩)
    go_ret
    exact ⟨by rw [X.out]; rfl, rfl⟩
  | false =>
    have X := Lib.hid (show Hd.many k = 3 by unfold Hd.many; rw [if_neg (by rw [hb]; simp)])
    rw [hb] at HT
    go_enter Tryz.func216, Tryz.ntmps216
    go_wp2_with (go_at_call 117; refine (HT.out _).mono ?_; rintro e w1 ⟨rfl, rfl⟩)
    go_ret
    exact ⟨by rw [X.out]; rfl, rfl⟩
end Go.Proofs.YtkjkepnailamnaaGreat
namespace Go.Proofs.YtkjkepnailamnaaGreat
open Go.RowKit
set_option linter.unusedVariables false
theorem Hj.ret_d {p : Prop} [Decidable p] {b : Bool} (h : decide p = b) : Ending.returned (.bool b) = .returned (.bool (decide p)) := by rw [h]
set_option maxHeartbeats 2000000 in
theorem refMay_any (h : Hd.H) (hf : Hj.Fit h) (w : World) :
    Calls Tryz.prog 88 #[agH h] w fun e w' => e = .returned (.bool (decide (Hd.May h))) ∧ Below w.heap.size w w' := by
  obtain ⟨kd, ww, hh, m⟩ := h
  have HB := Lib.hid (bits_any kd)
  unfold agH
  by_cases a1 : kd < 1
  · have X := Lib.hid (show decide (Hd.May ⟨kd, ww, hh, m⟩) = false from decide_eq_false (fun h => by have := h.1.1; simp only at this; omega))
    go_enter Tryz.func88, Tryz.ntmps88
    go_wp2
    go_ret
    exact ⟨Hj.ret_d X.out, by go_grown⟩
  by_cases a2 : 6 < kd
  · have X := Lib.hid (show decide (Hd.May ⟨kd, ww, hh, m⟩) = false from decide_eq_false (fun h => by have := h.1.2; simp only at this; omega))
    go_enter Tryz.func88, Tryz.ntmps88
    go_wp2
    go_ret
    exact ⟨Hj.ret_d X.out, by go_grown⟩
  by_cases b1 : ww < 1
  · have X := Lib.hid (show decide (Hd.May ⟨kd, ww, hh, m⟩) = false from decide_eq_false (fun h => by have := h.2.1.1; simp only at this; omega))
    go_enter Tryz.func88, Tryz.ntmps88
    go_wp2
    go_ret
    exact ⟨Hj.ret_d X.out, by go_grown⟩
  by_cases b2 : 4096 < ww
  · have X := Lib.hid (show decide (Hd.May ⟨kd, ww, hh, m⟩) = false from decide_eq_false (fun h => by have := h.2.1.2; simp only at this; omega))
    go_enter Tryz.func88, Tryz.ntmps88
    go_wp2
    go_ret
    exact ⟨Hj.ret_d X.out, by go_grown⟩
  by_cases c1 : hh < 1
  · have X := Lib.hid (show decide (Hd.May ⟨kd, ww, hh, m⟩) = false from decide_eq_false (fun h => by have := h.2.2.1.1; simp only at this; omega))
    go_enter Tryz.func88, Tryz.ntmps88
    go_wp2
    go_ret
    exact ⟨Hj.ret_d X.out, by go_grown⟩
  by_cases c2 : 65536 < hh
  · have X := Lib.hid (show decide (Hd.May ⟨kd, ww, hh, m⟩) = false from decide_eq_false (fun h => by have := h.2.2.1.2; simp only at this; omega))
    go_enter Tryz.func88, Tryz.ntmps88
    go_wp2
    go_ret
    exact ⟨Hj.ret_d X.out, by go_grown⟩
  by_cases d1 : m < 1
  · have X := Lib.hid (show decide (Hd.May ⟨kd, ww, hh, m⟩) = false from decide_eq_false (fun h => by have := h.2.2.2.1.1; simp only at this; omega))
    go_enter Tryz.func88, Tryz.ntmps88
    go_wp2
    go_ret
    exact ⟨Hj.ret_d X.out, by go_grown⟩
  by_cases d2 : 65535 < m
  · have X := Lib.hid (show decide (Hd.May ⟨kd, ww, hh, m⟩) = false from decide_eq_false (fun h => by have := h.2.2.2.1.2; simp only at this; omega))
    go_enter Tryz.func88, Tryz.ntmps88
    go_wp2
    go_ret
    exact ⟨Hj.ret_d X.out, by go_grown⟩
  by_cases e1 : m = 1
  · subst e1
    have X := Lib.hid (show decide (Hd.May ⟨kd, ww, hh, 1⟩) = true from decide_eq_true ⟨⟨by simp only []; omega, by simp only []; omega⟩, ⟨by simp only []; omega, by simp only []; omega⟩, ⟨by simp only []; omega, by simp only []; omega⟩, ⟨by simp, by simp⟩, fun _ => rfl⟩)
    go_enter Tryz.func88, Tryz.ntmps88
    go_wp2
    go_ret
    exact ⟨Hj.ret_d X.out, by go_grown⟩
  · have k1 : (m == 1) = false := by simpa using e1
    obtain ⟨g, hg⟩ : ∃ g, Hd.bits kd = g := ⟨_, rfl⟩
    have X : Hid (decide (Hd.May ⟨kd, ww, hh, m⟩) = !g) := by
      show _ = _
      cases g with
      | true => exact decide_eq_false (fun h => e1 (h.2.2.2.2 hg))
      | false => exact decide_eq_true ⟨⟨by simp only []; omega, by simp only []; omega⟩, ⟨by simp only []; omega, by simp only []; omega⟩, ⟨by simp only []; omega, by simp only []; omega⟩, ⟨by simp only []; omega, by simp only []; omega⟩, fun h => absurd (hg.symm.trans h) (by decide)⟩
    rw [hg] at HB
    go_enter Tryz.func88, Tryz.ntmps88
    go_wp2_with (go_at_call 90; refine (HB.out _).mono ?_; rintro e w9 ⟨rfl, rfl⟩)
    go_ret
    exact ⟨Hj.ret_d X.out, by go_grown⟩
end Go.Proofs.YtkjkepnailamnaaGreat
namespace Go.Proofs.YtkjkepnailamnaaGreat
open Go.RowKit
set_option linter.unusedVariables false
set_option maxHeartbeats 4000000 in
theorem in_num02 {l : Hd.L} (hl : l.Ok) (kd v0 v1 v2 er : Int) (u : Tk.S) (hG : Hd.Good l ⟨3, kd, 0, v0, v1, v2, u, er⟩) (hm : Hd.many kd = 2) (c : Int) (c0 : 0 ≤ c) (c1 : c ≤ 255) (t : Tk.S) (ht : Tk.put (l.at 0) u c = t) (hk : t.k = 4) (hn : t.n ≠ 0) (w : World) (b n : Nat) (h : HdX 0 w b n l ⟨3, kd, 0, v0, v1, v2, u, er⟩) :
    Calls Tryz.prog 206 #[.pointer (some ⟨b, 0, none⟩), .int .u8 c] w (InR w b n l (Hd.S.num ⟨3, kd, 0, v0, v1, v2, u, er⟩ t.n)) := by
  have hT := Tk.good_put (hG.2.1 (Nat.le_refl 3)).1 c
  have hG' := Hd.good_take hl (hG.2.2.2.2.1 (Nat.le_succ 2) (Nat.le_succ 3)) (hG.2.2.2.2.2.1 (Nat.le_refl 3)) hT
  rw [show Tk.put (l.at 0) u c = t from ht] at hT
  rw [show Tk.put _ _ c = t from ht, show Hd.take ⟨3, kd, 0, v0, v1, v2, u, er⟩ t = Hd.S.num ⟨3, kd, 0, v0, v1, v2, u, er⟩ t.n by unfold Hd.take; rw [if_neg (by omega), if_pos hk, if_neg hn]] at hG'
  have hv := Tk.val_over hT hk
  have hz : (t.n == 0) = false := by simpa using hn
  obtain ⟨_, nv, f, x, h1, h2, h3, h4⟩ := h
  obtain ⟨rfl, hr, hne⟩ := h2 rfl
  have hx := h3 (Nat.le_refl 3)
  have h1' : HdC w b kd l.m0 l.m1 l.m2 v0 v1 v2 0 (.pointer (some ⟨n, 0, none⟩)) 0 f x := h1
  have hc8 := h1'.c8
  have HC := Lib.hid (tokC (n := n) (hG.2.1 (Nat.le_refl 3)).1 hl c0 c1 ht (Tk.st_over hk))
  have HV : Hid (∀ W, RdS W n (l.at 0) t → Calls Tryz.prog 215 #[.pointer (some ⟨n, 0, none⟩)] W fun e w' => e = .returned (.tuple #[.int .i64 t.n, .int .i64 0]) ∧ W.grownBy w' none) := fun W hr => (value_s hr).mono fun e w' hh => ⟨by rw [hh.1, hv], hh.2⟩
  have HN : Hid (∀ W, Calls Tryz.prog 216 #[.int .i64 kd] W fun e w' => e = .returned (.int .i64 2) ∧ W = w') := fun W => by have := numbers_any kd W; rw [hm] at this; exact this
  have HR := Lib.hid (show RdS w n (l.at 0) u from hr)
  have HX := Lib.hid hx
  unfold Hd.S.num at hG' ⊢
  rw [hm] at hG' ⊢
  obtain ⟨k, hkk⟩ : ∃ k, t.n = k := ⟨_, rfl⟩
  rw [hkk] at HV hz hG' ⊢
  have HG' : Hid (Hd.Good l ⟨3, kd, 1, k, v1, v2, Tk.new, er⟩) := hG'
  show Calls _ _ _ _ (InR w b n l ⟨3, kd, 1, k, v1, v2, Tk.new, er⟩)
  have HB := Lib.hid (fun W x nv h => hbegin1_any W b kd l.m0 l.m1 l.m2 k v1 v2 nv 0 f x h (by have := Hd.L.at_ok hl 1; unfold Hd.L.at at this; simp at this; omega))
  have H1 := Lib.hid h1'
  have hblt := h1'.lt
  clear h1 h1' hr h2 h3 h4 hG hl ht hk hG' hT hv hn hm hx
  go_enter Tryz.func206, Tryz.ntmps206
  go_wp2_with fail
  refine (HC.out _ HR.out).mono ?_
  rintro e1 w1 ⟨rfl, hr, hg⟩
  have HR1 := Lib.hid hr
  have HG1 := Lib.hid hg
  have h2 := H1.out.kept hg (some_ne (Ne.symm hne))
  have hd8 := h2.c8
  have H2 := Lib.hid h2
  clear hr hg h2 hc8
  go_wp2_with fail
  refine (HV.out _ HR1.out).mono ?_
  rintro e1 w2 ⟨rfl, hg⟩
  have HG2 := Lib.hid hg
  have h3 := H2.out.kept hg (by simp)
  have e0 := h3.c0
  have e7 := h3.c7
  have eN := h3.c4
  have fr7 := h3.fr 7
  have frN := h3.fr 4
  have hlt2 := h3.lt
  have H4 : Hid (HdC ((w2.setCell ⟨b, 4, none⟩ (.int .i64 k)).setCell ⟨b, 7, none⟩ (.int .i64 1)).drew b kd l.m0 l.m1 l.m2 k v1 v2 1 (.pointer (some ⟨n, 0, none⟩)) 0 f x) := (h3.put4 k).put7 1
  have SEP4 : Hid (Sep (two b n) w2 ((w2.setCell ⟨b, 4, none⟩ (.int .i64 k)).setCell ⟨b, 7, none⟩ (.int .i64 1)).drew) := by
    show Sep _ _ _
    exact ((Sep.setCell w2 (.inl rfl) _).trans (.setCell _ (.inl rfl) _)).trans (.drew _ _)
  clear hg h3 hd8
  go_wp2_with fail
  go_region_with (fail)
  all_goals
    go_wp2_with fail
    generalize ((w2.setCell ⟨b, 4, none⟩ (.int .i64 k)).setCell ⟨b, 7, none⟩ (.int .i64 1)).drew = w4 at H4 SEP4 ⊢
    have q0 := H4.out.c0
    have q7 := H4.out.c7
    have LTB := Lib.hid (show b < w4.heap.size from H4.out.lt)
    have LE5 := Lib.hid (show w.heap.size ≤ w4.heap.size from Nat.le_trans HG1.out.size (Nat.le_trans HG2.out.size SEP4.out.size))
    go_quiet ((go_at_call 216; exact Calls.quiet_of_same ((HN.out _).mono fun e w' hh => ⟨hh.1, hh.2.symm⟩)))
    go_wp2_with fail
    refine (HB.out _ _ _ (H4.out.drewN _)).mono ?_
    rintro e1 w5 ⟨rfl, h5, hr5, hg⟩
    have HG5 := Lib.hid hg
    have H5 := Lib.hid h5
    have HR5 := Lib.hid hr5
    clear hg h5 hr5
    go_wp2
    go_ret
    exact ⟨_, rfl, ⟨HG'.out, _, f, x, H5.out, fun _ => ⟨rfl, HR5.out, Nat.ne_of_gt LTB.out⟩, fun _ => HX.out, fun h => absurd h (show ¬ (3 : Nat) = 5 by decide)⟩, ((((Sep.grown HG1.out (.inr rfl)).trans (.grownN HG2.out)).trans SEP4.out).trans (.drewN _ _ _)).trans (.grown HG5.out (.inl rfl)), .inr LE5.out⟩
set_option maxHeartbeats 4000000 in
theorem in_num03 {l : Hd.L} (hl : l.Ok) (kd v0 v1 v2 er : Int) (u : Tk.S) (hG : Hd.Good l ⟨3, kd, 0, v0, v1, v2, u, er⟩) (hm : Hd.many kd = 3) (c : Int) (c0 : 0 ≤ c) (c1 : c ≤ 255) (t : Tk.S) (ht : Tk.put (l.at 0) u c = t) (hk : t.k = 4) (hn : t.n ≠ 0) (w : World) (b n : Nat) (h : HdX 0 w b n l ⟨3, kd, 0, v0, v1, v2, u, er⟩) :
    Calls Tryz.prog 206 #[.pointer (some ⟨b, 0, none⟩), .int .u8 c] w (InR w b n l (Hd.S.num ⟨3, kd, 0, v0, v1, v2, u, er⟩ t.n)) := by
  have hT := Tk.good_put (hG.2.1 (Nat.le_refl 3)).1 c
  have hG' := Hd.good_take hl (hG.2.2.2.2.1 (Nat.le_succ 2) (Nat.le_succ 3)) (hG.2.2.2.2.2.1 (Nat.le_refl 3)) hT
  rw [show Tk.put (l.at 0) u c = t from ht] at hT
  rw [show Tk.put _ _ c = t from ht, show Hd.take ⟨3, kd, 0, v0, v1, v2, u, er⟩ t = Hd.S.num ⟨3, kd, 0, v0, v1, v2, u, er⟩ t.n by unfold Hd.take; rw [if_neg (by omega), if_pos hk, if_neg hn]] at hG'
  have hv := Tk.val_over hT hk
  have hz : (t.n == 0) = false := by simpa using hn
  obtain ⟨_, nv, f, x, h1, h2, h3, h4⟩ := h
  obtain ⟨rfl, hr, hne⟩ := h2 rfl
  have hx := h3 (Nat.le_refl 3)
  have h1' : HdC w b kd l.m0 l.m1 l.m2 v0 v1 v2 0 (.pointer (some ⟨n, 0, none⟩)) 0 f x := h1
  have hc8 := h1'.c8
  have HC := Lib.hid (tokC (n := n) (hG.2.1 (Nat.le_refl 3)).1 hl c0 c1 ht (Tk.st_over hk))
  have HV : Hid (∀ W, RdS W n (l.at 0) t → Calls Tryz.prog 215 #[.pointer (some ⟨n, 0, none⟩)] W fun e w' => e = .returned (.tuple #[.int .i64 t.n, .int .i64 0]) ∧ W.grownBy w' none) := fun W hr => (value_s hr).mono fun e w' hh => ⟨by rw [hh.1, hv], hh.2⟩
  have HN : Hid (∀ W, Calls Tryz.prog 216 #[.int .i64 kd] W fun e w' => e = .returned (.int .i64 3) ∧ W = w') := fun W => by have := numbers_any kd W; rw [hm] at this; exact this
  have HR := Lib.hid (show RdS w n (l.at 0) u from hr)
  have HX := Lib.hid hx
  unfold Hd.S.num at hG' ⊢
  rw [hm] at hG' ⊢
  obtain ⟨k, hkk⟩ : ∃ k, t.n = k := ⟨_, rfl⟩
  rw [hkk] at HV hz hG' ⊢
  have HG' : Hid (Hd.Good l ⟨3, kd, 1, k, v1, v2, Tk.new, er⟩) := hG'
  show Calls _ _ _ _ (InR w b n l ⟨3, kd, 1, k, v1, v2, Tk.new, er⟩)
  have HB := Lib.hid (fun W x nv h => hbegin1_any W b kd l.m0 l.m1 l.m2 k v1 v2 nv 0 f x h (by have := Hd.L.at_ok hl 1; unfold Hd.L.at at this; simp at this; omega))
  have H1 := Lib.hid h1'
  have hblt := h1'.lt
  clear h1 h1' hr h2 h3 h4 hG hl ht hk hG' hT hv hn hm hx
  go_enter Tryz.func206, Tryz.ntmps206
  go_wp2_with fail
  refine (HC.out _ HR.out).mono ?_
  rintro e1 w1 ⟨rfl, hr, hg⟩
  have HR1 := Lib.hid hr
  have HG1 := Lib.hid hg
  have h2 := H1.out.kept hg (some_ne (Ne.symm hne))
  have hd8 := h2.c8
  have H2 := Lib.hid h2
  clear hr hg h2 hc8
  go_wp2_with fail
  refine (HV.out _ HR1.out).mono ?_
  rintro e1 w2 ⟨rfl, hg⟩
  have HG2 := Lib.hid hg
  have h3 := H2.out.kept hg (by simp)
  have e0 := h3.c0
  have e7 := h3.c7
  have eN := h3.c4
  have fr7 := h3.fr 7
  have frN := h3.fr 4
  have hlt2 := h3.lt
  have H4 : Hid (HdC ((w2.setCell ⟨b, 4, none⟩ (.int .i64 k)).setCell ⟨b, 7, none⟩ (.int .i64 1)).drew b kd l.m0 l.m1 l.m2 k v1 v2 1 (.pointer (some ⟨n, 0, none⟩)) 0 f x) := (h3.put4 k).put7 1
  have SEP4 : Hid (Sep (two b n) w2 ((w2.setCell ⟨b, 4, none⟩ (.int .i64 k)).setCell ⟨b, 7, none⟩ (.int .i64 1)).drew) := by
    show Sep _ _ _
    exact ((Sep.setCell w2 (.inl rfl) _).trans (.setCell _ (.inl rfl) _)).trans (.drew _ _)
  clear hg h3 hd8
  go_wp2_with fail
  go_region_with (fail)
  all_goals
    go_wp2_with fail
    generalize ((w2.setCell ⟨b, 4, none⟩ (.int .i64 k)).setCell ⟨b, 7, none⟩ (.int .i64 1)).drew = w4 at H4 SEP4 ⊢
    have q0 := H4.out.c0
    have q7 := H4.out.c7
    have LTB := Lib.hid (show b < w4.heap.size from H4.out.lt)
    have LE5 := Lib.hid (show w.heap.size ≤ w4.heap.size from Nat.le_trans HG1.out.size (Nat.le_trans HG2.out.size SEP4.out.size))
    go_quiet ((go_at_call 216; exact Calls.quiet_of_same ((HN.out _).mono fun e w' hh => ⟨hh.1, hh.2.symm⟩)))
    go_wp2_with fail
    refine (HB.out _ _ _ (H4.out.drewN _)).mono ?_
    rintro e1 w5 ⟨rfl, h5, hr5, hg⟩
    have HG5 := Lib.hid hg
    have H5 := Lib.hid h5
    have HR5 := Lib.hid hr5
    clear hg h5 hr5
    go_wp2
    go_ret
    exact ⟨_, rfl, ⟨HG'.out, _, f, x, H5.out, fun _ => ⟨rfl, HR5.out, Nat.ne_of_gt LTB.out⟩, fun _ => HX.out, fun h => absurd h (show ¬ (3 : Nat) = 5 by decide)⟩, ((((Sep.grown HG1.out (.inr rfl)).trans (.grownN HG2.out)).trans SEP4.out).trans (.drewN _ _ _)).trans (.grown HG5.out (.inl rfl)), .inr LE5.out⟩
set_option maxHeartbeats 4000000 in
theorem in_num12 {l : Hd.L} (hl : l.Ok) (kd v0 v1 v2 er : Int) (u : Tk.S) (hG : Hd.Good l ⟨3, kd, 1, v0, v1, v2, u, er⟩) (hm : Hd.many kd = 2) (c : Int) (c0 : 0 ≤ c) (c1 : c ≤ 255) (t : Tk.S) (ht : Tk.put (l.at 1) u c = t) (hk : t.k = 4) (hn : t.n ≠ 0) (w : World) (b n : Nat) (h : HdX 0 w b n l ⟨3, kd, 1, v0, v1, v2, u, er⟩) :
    Calls Tryz.prog 206 #[.pointer (some ⟨b, 0, none⟩), .int .u8 c] w (InR w b n l (Hd.S.num ⟨3, kd, 1, v0, v1, v2, u, er⟩ t.n)) := by
  have hT := Tk.good_put (hG.2.1 (Nat.le_refl 3)).1 c
  have hG' := Hd.good_take hl (hG.2.2.2.2.1 (Nat.le_succ 2) (Nat.le_succ 3)) (hG.2.2.2.2.2.1 (Nat.le_refl 3)) hT
  rw [show Tk.put (l.at 1) u c = t from ht] at hT
  rw [show Tk.put _ _ c = t from ht, show Hd.take ⟨3, kd, 1, v0, v1, v2, u, er⟩ t = Hd.S.num ⟨3, kd, 1, v0, v1, v2, u, er⟩ t.n by unfold Hd.take; rw [if_neg (by omega), if_pos hk, if_neg hn]] at hG'
  have hv := Tk.val_over hT hk
  have hz : (t.n == 0) = false := by simpa using hn
  obtain ⟨_, nv, f, x, h1, h2, h3, h4⟩ := h
  obtain ⟨rfl, hr, hne⟩ := h2 rfl
  have hx := h3 (Nat.le_refl 3)
  have h1' : HdC w b kd l.m0 l.m1 l.m2 v0 v1 v2 1 (.pointer (some ⟨n, 0, none⟩)) 0 f x := h1
  have hc8 := h1'.c8
  have HC := Lib.hid (tokC (n := n) (hG.2.1 (Nat.le_refl 3)).1 hl c0 c1 ht (Tk.st_over hk))
  have HV : Hid (∀ W, RdS W n (l.at 1) t → Calls Tryz.prog 215 #[.pointer (some ⟨n, 0, none⟩)] W fun e w' => e = .returned (.tuple #[.int .i64 t.n, .int .i64 0]) ∧ W.grownBy w' none) := fun W hr => (value_s hr).mono fun e w' hh => ⟨by rw [hh.1, hv], hh.2⟩
  have HN : Hid (∀ W, Calls Tryz.prog 216 #[.int .i64 kd] W fun e w' => e = .returned (.int .i64 2) ∧ W = w') := fun W => by have := numbers_any kd W; rw [hm] at this; exact this
  have HR := Lib.hid (show RdS w n (l.at 1) u from hr)
  have HX := Lib.hid hx
  unfold Hd.S.num at hG' ⊢
  rw [hm] at hG' ⊢
  obtain ⟨k, hkk⟩ : ∃ k, t.n = k := ⟨_, rfl⟩
  rw [hkk] at HV hz hG' ⊢
  have HG' : Hid (Hd.Good l ⟨4, kd, 2, v0, k, v2, Tk.new, er⟩) := hG'
  show Calls _ _ _ _ (InR w b n l ⟨4, kd, 2, v0, k, v2, Tk.new, er⟩)
  have H1 := Lib.hid h1'
  have hblt := h1'.lt
  clear h1 h1' hr h2 h3 h4 hG hl ht hk hG' hT hv hn hm hx
  go_enter Tryz.func206, Tryz.ntmps206
  go_wp2_with fail
  refine (HC.out _ HR.out).mono ?_
  rintro e1 w1 ⟨rfl, hr, hg⟩
  have HR1 := Lib.hid hr
  have HG1 := Lib.hid hg
  have h2 := H1.out.kept hg (some_ne (Ne.symm hne))
  have hd8 := h2.c8
  have H2 := Lib.hid h2
  clear hr hg h2 hc8
  go_wp2_with fail
  refine (HV.out _ HR1.out).mono ?_
  rintro e1 w2 ⟨rfl, hg⟩
  have HG2 := Lib.hid hg
  have h3 := H2.out.kept hg (by simp)
  have e0 := h3.c0
  have e7 := h3.c7
  have eN := h3.c5
  have fr7 := h3.fr 7
  have frN := h3.fr 5
  have hlt2 := h3.lt
  have H4 : Hid (HdC ((w2.setCell ⟨b, 5, none⟩ (.int .i64 k)).setCell ⟨b, 7, none⟩ (.int .i64 2)).drew b kd l.m0 l.m1 l.m2 v0 k v2 2 (.pointer (some ⟨n, 0, none⟩)) 0 f x) := (h3.put5 k).put7 2
  have SEP4 : Hid (Sep (two b n) w2 ((w2.setCell ⟨b, 5, none⟩ (.int .i64 k)).setCell ⟨b, 7, none⟩ (.int .i64 2)).drew) := by
    show Sep _ _ _
    exact ((Sep.setCell w2 (.inl rfl) _).trans (.setCell _ (.inl rfl) _)).trans (.drew _ _)
  clear hg h3 hd8
  go_wp2_with fail
  go_region_with (fail)
  all_goals
    go_wp2_with fail
    generalize ((w2.setCell ⟨b, 5, none⟩ (.int .i64 k)).setCell ⟨b, 7, none⟩ (.int .i64 2)).drew = w4 at H4 SEP4 ⊢
    have q0 := H4.out.c0
    have q7 := H4.out.c7
    have LTB := Lib.hid (show b < w4.heap.size from H4.out.lt)
    have LE5 := Lib.hid (show w.heap.size ≤ w4.heap.size from Nat.le_trans HG1.out.size (Nat.le_trans HG2.out.size SEP4.out.size))
    go_quiet ((go_at_call 216; exact Calls.quiet_of_same ((HN.out _).mono fun e w' hh => ⟨hh.1, hh.2.symm⟩)))
    go_wp2_with fail
    go_ret
    exact ⟨n, rfl, ⟨HG'.out, _, f, x, H4.out.drewN _, fun h => absurd h (show ¬ (4 : Nat) = 3 by decide), fun h => absurd h (show ¬ (4 : Nat) ≤ 3 by decide), fun h => absurd h (show ¬ (4 : Nat) = 5 by decide)⟩, (((Sep.grown HG1.out (.inr rfl)).trans (.grownN HG2.out)).trans SEP4.out).trans (.drewN _ _ _), .inl rfl⟩
set_option maxHeartbeats 4000000 in
theorem in_num13 {l : Hd.L} (hl : l.Ok) (kd v0 v1 v2 er : Int) (u : Tk.S) (hG : Hd.Good l ⟨3, kd, 1, v0, v1, v2, u, er⟩) (hm : Hd.many kd = 3) (c : Int) (c0 : 0 ≤ c) (c1 : c ≤ 255) (t : Tk.S) (ht : Tk.put (l.at 1) u c = t) (hk : t.k = 4) (hn : t.n ≠ 0) (w : World) (b n : Nat) (h : HdX 0 w b n l ⟨3, kd, 1, v0, v1, v2, u, er⟩) :
    Calls Tryz.prog 206 #[.pointer (some ⟨b, 0, none⟩), .int .u8 c] w (InR w b n l (Hd.S.num ⟨3, kd, 1, v0, v1, v2, u, er⟩ t.n)) := by
  have hT := Tk.good_put (hG.2.1 (Nat.le_refl 3)).1 c
  have hG' := Hd.good_take hl (hG.2.2.2.2.1 (Nat.le_succ 2) (Nat.le_succ 3)) (hG.2.2.2.2.2.1 (Nat.le_refl 3)) hT
  rw [show Tk.put (l.at 1) u c = t from ht] at hT
  rw [show Tk.put _ _ c = t from ht, show Hd.take ⟨3, kd, 1, v0, v1, v2, u, er⟩ t = Hd.S.num ⟨3, kd, 1, v0, v1, v2, u, er⟩ t.n by unfold Hd.take; rw [if_neg (by omega), if_pos hk, if_neg hn]] at hG'
  have hv := Tk.val_over hT hk
  have hz : (t.n == 0) = false := by simpa using hn
  obtain ⟨_, nv, f, x, h1, h2, h3, h4⟩ := h
  obtain ⟨rfl, hr, hne⟩ := h2 rfl
  have hx := h3 (Nat.le_refl 3)
  have h1' : HdC w b kd l.m0 l.m1 l.m2 v0 v1 v2 1 (.pointer (some ⟨n, 0, none⟩)) 0 f x := h1
  have hc8 := h1'.c8
  have HC := Lib.hid (tokC (n := n) (hG.2.1 (Nat.le_refl 3)).1 hl c0 c1 ht (Tk.st_over hk))
  have HV : Hid (∀ W, RdS W n (l.at 1) t → Calls Tryz.prog 215 #[.pointer (some ⟨n, 0, none⟩)] W fun e w' => e = .returned (.tuple #[.int .i64 t.n, .int .i64 0]) ∧ W.grownBy w' none) := fun W hr => (value_s hr).mono fun e w' hh => ⟨by rw [hh.1, hv], hh.2⟩
  have HN : Hid (∀ W, Calls Tryz.prog 216 #[.int .i64 kd] W fun e w' => e = .returned (.int .i64 3) ∧ W = w') := fun W => by have := numbers_any kd W; rw [hm] at this; exact this
  have HR := Lib.hid (show RdS w n (l.at 1) u from hr)
  have HX := Lib.hid hx
  unfold Hd.S.num at hG' ⊢
  rw [hm] at hG' ⊢
  obtain ⟨k, hkk⟩ : ∃ k, t.n = k := ⟨_, rfl⟩
  rw [hkk] at HV hz hG' ⊢
  have HG' : Hid (Hd.Good l ⟨3, kd, 2, v0, k, v2, Tk.new, er⟩) := hG'
  show Calls _ _ _ _ (InR w b n l ⟨3, kd, 2, v0, k, v2, Tk.new, er⟩)
  have HB := Lib.hid (fun W x nv h => hbegin2_any W b kd l.m0 l.m1 l.m2 v0 k v2 nv 0 f x h (by have := Hd.L.at_ok hl 2; unfold Hd.L.at at this; simp at this; omega))
  have H1 := Lib.hid h1'
  have hblt := h1'.lt
  clear h1 h1' hr h2 h3 h4 hG hl ht hk hG' hT hv hn hm hx
  go_enter Tryz.func206, Tryz.ntmps206
  go_wp2_with fail
  refine (HC.out _ HR.out).mono ?_
  rintro e1 w1 ⟨rfl, hr, hg⟩
  have HR1 := Lib.hid hr
  have HG1 := Lib.hid hg
  have h2 := H1.out.kept hg (some_ne (Ne.symm hne))
  have hd8 := h2.c8
  have H2 := Lib.hid h2
  clear hr hg h2 hc8
  go_wp2_with fail
  refine (HV.out _ HR1.out).mono ?_
  rintro e1 w2 ⟨rfl, hg⟩
  have HG2 := Lib.hid hg
  have h3 := H2.out.kept hg (by simp)
  have e0 := h3.c0
  have e7 := h3.c7
  have eN := h3.c5
  have fr7 := h3.fr 7
  have frN := h3.fr 5
  have hlt2 := h3.lt
  have H4 : Hid (HdC ((w2.setCell ⟨b, 5, none⟩ (.int .i64 k)).setCell ⟨b, 7, none⟩ (.int .i64 2)).drew b kd l.m0 l.m1 l.m2 v0 k v2 2 (.pointer (some ⟨n, 0, none⟩)) 0 f x) := (h3.put5 k).put7 2
  have SEP4 : Hid (Sep (two b n) w2 ((w2.setCell ⟨b, 5, none⟩ (.int .i64 k)).setCell ⟨b, 7, none⟩ (.int .i64 2)).drew) := by
    show Sep _ _ _
    exact ((Sep.setCell w2 (.inl rfl) _).trans (.setCell _ (.inl rfl) _)).trans (.drew _ _)
  clear hg h3 hd8
  go_wp2_with fail
  go_region_with (fail)
  all_goals
    go_wp2_with fail
    generalize ((w2.setCell ⟨b, 5, none⟩ (.int .i64 k)).setCell ⟨b, 7, none⟩ (.int .i64 2)).drew = w4 at H4 SEP4 ⊢
    have q0 := H4.out.c0
    have q7 := H4.out.c7
    have LTB := Lib.hid (show b < w4.heap.size from H4.out.lt)
    have LE5 := Lib.hid (show w.heap.size ≤ w4.heap.size from Nat.le_trans HG1.out.size (Nat.le_trans HG2.out.size SEP4.out.size))
    go_quiet ((go_at_call 216; exact Calls.quiet_of_same ((HN.out _).mono fun e w' hh => ⟨hh.1, hh.2.symm⟩)))
    go_wp2_with fail
    refine (HB.out _ _ _ (H4.out.drewN _)).mono ?_
    rintro e1 w5 ⟨rfl, h5, hr5, hg⟩
    have HG5 := Lib.hid hg
    have H5 := Lib.hid h5
    have HR5 := Lib.hid hr5
    clear hg h5 hr5
    go_wp2
    go_ret
    exact ⟨_, rfl, ⟨HG'.out, _, f, x, H5.out, fun _ => ⟨rfl, HR5.out, Nat.ne_of_gt LTB.out⟩, fun _ => HX.out, fun h => absurd h (show ¬ (3 : Nat) = 5 by decide)⟩, ((((Sep.grown HG1.out (.inr rfl)).trans (.grownN HG2.out)).trans SEP4.out).trans (.drewN _ _ _)).trans (.grown HG5.out (.inl rfl)), .inr LE5.out⟩
set_option maxHeartbeats 4000000 in
theorem in_num23 {l : Hd.L} (hl : l.Ok) (kd v0 v1 v2 er : Int) (u : Tk.S) (hG : Hd.Good l ⟨3, kd, 2, v0, v1, v2, u, er⟩) (hm : Hd.many kd = 3) (c : Int) (c0 : 0 ≤ c) (c1 : c ≤ 255) (t : Tk.S) (ht : Tk.put (l.at 2) u c = t) (hk : t.k = 4) (hn : t.n ≠ 0) (w : World) (b n : Nat) (h : HdX 0 w b n l ⟨3, kd, 2, v0, v1, v2, u, er⟩) :
    Calls Tryz.prog 206 #[.pointer (some ⟨b, 0, none⟩), .int .u8 c] w (InR w b n l (Hd.S.num ⟨3, kd, 2, v0, v1, v2, u, er⟩ t.n)) := by
  have hT := Tk.good_put (hG.2.1 (Nat.le_refl 3)).1 c
  have hG' := Hd.good_take hl (hG.2.2.2.2.1 (Nat.le_succ 2) (Nat.le_succ 3)) (hG.2.2.2.2.2.1 (Nat.le_refl 3)) hT
  rw [show Tk.put (l.at 2) u c = t from ht] at hT
  rw [show Tk.put _ _ c = t from ht, show Hd.take ⟨3, kd, 2, v0, v1, v2, u, er⟩ t = Hd.S.num ⟨3, kd, 2, v0, v1, v2, u, er⟩ t.n by unfold Hd.take; rw [if_neg (by omega), if_pos hk, if_neg hn]] at hG'
  have hv := Tk.val_over hT hk
  have hz : (t.n == 0) = false := by simpa using hn
  obtain ⟨_, nv, f, x, h1, h2, h3, h4⟩ := h
  obtain ⟨rfl, hr, hne⟩ := h2 rfl
  have hx := h3 (Nat.le_refl 3)
  have h1' : HdC w b kd l.m0 l.m1 l.m2 v0 v1 v2 2 (.pointer (some ⟨n, 0, none⟩)) 0 f x := h1
  have hc8 := h1'.c8
  have HC := Lib.hid (tokC (n := n) (hG.2.1 (Nat.le_refl 3)).1 hl c0 c1 ht (Tk.st_over hk))
  have HV : Hid (∀ W, RdS W n (l.at 2) t → Calls Tryz.prog 215 #[.pointer (some ⟨n, 0, none⟩)] W fun e w' => e = .returned (.tuple #[.int .i64 t.n, .int .i64 0]) ∧ W.grownBy w' none) := fun W hr => (value_s hr).mono fun e w' hh => ⟨by rw [hh.1, hv], hh.2⟩
  have HN : Hid (∀ W, Calls Tryz.prog 216 #[.int .i64 kd] W fun e w' => e = .returned (.int .i64 3) ∧ W = w') := fun W => by have := numbers_any kd W; rw [hm] at this; exact this
  have HR := Lib.hid (show RdS w n (l.at 2) u from hr)
  have HX := Lib.hid hx
  unfold Hd.S.num at hG' ⊢
  rw [hm] at hG' ⊢
  obtain ⟨k, hkk⟩ : ∃ k, t.n = k := ⟨_, rfl⟩
  rw [hkk] at HV hz hG' ⊢
  have HG' : Hid (Hd.Good l ⟨4, kd, 3, v0, v1, k, Tk.new, er⟩) := hG'
  show Calls _ _ _ _ (InR w b n l ⟨4, kd, 3, v0, v1, k, Tk.new, er⟩)
  have H1 := Lib.hid h1'
  have hblt := h1'.lt
  clear h1 h1' hr h2 h3 h4 hG hl ht hk hG' hT hv hn hm hx
  go_enter Tryz.func206, Tryz.ntmps206
  go_wp2_with fail
  refine (HC.out _ HR.out).mono ?_
  rintro e1 w1 ⟨rfl, hr, hg⟩
  have HR1 := Lib.hid hr
  have HG1 := Lib.hid hg
  have h2 := H1.out.kept hg (some_ne (Ne.symm hne))
  have hd8 := h2.c8
  have H2 := Lib.hid h2
  clear hr hg h2 hc8
  go_wp2_with fail
  refine (HV.out _ HR1.out).mono ?_
  rintro e1 w2 ⟨rfl, hg⟩
  have HG2 := Lib.hid hg
  have h3 := H2.out.kept hg (by simp)
  have e0 := h3.c0
  have e7 := h3.c7
  have eN := h3.c6
  have fr7 := h3.fr 7
  have frN := h3.fr 6
  have hlt2 := h3.lt
  have H4 : Hid (HdC ((w2.setCell ⟨b, 6, none⟩ (.int .i64 k)).setCell ⟨b, 7, none⟩ (.int .i64 3)).drew b kd l.m0 l.m1 l.m2 v0 v1 k 3 (.pointer (some ⟨n, 0, none⟩)) 0 f x) := (h3.put6 k).put7 3
  have SEP4 : Hid (Sep (two b n) w2 ((w2.setCell ⟨b, 6, none⟩ (.int .i64 k)).setCell ⟨b, 7, none⟩ (.int .i64 3)).drew) := by
    show Sep _ _ _
    exact ((Sep.setCell w2 (.inl rfl) _).trans (.setCell _ (.inl rfl) _)).trans (.drew _ _)
  clear hg h3 hd8
  go_wp2_with fail
  go_region_with (fail)
  all_goals
    go_wp2_with fail
    generalize ((w2.setCell ⟨b, 6, none⟩ (.int .i64 k)).setCell ⟨b, 7, none⟩ (.int .i64 3)).drew = w4 at H4 SEP4 ⊢
    have q0 := H4.out.c0
    have q7 := H4.out.c7
    have LTB := Lib.hid (show b < w4.heap.size from H4.out.lt)
    have LE5 := Lib.hid (show w.heap.size ≤ w4.heap.size from Nat.le_trans HG1.out.size (Nat.le_trans HG2.out.size SEP4.out.size))
    go_quiet ((go_at_call 216; exact Calls.quiet_of_same ((HN.out _).mono fun e w' hh => ⟨hh.1, hh.2.symm⟩)))
    go_wp2_with fail
    go_ret
    exact ⟨n, rfl, ⟨HG'.out, _, f, x, H4.out.drewN _, fun h => absurd h (show ¬ (4 : Nat) = 3 by decide), fun h => absurd h (show ¬ (4 : Nat) ≤ 3 by decide), fun h => absurd h (show ¬ (4 : Nat) = 5 by decide)⟩, (((Sep.grown HG1.out (.inr rfl)).trans (.grownN HG2.out)).trans SEP4.out).trans (.drewN _ _ _), .inl rfl⟩
end Go.Proofs.YtkjkepnailamnaaGreat
namespace Go.Proofs.YtkjkepnailamnaaGreat
open Go.RowKit
set_option linter.unusedVariables false
theorem inNum_any {l : Hd.L} (hl : l.Ok) {s : Hd.S} (hG : Hd.Good l s) (hp : s.p = 3) (c : Int) (c0 : 0 ≤ c) (c1 : c ≤ 255) (w : World) (b n : Nat) (h : HdX 0 w b n l s) :
    Calls Tryz.prog 206 #[.pointer (some ⟨b, 0, none⟩), .int .u8 c] w (InR w b n l (Hd.inNum l s c)) := by
  obtain ⟨t, ht⟩ : ∃ t, Tk.put (l.at s.i) s.t c = t := ⟨_, rfl⟩
  have hT := Tk.good_put (hG.2.1 (by omega)).1 c
  rw [ht] at hT
  unfold Hd.inNum
  rw [ht]
  by_cases k5 : t.k = 5
  · unfold Hd.take; rw [if_pos k5]; exact in_wrong hl hG hp c c0 c1 t ht k5 w b n h
  by_cases k4 : t.k = 4
  · unfold Hd.take
    rw [if_neg k5, if_pos k4]
    by_cases hn : t.n = 0
    · rw [if_pos hn]; exact in_zero hl hG hp c c0 c1 t ht k4 hn w b n h
    · rw [if_neg hn]
      have hi := hG.2.2.2.2.2.1 (by omega)
      obtain ⟨p, kd, i, v0, v1, v2, u, er⟩ := s
      obtain rfl : p = 3 := hp
      have hm := Hd.many_at kd
      have hi' : i < Hd.many kd := hi
      have hcase : (i = 0 ∧ Hd.many kd = 2) ∨ (i = 0 ∧ Hd.many kd = 3) ∨ (i = 1 ∧ Hd.many kd = 2) ∨ (i = 1 ∧ Hd.many kd = 3) ∨ (i = 2 ∧ Hd.many kd = 3) := by omega
      rcases hcase with ⟨rfl, hm⟩ | ⟨rfl, hm⟩ | ⟨rfl, hm⟩ | ⟨rfl, hm⟩ | ⟨rfl, hm⟩
      · exact in_num02 hl kd v0 v1 v2 er u hG hm c c0 c1 t ht k4 hn w b n h
      · exact in_num03 hl kd v0 v1 v2 er u hG hm c c0 c1 t ht k4 hn w b n h
      · exact in_num12 hl kd v0 v1 v2 er u hG hm c c0 c1 t ht k4 hn w b n h
      · exact in_num13 hl kd v0 v1 v2 er u hG hm c c0 c1 t ht k4 hn w b n h
      · exact in_num23 hl kd v0 v1 v2 er u hG hm c c0 c1 t ht k4 hn w b n h
  · have := hT.1
    unfold Hd.take; rw [if_neg k5, if_neg k4]; exact in_more hl hG hp c c0 c1 t ht (by omega) w b n h
set_option maxHeartbeats 2000000 in
theorem first_yes {l : Hd.L} (hl : l.Ok) {s : Hd.S} (hG : Hd.Good l s) (hp : s.p = 0) (w : World) (b n : Nat) (h : HdX 0 w b n l s) :
    Calls Tryz.prog 133 #[.pointer (some ⟨b, 0, none⟩), .int .u8 80] w (InR w b n l (Hd.put l s 80)) := by
  have hG' := Hd.good_put hl hG 80
  have hs : Hd.put l s 80 = ⟨1, s.kd, s.i, s.v0, s.v1, s.v2, s.t, s.e⟩ := by unfold Hd.put; rw [if_pos hp, if_pos rfl]
  rw [hs] at hG' ⊢
  obtain ⟨_, nv, f, x, h1, h2, h3, h4⟩ := h
  have hc := h1.c11
  have hf := h1.fr 11
  clear hs h2 h3 h4
  go_enter Tryz.func133, Tryz.ntmps133
  go_wp2
  go_ret
  exact ⟨n, rfl, ⟨hG', _, f, _, h1.put11 _, fun h => absurd h (show ¬ (1 : Nat) = 3 by decide), fun _ => rfl, fun h => absurd h (show ¬ (1 : Nat) = 5 by decide)⟩, .setCell _ (.inl rfl) _, .inl rfl⟩
set_option maxHeartbeats 2000000 in
theorem first_no {l : Hd.L} (hl : l.Ok) {s : Hd.S} (hG : Hd.Good l s) (hp : s.p = 0) (c : Int) (c0 : 0 ≤ c) (c1 : c ≤ 255) (hc : ¬ c = 80) (w : World) (b n : Nat) (h : HdX 0 w b n l s) :
    Calls Tryz.prog 133 #[.pointer (some ⟨b, 0, none⟩), .int .u8 c] w (InR w b n l (Hd.put l s c)) := by
  have hG' := Hd.good_put hl hG c
  have hs : Hd.put l s c = s.wrong 2 := by unfold Hd.put; rw [if_pos hp, if_neg hc]
  rw [hs] at hG' ⊢
  obtain ⟨_, nv, f, x, h1, h2, h3, h4⟩ := h
  have hk : (c != 80) = true := by simpa using hc
  have H1 := Lib.hid h1
  have HW := Lib.hid hwrong_any
  clear hs h2 h3 h4 hc h1
  go_enter Tryz.func133, Tryz.ntmps133
  go_wp2_with fail
  refine (HW.out _ _ _ _ _ _ _ _ _ _ _ _ _ _ H1.out _).mono ?_
  rintro e1 w3 ⟨rfl, h3, hg⟩
  go_wp2
  go_ret
  exact ⟨n, rfl, ⟨hG', _, _, _, h3, fun h => absurd h (show ¬ (5 : Nat) = 3 by decide), fun h => absurd h (show ¬ (5 : Nat) ≤ 3 by decide), fun _ => rfl⟩, .grown hg (.inl rfl), .inl rfl⟩
set_option maxHeartbeats 2000000 in
theorem second_yes {l : Hd.L} (hl : l.Ok) {s : Hd.S} (hG : Hd.Good l s) (hp : s.p = 1) (c : Int) (c0 : 49 ≤ c) (c1 : c ≤ 54) (w : World) (b n : Nat) (h : HdX 0 w b n l s) :
    Calls Tryz.prog 172 #[.pointer (some ⟨b, 0, none⟩), .int .u8 c] w (InR w b n l (Hd.put l s c)) := by
  have hG' := Hd.good_put hl hG c
  have hs : Hd.put l s c = ⟨2, c - 48, s.i, s.v0, s.v1, s.v2, s.t, s.e⟩ := by unfold Hd.put; rw [if_neg (by omega), if_pos hp, if_pos ⟨c0, c1⟩]
  rw [hs] at hG' ⊢
  obtain ⟨_, nv, f, x, h1, h2, h3, h4⟩ := h
  have hc0 := h1.c0
  have hc := h1.c11
  have hf0 := h1.fr 0
  have hf := h1.fr 11
  have k1 : ¬ c < 49 := by omega
  have k2 : ¬ 54 < c := by omega
  have k3 : 0 ≤ c - 48 := by omega
  have k4 : c - 48 ≤ 255 := by omega
  have H1 := Lib.hid h1
  clear hs h2 h3 h4 h1 hp
  go_enter Tryz.func172, Tryz.ntmps172
  go_wp2
  go_ret
  exact ⟨n, rfl, ⟨hG', _, f, _, (H1.out.put0 _).put11 _, fun h => absurd h (show ¬ (2 : Nat) = 3 by decide), fun _ => rfl, fun h => absurd h (show ¬ (2 : Nat) = 5 by decide)⟩, (Sep.setCell _ (.inl rfl) _).trans (.setCell _ (.inl rfl) _), .inl rfl⟩
set_option maxHeartbeats 2000000 in
theorem second_no {l : Hd.L} (hl : l.Ok) {s : Hd.S} (hG : Hd.Good l s) (hp : s.p = 1) (c : Int) (c0 : 0 ≤ c) (c1 : c ≤ 255) (hc : ¬ (49 ≤ c ∧ c ≤ 54)) (w : World) (b n : Nat) (h : HdX 0 w b n l s) :
    Calls Tryz.prog 172 #[.pointer (some ⟨b, 0, none⟩), .int .u8 c] w (InR w b n l (Hd.put l s c)) := by
  have hG' := Hd.good_put hl hG c
  have hs : Hd.put l s c = s.wrong 2 := by unfold Hd.put; rw [if_neg (by omega), if_pos hp, if_neg hc]
  rw [hs] at hG' ⊢
  obtain ⟨_, nv, f, x, h1, h2, h3, h4⟩ := h
  have H1 := Lib.hid h1
  have HW := Lib.hid hwrong_any
  by_cases k1 : c < 49
  · clear hs h2 h3 h4 hc h1 hp
    go_enter Tryz.func172, Tryz.ntmps172
    go_wp2_with fail
    refine (HW.out _ _ _ _ _ _ _ _ _ _ _ _ _ _ H1.out _).mono ?_
    rintro e1 w3 ⟨rfl, h3, hg⟩
    go_wp2
    go_ret
    exact ⟨n, rfl, ⟨hG', _, _, _, h3, fun h => absurd h (show ¬ (5 : Nat) = 3 by decide), fun h => absurd h (show ¬ (5 : Nat) ≤ 3 by decide), fun _ => rfl⟩, .grown hg (.inl rfl), .inl rfl⟩
  · have k2 : 54 < c := by omega
    clear hs h2 h3 h4 hc h1 hp
    go_enter Tryz.func172, Tryz.ntmps172
    go_wp2_with fail
    refine (HW.out _ _ _ _ _ _ _ _ _ _ _ _ _ _ H1.out _).mono ?_
    rintro e1 w3 ⟨rfl, h3, hg⟩
    go_wp2
    go_ret
    exact ⟨n, rfl, ⟨hG', _, _, _, h3, fun h => absurd h (show ¬ (5 : Nat) = 3 by decide), fun h => absurd h (show ¬ (5 : Nat) ≤ 3 by decide), fun _ => rfl⟩, .grown hg (.inl rfl), .inl rfl⟩
set_option maxHeartbeats 2000000 in
theorem third_no {l : Hd.L} (hl : l.Ok) {s : Hd.S} (hG : Hd.Good l s) (hp : s.p = 2) (c : Int) (c0 : 0 ≤ c) (c1 : c ≤ 255) (hb : Tk.blank c = false) (hc : ¬ c = 35) (w : World) (b n : Nat) (h : HdX 0 w b n l s) :
    Calls Tryz.prog 191 #[.pointer (some ⟨b, 0, none⟩), .int .u8 c] w (InR w b n l (Hd.put l s c)) := by
  have hG' := Hd.good_put hl hG c
  have hs : Hd.put l s c = s.wrong 3 := by unfold Hd.put; rw [if_neg (by omega), if_neg (by omega), if_pos hp, if_neg (by rw [hb]; simpa using hc)]
  rw [hs] at hG' ⊢
  obtain ⟨_, nv, f, x, h1, h2, h3, h4⟩ := h
  have H1 := Lib.hid h1
  have HW := Lib.hid hwrong_any
  have HB : Hid (∀ W, Calls Tryz.prog 128 #[.int .u8 c] W fun e w' => e = .returned (.bool false) ∧ W = w') := fun W => by have := blank_any c c0 c1 W; rw [hb] at this; exact this
  have hk : (c != 35) = true := by simpa using hc
  clear hs h2 h3 h4 hc h1 hp hb
  go_enter Tryz.func191, Tryz.ntmps191
  go_wp2_with fail
  refine (HB.out _).mono ?_
  rintro e1 w2 ⟨rfl, rfl⟩
  go_wp2_with fail
  refine (HW.out _ _ _ _ _ _ _ _ _ _ _ _ _ _ H1.out _).mono ?_
  rintro e1 w3 ⟨rfl, h3, hg⟩
  go_wp2
  go_ret
  exact ⟨n, rfl, ⟨hG', _, _, _, h3, fun h => absurd h (show ¬ (5 : Nat) = 3 by decide), fun h => absurd h (show ¬ (5 : Nat) ≤ 3 by decide), fun _ => rfl⟩, .grown hg (.inl rfl), .inl rfl⟩
theorem Sep.fresh {b n k : Nat} {w w2 w3 : World} (h : Sep (two b n) w w2) (h2 : Sep (two b k) w2 w3) (hk : w.heap.size ≤ k) : Sep (two b n) w w3 :=
  ⟨h2.os.trans h.os, h2.tape.trans h.tape, h2.output.trans h.output, Nat.le_trans h.size h2.size, fun j hj hz => (h2.block j (Nat.lt_of_lt_of_le hj h.size) (fun e => e.elim (fun e => hz (.inl e)) (fun e => by omega))).trans (h.block j hj hz)⟩
set_option maxHeartbeats 2000000 in
theorem third_go {l : Hd.L} (hl : l.Ok) {s : Hd.S} (hG : Hd.Good l s) (hp : s.p = 2) (c : Int) (c0 : 0 ≤ c) (c1 : c ≤ 255) (hy : Tk.blank c = true ∨ c = 35) (g : Bool) (hb : Tk.blank c = g) (hgo : g = true ∨ (g = false ∧ c = 35)) (w : World) (b n : Nat) (h : HdX 0 w b n l s) :
    Calls Tryz.prog 191 #[.pointer (some ⟨b, 0, none⟩), .int .u8 c] w (InR w b n l (Hd.put l s c)) := by
  obtain ⟨a1, a2, a3, a4, a5⟩ := hG.2.2.1 (by omega)
  have hs : Hd.put l s c = Hd.inNum l (s.tok s.t) c := by unfold Hd.put; rw [if_neg (by omega), if_neg (by omega), if_pos hp, if_pos hy]; rfl
  rw [hs]
  obtain ⟨p, kd, i, v0, v1, v2, u, er⟩ := s
  simp only at a1 a2 a3 a4 a5 hp
  subst a1 a2 a3 a4 a5 hp
  have hG3 : Hd.Good l ⟨3, kd, 0, 0, 0, 1, Tk.new, er⟩ := by
    have := Hd.L.at_ok hl 0
    exact ⟨Nat.le_succ_of_le (Nat.le_succ 3), fun _ => hG.2.1 (Nat.le_succ 2), fun h => absurd h (show ¬ (3 : Nat) ≤ 2 by decide), fun h => absurd h (show ¬ (3 : Nat) ≤ 1 by decide), fun _ _ => hG.2.2.2.2.1 (Nat.le_refl 2) (Nat.le_succ_of_le (Nat.le_succ_of_le (Nat.le_refl 2))), fun _ => hG.2.2.2.2.2.1 (Nat.le_succ 2), fun h => absurd h (show ¬ (3 : Nat) = 5 by decide), Nat.zero_le 3⟩
  obtain ⟨_, nv, f, x, h1, h2, h3, h4⟩ := h
  have h1' : HdC w b kd l.m0 l.m1 l.m2 0 0 1 0 nv 0 f x := h1
  have H1 := Lib.hid h1'
  have HI := Lib.hid (fun W n h => inNum_any hl hG3 rfl c c0 c1 W b n h)
  have HN := Lib.hid enHN
  have HBg := Lib.hid (fun W h => hbegin0_any W b kd l.m0 l.m1 l.m2 0 0 1 nv 0 f x h (by have := Hd.L.at_ok hl 0; unfold Hd.L.at at this; simp at this; omega))
  have HB : Hid (∀ W, Calls Tryz.prog 128 #[.int .u8 c] W fun e w' => e = .returned (.bool g) ∧ W = w') := fun W => by have := blank_any c c0 c1 W; rw [hb] at this; exact this
  obtain ⟨fn, hfn⟩ : ∃ fn, fn = 206 := ⟨_, rfl⟩
  have HFN := Lib.hid hfn
  have hlt := h1'.lt
  have HGG := Lib.hid hG3
  clear hs h2 h3 h4 h1 h1' hb hy hG hG3 hl hfn
  rcases hgo with rfl | ⟨rfl, rfl⟩
  all_goals
    go_enter Tryz.func191, Tryz.ntmps191
    go_wp2_with fail
    refine (HB.out _).mono ?_
    rintro e1 w2 ⟨rfl, rfl⟩
    go_wp2_with fail
    refine (HBg.out _ H1.out).mono ?_
    rintro e1 w2 ⟨rfl, h2, hr, hg⟩
    have hc11 := h2.c11
    have hf11 := h2.fr 11
    have HG2 := Lib.hid hg
    have hlt2 : w.heap.size ≤ w2.heap.size := hg.size
    have HX3 : Hid (HdX 0 (w2.setCell ⟨b, 11, none⟩ (nxHN b)) b w.heap.size l ⟨3, kd, 0, 0, 0, 1, Tk.new, er⟩) := ⟨HGG.out, _, f, _, h2.put11 _, fun _ => ⟨rfl, hr.kept (grown_set _ _ _ _) (some_ne (Nat.ne_of_gt hlt)), Nat.ne_of_gt hlt⟩, fun _ => rfl, fun h => absurd h (show ¬ (3 : Nat) = 5 by decide)⟩
    have hc11b := (h2.put11 (nxHN b)).c11
    have SP3 : Hid (Sep (two b n) w (w2.setCell ⟨b, 11, none⟩ (nxHN b))) := (Sep.grown hg (.inl rfl)).trans (.setCell _ (.inl rfl) _)
    clear hg h2 hr
    unfold nxHN at HX3 SP3 hc11b
    go_wp2_with fail
    refine (HI.out _ _ HX3.out).mono ?_
    rintro e1 w4 ⟨n', rfl, hx, hsp, hn'⟩
    go_wp2
    go_ret
    exact ⟨n', rfl, hx, SP3.out.fresh hsp (Nat.le_refl _), .inr (hn'.elim (fun e => Nat.le_of_eq e.symm) (fun e => Nat.le_trans SP3.out.size e))⟩
end Go.Proofs.YtkjkepnailamnaaGreat
namespace Go.Proofs.YtkjkepnailamnaaGreat
open Go.RowKit
set_option linter.unusedVariables false
def HPutR (w : World) (b n : Nat) (l : Hd.L) (s : Hd.S) (e : Ending) (w' : World) : Prop :=
  ∃ n', e = .returned (.int .i64 (Hd.st s)) ∧ HdX (Hd.st s) w' b n' l s ∧ Sep (two b n) w w' ∧ (n' = n ∨ w.heap.size ≤ n')
theorem HdX.status {w : World} {b n : Nat} {l : Hd.L} {s : Hd.S} (h : HdX 0 w b n l s) (T : Int) : HdX T (w.setCell ⟨b, 9, none⟩ (.int .i64 T)) b n l s := by
  obtain ⟨hG, nv, f, x, h1, h2, h3, h4⟩ := h
  refine ⟨hG, nv, f, x, h1.put9 T, fun hp => ?_, h3, h4⟩
  obtain ⟨a1, a2, a3⟩ := h2 hp
  exact ⟨a1, a2.kept (grown_set _ _ _ _) (some_ne a3), a3⟩
set_option maxHeartbeats 1000000 in
theorem hput_go {l : Hd.L} {s s' : Hd.S} (hp : s.p ≤ 3) (c : Int) (w : World) (b n : Nat) (h : HdX 0 w b n l s) (fn : Nat) (hn : ∀ args w, (callFunc fn args).run Tryz.prog w = .ok (.enter fn args) w)
    (hx : nxP s.p b = .func (.func fn) #[.pointer (some ⟨b, 0, none⟩)] #[]) (hcall : Calls Tryz.prog fn #[.pointer (some ⟨b, 0, none⟩), .int .u8 c] w (InR w b n l s')) :
    Calls Tryz.prog 96 #[.pointer (some ⟨b, 0, none⟩), .int .u8 c] w (HPutR w b n l s') := by
  obtain ⟨_, nv, f, x, h1, h2, h3, h4⟩ := h
  obtain rfl := h3 hp
  rw [hx] at h1
  have hc9 := h1.c9
  have hc11 := h1.c11
  have HC := Lib.hid hcall
  clear hcall h1 h2 h3 h4 hx
  go_enter Tryz.func96, Tryz.ntmps96
  go_wp2_with (go_at_fn fn; refine HC.out.mono ?_; rintro e w2 ⟨n', rfl, hX, hs, hn'⟩; have HX := Lib.hid hX; have HS := Lib.hid hs; have HN' := Lib.hid hn'; have ⟨hd9, hf9⟩ : w2.cell? ⟨b, 9, none⟩ = some (.int .i64 0) ∧ w2.frozen? ⟨b, 9, none⟩ = false := (by obtain ⟨_, nv', f', x', r1, _⟩ := hX; exact ⟨r1.c9, r1.fr 9⟩); clear hX hs hn')
  go_ret
  exact ⟨n', rfl, HX.out.status _, HS.out.trans (.setCell _ (.inl rfl) _), HN'.out⟩
set_option maxHeartbeats 1000000 in
theorem hput_done {l : Hd.L} {s : Hd.S} (T : Int) (ht : T ≠ 0) (c : Int) (w : World) (b n : Nat) (h : HdX T w b n l s) :
    Calls Tryz.prog 96 #[.pointer (some ⟨b, 0, none⟩), .int .u8 c] w fun e w' => e = .returned (.int .i64 T) ∧ w = w' := by
  obtain ⟨_, nv, f, x, h1, h2, h3, h4⟩ := h
  have hc9 := h1.c9
  have ht' : (T == 0) = false := by simpa using ht
  clear ht h1 h2 h3 h4
  go_enter Tryz.func96, Tryz.ntmps96
  go_wp2
  go_ret
  exact ⟨rfl, rfl⟩
theorem Hd.st_open {s : Hd.S} (h : s.p ≤ 3) : Hd.st s = 0 := by unfold Hd.st; rw [if_neg (by omega), if_neg (by omega)]
theorem hput_any {l : Hd.L} (hl : l.Ok) {s : Hd.S} (hG : Hd.Good l s) (c : Int) (c0 : 0 ≤ c) (c1 : c ≤ 255) (w : World) (b n : Nat) (h : HdX (Hd.st s) w b n l s) :
    Calls Tryz.prog 96 #[.pointer (some ⟨b, 0, none⟩), .int .u8 c] w (HPutR w b n l (Hd.put l s c)) := by
  have hp5 := hG.1
  by_cases hp : s.p ≤ 3
  · rw [Hd.st_open hp] at h
    have hcase : s.p = 0 ∨ s.p = 1 ∨ s.p = 2 ∨ s.p = 3 := by omega
    rcases hcase with hp0 | hp0 | hp0 | hp0
    · refine hput_go hp c w b n h 133 enH1 (by rw [hp0]; rfl) ?_
      by_cases hc : c = 80
      · subst hc; exact first_yes hl hG hp0 w b n h
      · exact first_no hl hG hp0 c c0 c1 hc w b n h
    · refine hput_go hp c w b n h 172 enH2 (by rw [hp0]; rfl) ?_
      by_cases hc : 49 ≤ c ∧ c ≤ 54
      · exact second_yes hl hG hp0 c hc.1 hc.2 w b n h
      · exact second_no hl hG hp0 c c0 c1 hc w b n h
    · refine hput_go hp c w b n h 191 enH3 (by rw [hp0]; rfl) ?_
      cases hb : Tk.blank c with
      | true => exact third_go hl hG hp0 c c0 c1 (.inl hb) true hb (.inl rfl) w b n h
      | false =>
        by_cases hc : c = 35
        · exact third_go hl hG hp0 c c0 c1 (.inr hc) false hb (.inr ⟨rfl, hc⟩) w b n h
        · exact third_no hl hG hp0 c c0 c1 hb hc w b n h
    · refine hput_go hp c w b n h 206 enHN (by rw [hp0]; rfl) ?_
      have hs : Hd.put l s c = Hd.inNum l s c := by unfold Hd.put; rw [if_neg (by omega), if_neg (by omega), if_neg (by omega), if_pos hp0]
      rw [hs]
      exact inNum_any hl hG hp0 c c0 c1 w b n h
  · have hs : Hd.put l s c = s := by unfold Hd.put; rw [if_neg (by omega), if_neg (by omega), if_neg (by omega), if_neg (by omega)]
    rw [hs]
    have h0 : Hd.st s ≠ 0 := by
      unfold Hd.st
      split
      · decide
      · rw [if_pos (by omega)]; decide
    refine (hput_done (Hd.st s) h0 c w b n h).mono ?_
    rintro e w' ⟨rfl, rfl⟩
    exact ⟨n, rfl, h, .refl _ _, .inl rfl⟩
set_option maxRecDepth 100000 in
set_option maxHeartbeats 2000000 in
theorem head_over {w : World} {b n : Nat} {l : Hd.L} {s : Hd.S} (h : HdX 1 w b n l s) :
    Calls Tryz.prog 97 #[.pointer (some ⟨b, 0, none⟩)] w fun e w' => e = .returned (.tuple #[agH (Hd.hd s), .int .i64 0]) ∧ Below w.heap.size w w' := by
  obtain ⟨_, nv, f, x, h1, h2, h3, h4⟩ := h
  have hc9 := h1.c9
  have hc0 := h1.c0
  have hc4 := h1.c4
  have hc5 := h1.c5
  have hc6 := h1.c6
  have hlt := h1.lt
  clear h1 h2 h3 h4
  unfold agH Hd.hd
  go_enter Tryz.func97, Tryz.ntmps97
  go_wp2_with fail
  have hBa : Below w.heap.size w (w.alloc (.cells #[.int .i64 0, .int .i64 0, .int .i64 0, .int .i64 0] 62)) := (Below.refl _ w).alloc (Nat.le_refl _) _
  have m9 := cell_later hBa hc9
  have m0 := cell_later hBa hc0
  have m4 := cell_later hBa hc4
  have m5 := cell_later hBa hc5
  have m6 := cell_later hBa hc6
  have hne : ¬ b = w.heap.size := Nat.ne_of_lt hlt
  go_region_held3 (fun w' => w'.cell? ⟨b, 0, none⟩ = some (.int .i64 s.kd) ∧ w'.cell? ⟨b, 4, none⟩ = some (.int .i64 s.v0) ∧ w'.cell? ⟨b, 5, none⟩ = some (.int .i64 s.v1) ∧ w'.cell? ⟨b, 6, none⟩ = some (.int .i64 s.v2)) (first | exact ⟨m0, m4, m5, m6⟩ | go_keep) (fail)
  go_wp2
  go_returns
  exact ⟨rfl, by go_grown⟩
set_option maxHeartbeats 2000000 in
theorem head_wrong {w : World} {b n : Nat} {l : Hd.L} {s : Hd.S} (hp : s.p = 5) (h : HdX 2 w b n l s) :
    Calls Tryz.prog 97 #[.pointer (some ⟨b, 0, none⟩)] w fun e w' => e = .returned (.tuple #[agH Hd.none, .int .i64 s.e]) ∧ Below w.heap.size w w' := by
  obtain ⟨_, nv, f, x, h1, h2, h3, h4⟩ := h
  obtain rfl := h4 hp
  have hc9 := h1.c9
  have hc10 := h1.c10
  obtain ⟨e, he⟩ : ∃ e, s.e = e := ⟨_, rfl⟩
  rw [he] at hc10 ⊢
  have hlt := h1.lt
  clear h1 h2 h3 h4 he
  unfold agH Hd.none
  go_enter Tryz.func97, Tryz.ntmps97
  go_wp2_with fail
  go_region_with (fail)
  all_goals
    go_wp2
    go_returns
    exact ⟨rfl, by go_grown⟩
set_option maxHeartbeats 2000000 in
theorem head_more {w : World} {b n : Nat} {l : Hd.L} {s : Hd.S} (h : HdX 0 w b n l s) :
    Calls Tryz.prog 97 #[.pointer (some ⟨b, 0, none⟩)] w fun e w' => e = .returned (.tuple #[agH Hd.none, .int .i64 9]) ∧ Below w.heap.size w w' := by
  obtain ⟨_, nv, f, x, h1, h2, h3, h4⟩ := h
  have hc9 := h1.c9
  have hlt := h1.lt
  clear h1 h2 h3 h4
  unfold agH Hd.none
  go_enter Tryz.func97, Tryz.ntmps97
  go_wp2
  go_returns
  exact ⟨rfl, by go_grown⟩
theorem head_s {w : World} {b n : Nat} {l : Hd.L} {s : Hd.S} (h : HdX (Hd.st s) w b n l s) :
    Calls Tryz.prog 97 #[.pointer (some ⟨b, 0, none⟩)] w fun e w' => e = .returned (.tuple #[agH (Hd.val s).1, .int .i64 (Hd.val s).2]) ∧ Below w.heap.size w w' := by
  have hp5 := h.1.1
  by_cases h4 : s.p = 4
  · have e1 : Hd.st s = 1 := by unfold Hd.st; rw [if_pos h4]
    have e2 : Hd.val s = (Hd.hd s, 0) := by unfold Hd.val; rw [if_pos h4]
    rw [e1] at h
    rw [e2]; exact head_over h
  by_cases h5 : s.p = 5
  · have e1 : Hd.st s = 2 := by unfold Hd.st; rw [if_neg h4, if_pos h5]
    have e2 : Hd.val s = (Hd.none, s.e) := by unfold Hd.val; rw [if_neg h4, if_pos h5]
    rw [e1] at h
    rw [e2]; exact head_wrong h5 h
  · have e2 : Hd.val s = (Hd.none, 9) := by unfold Hd.val; rw [if_neg h4, if_neg h5]
    rw [Hd.st_open (by omega)] at h
    rw [e2]; exact head_more h
end Go.Proofs.YtkjkepnailamnaaGreat
namespace Go.Proofs.YtkjkepnailamnaaGreat
open Go.RowKit
set_option linter.unusedVariables false
set_option maxHeartbeats 2000000 in
theorem hnew_any (a b c : Int) (w : World) :
    Calls Tryz.prog 95 #[.agg #[.int .i64 a, .int .i64 b, .int .i64 c]] w fun e w' => ∃ k, e = .returned (.pointer (some ⟨k, 0, none⟩)) ∧ w.heap.size ≤ k ∧ HdX 0 w' k k (Hd.limits a b c) Hd.new ∧ Below w.heap.size w w' := by
  have hBt : Below w.heap.size w w := .refl _ _
  go_enter Tryz.func95, Tryz.ntmps95
  go_wp2_with fail
  obtain ⟨W, hW⟩ : ∃ W, w.alloc (Obj.cells #[Value.int IntKind.i64 a, Value.int IntKind.i64 b, Value.int IntKind.i64 c] 24) = W := ⟨_, rfl⟩
  have n0 : W.cell? ⟨w.heap.size, 0, none⟩ = some (.int .i64 a) := by rw [← hW]; simp [go_sem]
  have n1 : W.cell? ⟨w.heap.size, 1, none⟩ = some (.int .i64 b) := by rw [← hW]; simp [go_sem]
  have n2 : W.cell? ⟨w.heap.size, 2, none⟩ = some (.int .i64 c) := by rw [← hW]; simp [go_sem]
  have hB0 : Below w.heap.size w W := by rw [← hW]; exact hBt.alloc (Nat.le_refl _) _
  have hBw : Below W.heap.size W W := .refl _ _
  rw [hW]
  clear hW hBt
  go_region_held3 (fun w' => w'.cell? ⟨w.heap.size, 0, none⟩ = some (.int .i64 a) ∧ w'.cell? ⟨w.heap.size, 1, none⟩ = some (.int .i64 b) ∧ w'.cell? ⟨w.heap.size, 2, none⟩ = some (.int .i64 c))
    (first | exact ⟨n0, n1, n2⟩ | exact ⟨cell_later hBw n0, cell_later hBw n1, cell_later hBw n2⟩ | exact ⟨cell_later (hBw.alloc hBw.size _) n0, cell_later (hBw.alloc hBw.size _) n1, cell_later (hBw.alloc hBw.size _) n2⟩)
    (first
      | (go_at_call 132; refine (upTo_any _ _).mono ?_; rintro e w9 ⟨v, rfl, ⟨bk, rfl, hcl⟩, hb9⟩; replace hBw := bel_step (w := W) (by first | exact hBw | exact hBw.drew) hb9)
      | (go_at_call 170; refine (upTo1_any _ _ (by omega) _ _ hcl).mono ?_; rintro e w9 ⟨rfl, rfl⟩))
  all_goals
    go_wp2
    go_ret
    have hBz := hB0.trans (hBw.mono hB0.size)
    exact ⟨_, rfl, hBz.size, ⟨Hd.good_new (Hd.limits_ok a b c), _, _, _, World.alloc_heap_new w9 _, fun h => absurd h (show ¬ (0 : Nat) = 3 by decide), fun _ => rfl, fun h => absurd h (show ¬ (0 : Nat) = 5 by decide)⟩, hBz.alloc hBz.size _⟩
end Go.Proofs.YtkjkepnailamnaaGreat
namespace Go.Proofs.YtkjkepnailamnaaGreat
open Go.RowKit
set_option linter.unusedVariables false
def hcnt (r : Hd.H × Int × Int) : Int := if r.2.2 = 0 then r.2.1 else 0
def HParR (s : ByteArray) (l : Hd.L) (w : World) (e : Ending) (w' : World) : Prop :=
  e = .returned (.tuple #[agH (Hd.parseV l (bytesOf s)).1, .int .i64 (hcnt (Hd.parseV l (bytesOf s))), .int .i64 (Hd.parseV l (bytesOf s)).2.2]) ∧ Below w.heap.size w w'
theorem hpar_fin {s : ByteArray} {l : Hd.L} {w w' : World} {h : Hd.H} {u er n : Int} {val : Value} (hv : Hd.parseV l (bytesOf s) = (h, u, er)) (hn : n = if er = 0 then u else 0) (hval : val = agH h) (hB : Below w.heap.size w w') :
    HParR s l w (.returned (.tuple #[val, .int .i64 n, .int .i64 er])) w' := by
  unfold HParR hcnt
  rw [hv, hn, hval]
  exact ⟨rfl, hB⟩
theorem Sep.bel2 {b n : Nat} {B : Nat} {a w w' : World} (h : Below B a w) (hs : Sep (two b n) w w') (hB : B ≤ w.heap.size) (h1 : B ≤ b) (h2 : B ≤ n) : Below B a w' :=
  h.trans ⟨hs.os, hs.tape, hs.output, hs.size, fun k hk => hs.block k (Nat.lt_of_lt_of_le hk hB) (fun e => e.elim (fun e => by omega) (fun e => by omega))⟩
theorem two_ne {b n k : Nat} (h1 : k ≠ b) (h2 : k ≠ n) : ¬ two b n k := fun e => e.elim h1 h2
set_option maxRecDepth 100000 in
set_option maxHeartbeats 4000000 in
theorem hparse_any (s : ByteArray) (hs : s.size ≤ 100000) (a b c : Int) (w : World) :
    Calls Tryz.prog 57 #[.string s, .agg #[.int .i64 a, .int .i64 b, .int .i64 c]] w (HParR s (Hd.limits a b c) w) := by
  have HL := Lib.hid (Hd.limits_ok a b c)
  go_enter Tryz.func57, Tryz.ntmps57
  go_wp2_with fail
  refine (hnew_any a b c _).mono ?_
  rintro e w1 ⟨k, rfl, hk, hX, hB⟩
  obtain ⟨W, hW⟩ : ∃ W, w.alloc (Obj.cells #[Value.int IntKind.i64 a, Value.int IntKind.i64 b, Value.int IntKind.i64 c] 24) = W := ⟨_, rfl⟩
  have hBW : Below w.heap.size w W := by rw [← hW]; exact (Below.refl _ w).alloc (Nat.le_refl _) _
  have hWz : W.heap.size = w.heap.size + 1 := by rw [← hW]; simp
  rw [hW] at hk hB
  have hH0 := Hb.new W 62 Hd.none
  have HH1 := Lib.hid (hH0.later hB)
  have hB1 : Below w.heap.size w w1 := (hBW.alloc hBW.size (.cells #[.int .i64 0, .int .i64 0, .int .i64 0, .int .i64 0] 62)).trans (hB.mono (by simp; omega))
  obtain ⟨rb, hrb⟩ : ∃ rb, w.heap.size + 1 = rb := ⟨_, rfl⟩
  have hrbk : rb < k := by have : W.heap.size < k := by (have h := hk; simp at h; omega)
                           omega
  have hwk : w.heap.size ≤ k := by omega
  rw [hWz, hrb] at HH1
  have HX1 := Lib.hid hX
  have HB1 := Lib.hid hB1
  obtain ⟨L, hL⟩ : ∃ L, Hd.limits a b c = L := ⟨_, rfl⟩
  rw [hL] at HL HX1
  have HLE := Lib.hid hL
  have HK := Lib.hid hrbk
  have HWK := Lib.hid hwk
  have HWR := Lib.hid (show w.heap.size ≤ rb by omega)
  clear hW hBW hWz hk hB hH0 hB1 hX hL hrbk hwk
  simp only [hrb]
  clear hrb
  go_wp2_with fail
  go_loopw [15] (fun u15 wr => ∃ (i n : Nat) (t : Hd.S), i ≤ s.size ∧ u15 = .int .i64 i ∧ HdX 0 wr k n L t ∧ t.p ≤ 3 ∧ w.heap.size ≤ n ∧ rb ≠ n ∧ Hb wr rb 62 Hd.none ∧ Below w.heap.size w wr ∧ Hd.parseV L (bytesOf s) = Hd.parseF L t i ((bytesOf s).drop i)) (fun u15 _ => s.size - (intOf u15).toNat)
  case atStart => exact ⟨0, k, Hd.new, Nat.zero_le _, rfl, HX1.out, by decide, HWK.out, by have := HK.out; omega, HH1.out, HB1.out, rfl⟩
  case round =>
    obtain ⟨i, n, t, hi1, rfl, hX, hp, hwn, hrn, hH, hB, hV⟩ := hrel
    have hG := hX.1
    have HX := Lib.hid hX
    have HH := Lib.hid hH
    have HB := Lib.hid hB
    have hrk : rb ≠ k := by have := HK.out; omega
    have hwk := HWK.out
    have hwz := HB.out.size
    by_cases hlt : i < s.size
    · rw [bytesOf_drop s i hlt, Hd.parse_cons i _ _ hp] at hV
      have c0 : (0 : Int) ≤ (s[i].toNat : Int) := by omega
      have c1 : (s[i].toNat : Int) ≤ 255 := by have := s[i].toNat_lt; omega
      obtain ⟨t', ht'⟩ : ∃ t', Hd.put L t (s[i].toNat : Int) = t' := ⟨_, rfl⟩
      have HP := hput_any HL.out hG (s[i].toNat : Int) c0 c1 wr k n (by rw [Hd.st_open hp]; exact hX)
      have hG' := Hd.good_put HL.out hG (s[i].toNat : Int)
      rw [ht'] at HP hG' hV
      have hp5 := hG'.1
      have HV : Hid (Hd.parseV L (bytesOf s) = Hd.parseF L t' (i + 1) ((bytesOf s).drop (i + 1))) := hV
      by_cases h4 : t'.p = 4
      · have HV2 : Hid (Hd.parseV L (bytesOf s) = (Hd.hd t', ((i + 1 : Nat) : Int), 0)) := by show _ = _; rw [HV.out, Hd.parse_over _ _ h4]
        have hst : Hd.st t' = 1 := by unfold Hd.st; rw [if_pos h4]
        have hval : Hd.val t' = (Hd.hd t', 0) := by unfold Hd.val; rw [if_pos h4]
        have HPC : Hid (Calls Tryz.prog 96 #[.pointer (some ⟨k, 0, none⟩), .int .u8 (s[i].toNat : Int)] wr fun e w' => ∃ n', e = .returned (.int .i64 1) ∧ HdX (Hd.st t') w' k n' L t' ∧ Sep (two k n) wr w' ∧ (n' = n ∨ wr.heap.size ≤ n')) := HP.mono fun e w' ⟨n', a1, a2⟩ => ⟨n', by rw [a1, hst], a2⟩
        have HHC : Hid (∀ W n', HdX (Hd.st t') W k n' L t' → Calls Tryz.prog 97 #[.pointer (some ⟨k, 0, none⟩)] W fun e w' => e = .returned (.tuple #[agH (Hd.hd t'), .int .i64 0]) ∧ Below W.heap.size W w') := fun W n' h => (head_s h).mono fun e w' hh => ⟨by rw [hh.1, hval], hh.2⟩
        clear HP hG' hV hX hB hH hval hst ht' hG HV h4
        generalize Hd.hd t' = H at HV2 HHC
        unfold agH at HHC
        go_wp2_with fail
        refine HPC.out.mono ?_
        rintro e w2 ⟨n', rfl, hX2, hs2, hn2⟩
        have hB2 := Sep.bel2 HB.out hs2 hwz hwk hwn
        have hH2 := HH.out.sep hs2 (two_ne hrk hrn)
        have HX2 := Lib.hid hX2
        have HB2 := Lib.hid hB2
        have HH2 := Lib.hid hH2
        clear hX2 hs2 hB2 hH2
        go_wp2_with fail
        refine (HHC.out _ _ HX2.out).mono ?_
        rintro e w3 ⟨rfl, hb3⟩
        have HH3 := Lib.hid (HH2.out.later hb3)
        have HB3 := Lib.hid (HB2.out.trans (hb3.mono HB2.out.size))
        obtain ⟨d0, d1, d2, d3⟩ := HH3.out.cells
        obtain ⟨f0, f1, f2, f3⟩ := HH3.out.fr
        have hlt3 := HH3.out.lt
        have hne3 : ¬ rb = w3.heap.size := Nat.ne_of_lt hlt3
        have hii : (i : Int) + 1 ≤ 9223372036854775807 := by omega
        have hwrb := HWR.out
        have hwz3 := HB3.out.size
        clear hb3
        go_wp2
        refine bodyPost_ret (Hj.ret3 Tryz.results57 _ _ _ _ rfl (load_hd ((HH3.out.put H).alloc _))) rfl ?_
        rw [HLE.out]; exact hpar_fin HV2.out (by rw [if_pos rfl]; go_num) rfl (Below.alloc ((((HB3.out.setCell hwrb _).setCell hwrb _).setCell hwrb _).setCell hwrb _) (by simp only [World.size_setCell]; exact hwz3) _)
      by_cases h5 : t'.p = 5
      · have HV2 : Hid (Hd.parseV L (bytesOf s) = (Hd.none, ((i + 1 : Nat) : Int), t'.e)) := by show _ = _; rw [HV.out, Hd.parse_wrong _ _ h5]
        have hst : Hd.st t' = 2 := by unfold Hd.st; rw [if_neg h4, if_pos h5]
        have hval : Hd.val t' = (Hd.none, t'.e) := by unfold Hd.val; rw [if_neg h4, if_pos h5]
        have hez := hG'.2.2.2.2.2.2.1 h5
        have he0 : (t'.e != 0) = true := by simp; omega
        have hen : ¬ t'.e = 0 := by omega
        have HPC : Hid (Calls Tryz.prog 96 #[.pointer (some ⟨k, 0, none⟩), .int .u8 (s[i].toNat : Int)] wr fun e w' => ∃ n', e = .returned (.int .i64 2) ∧ HdX (Hd.st t') w' k n' L t' ∧ Sep (two k n) wr w' ∧ (n' = n ∨ wr.heap.size ≤ n')) := HP.mono fun e w' ⟨n', a1, a2⟩ => ⟨n', by rw [a1, hst], a2⟩
        have HHC : Hid (∀ W n', HdX (Hd.st t') W k n' L t' → Calls Tryz.prog 97 #[.pointer (some ⟨k, 0, none⟩)] W fun e w' => e = .returned (.tuple #[agH Hd.none, .int .i64 t'.e]) ∧ Below W.heap.size W w') := fun W n' h => (head_s h).mono fun e w' hh => ⟨by rw [hh.1, hval], hh.2⟩
        clear HP hG' hV hX hB hH hval hst ht' hG HV h4 hez
        obtain ⟨er, her⟩ : ∃ er, t'.e = er := ⟨_, rfl⟩
        rw [her] at HV2 HHC he0 hen
        have HEN := Lib.hid hen
        clear her hen
        unfold agH Hd.none at HHC
        go_wp2_with fail
        refine HPC.out.mono ?_
        rintro e w2 ⟨n', rfl, hX2, hs2, hn2⟩
        have hB2 := Sep.bel2 HB.out hs2 hwz hwk hwn
        have hH2 := HH.out.sep hs2 (two_ne hrk hrn)
        have HX2 := Lib.hid hX2
        have HB2 := Lib.hid hB2
        have HH2 := Lib.hid hH2
        clear hX2 hs2 hB2 hH2
        go_wp2_with fail
        refine (HHC.out _ _ HX2.out).mono ?_
        rintro e w3 ⟨rfl, hb3⟩
        have HH3 := Lib.hid (HH2.out.later hb3)
        have HB3 := Lib.hid (HB2.out.trans (hb3.mono HB2.out.size))
        obtain ⟨d0, d1, d2, d3⟩ := HH3.out.cells
        obtain ⟨f0, f1, f2, f3⟩ := HH3.out.fr
        have hlt3 := HH3.out.lt
        have hne3 : ¬ rb = w3.heap.size := Nat.ne_of_lt hlt3
        have hwrb := HWR.out
        have hwz3 := HB3.out.size
        clear hb3
        go_wp2
        refine bodyPost_ret (Hj.ret3 Tryz.results57 _ _ _ _ rfl (load_hd ((HH3.out.put Hd.none).alloc _))) rfl ?_
        rw [HLE.out]; exact hpar_fin HV2.out (if_neg HEN.out).symm rfl (Below.alloc ((((HB3.out.setCell hwrb _).setCell hwrb _).setCell hwrb _).setCell hwrb _) (by simp only [World.size_setCell]; exact hwz3) _)
      · have HPC : Hid (Calls Tryz.prog 96 #[.pointer (some ⟨k, 0, none⟩), .int .u8 (s[i].toNat : Int)] wr fun e w' => ∃ n', e = .returned (.int .i64 0) ∧ HdX 0 w' k n' L t' ∧ Sep (two k n) wr w' ∧ (n' = n ∨ wr.heap.size ≤ n')) := HP.mono fun e w' ⟨n', a1, a2⟩ => ⟨n', by rw [a1, Hd.st_open (by omega)], by rw [Hd.st_open (by omega)] at a2; exact a2⟩
        have hp3 : t'.p ≤ 3 := by omega
        clear HP hG' hV hX hB hH ht' hG h4 h5
        go_wp2_with (go_at_call 96; refine HPC.out.mono ?_; rintro e w2 ⟨n', rfl, hX2, hs2, hn2⟩; have HS2 := Lib.hid hs2; have HX2 := Lib.hid hX2; have HN2 := Lib.hid hn2; clear hX2 hs2 hn2)
        go_roundw
        case rel =>
          have hlt3 := HH.out.lt
          exact ⟨i + 1, n', t', by omega, by go_num, HX2.out, hp3, HN2.out.elim (fun e => by omega) (fun e => by omega), HN2.out.elim (fun e => by omega) (fun e => by omega), HH.out.sep HS2.out (two_ne hrk hrn), Sep.bel2 HB.out HS2.out hwz hwk hwn, HV.out⟩
        case measure => simp [intOf]; omega
    · have HV2 : Hid (Hd.parseV L (bytesOf s) = (Hd.none, (i : Int), 6)) := by show _ = _; rw [hV, List.drop_eq_nil_of_le (by rw [bytesOf_length]; omega), Hd.parse_nil _ hp]
      obtain ⟨d0, d1, d2, d3⟩ := hH.cells
      obtain ⟨f0, f1, f2, f3⟩ := hH.fr
      have hwrb := HWR.out
      clear hV hX hB hH hG
      go_wp2
      refine bodyPost_ret (Hj.ret3 Tryz.results57 _ _ _ _ rfl (load_hd (HH.out.put Hd.none))) rfl ?_
      rw [HLE.out]; exact hpar_fin HV2.out (if_neg (by decide)).symm rfl ((((HB.out.setCell hwrb _).setCell hwrb _).setCell hwrb _).setCell hwrb _)
end Go.Proofs.YtkjkepnailamnaaGreat
namespace Go.Proofs.YtkjkepnailamnaaGreat
open Go.RowKit
set_option linter.unusedVariables false
def Nb (w : World) (b : Nat) (k n m e : Int) : Prop := w.heap[b]? = some (.cells #[.int .i64 k, .int .i64 n, .int .i64 m, .int .i64 e] 173 (0, 0))
section
variable {w w' : World} {b : Nat} {k n m e : Int}
theorem Nb.lt (h : Nb w b k n m e) : b < w.heap.size := (Array.getElem?_eq_some_iff.1 h).1
theorem Nb.later (h : Nb w b k n m e) (hb : Below w.heap.size w w') : Nb w' b k n m e := (hb.block b h.lt).trans h
theorem Nb.kept {row : Option Nat} (h : Nb w b k n m e) (hg : w.grownBy w' row) (hne : some b ≠ row) : Nb w' b k n m e := (hg.block b h.lt hne).trans h
theorem Nb.cells (h : Nb w b k n m e) : w.cell? ⟨b, 0, none⟩ = some (.int .i64 k) ∧ w.cell? ⟨b, 1, none⟩ = some (.int .i64 n) ∧ w.cell? ⟨b, 2, none⟩ = some (.int .i64 m) ∧ w.cell? ⟨b, 3, none⟩ = some (.int .i64 e) := by
  have h' : w.heap[b]? = _ := h
  refine ⟨?_, ?_, ?_, ?_⟩ <;> simp [World.cell?, h']
theorem Nb.fr (h : Nb w b k n m e) : w.frozen? ⟨b, 0, none⟩ = false ∧ w.frozen? ⟨b, 1, none⟩ = false ∧ w.frozen? ⟨b, 2, none⟩ = false ∧ w.frozen? ⟨b, 3, none⟩ = false := by
  have h' : w.heap[b]? = _ := h
  refine ⟨?_, ?_, ?_, ?_⟩ <;> simp [World.frozen?, h']
theorem Nb.new (w : World) (k n m e : Int) : Nb (w.alloc (.cells #[.int .i64 k, .int .i64 n, .int .i64 m, .int .i64 e] 173)) w.heap.size k n m e := World.alloc_heap_new w _
theorem Nb.alloc (h : Nb w b k n m e) (o : Obj) : Nb (w.alloc o) b k n m e := h.kept (World.grownBy_alloc w o none) (by simp)
theorem Nb.drew (h : Nb w b k n m e) : Nb w.drew b k n m e := h
theorem Nb.put (h : Nb w b k n m e) (k' n' m' e' : Int) : Nb ((((w.setCell ⟨b, 0, none⟩ (.int .i64 k')).setCell ⟨b, 1, none⟩ (.int .i64 n')).setCell ⟨b, 2, none⟩ (.int .i64 m')).setCell ⟨b, 3, none⟩ (.int .i64 e')) b k' n' m' e' := by
  have h' : w.heap[b]? = _ := h
  have h1 := Go.heap_setCell_same w b 0 _ _ (.int .i64 k') h'
  have h2 := Go.heap_setCell_same _ b 1 _ _ (.int .i64 n') h1
  have h3 := Go.heap_setCell_same _ b 2 _ _ (.int .i64 m') h2
  have h4 := Go.heap_setCell_same _ b 3 _ _ (.int .i64 e') h3
  simpa [Nb] using h4
theorem Nb.set (h : Nb w b k n m e) (a : Addr) (y : Value) (hne : b ≠ a.block) : Nb (w.setCell a y) b k n m e := (Below.heap_setCell w a y b hne).trans h
end
end Go.Proofs.YtkjkepnailamnaaGreat
namespace Go.Proofs.YtkjkepnailamnaaGreat
open Go.RowKit
set_option linter.unusedVariables false
theorem Im.imp {P Q : Prop} (h : P) (f : P → Q) : Q := f h
def Fv (w : World) (b : Nat) (t : TypeId) (v0 v1 v2 v3 v4 : Value) : Prop := w.heap[b]? = some (.cells #[v0, v1, v2, v3, v4] t (0, 0))
section
variable {w w' : World} {b : Nat} {t : TypeId} {v0 v1 v2 v3 v4 : Value}
theorem Fv.lt (hh : Fv w b t v0 v1 v2 v3 v4) : b < w.heap.size := (Array.getElem?_eq_some_iff.1 hh).1
theorem Fv.later (hh : Fv w b t v0 v1 v2 v3 v4) (hb : Below w.heap.size w w') : Fv w' b t v0 v1 v2 v3 v4 := (hb.block b hh.lt).trans hh
theorem Fv.cells (hh : Fv w b t v0 v1 v2 v3 v4) : w.cell? ⟨b, 0, none⟩ = some v0 ∧ w.cell? ⟨b, 1, none⟩ = some v1 ∧ w.cell? ⟨b, 2, none⟩ = some v2 ∧ w.cell? ⟨b, 3, none⟩ = some v3 ∧ w.cell? ⟨b, 4, none⟩ = some v4 := by
  have h' : w.heap[b]? = _ := hh
  refine ⟨?_, ?_, ?_, ?_, ?_⟩ <;> simp [World.cell?, h']
theorem Fv.fr (hh : Fv w b t v0 v1 v2 v3 v4) : w.frozen? ⟨b, 0, none⟩ = false ∧ w.frozen? ⟨b, 1, none⟩ = false ∧ w.frozen? ⟨b, 2, none⟩ = false ∧ w.frozen? ⟨b, 3, none⟩ = false ∧ w.frozen? ⟨b, 4, none⟩ = false := by
  have h' : w.heap[b]? = _ := hh
  refine ⟨?_, ?_, ?_, ?_, ?_⟩ <;> simp [World.frozen?, h']
theorem Fv.new (w : World) (t : TypeId) (v0 v1 v2 v3 v4 : Value) : Fv (w.alloc (.cells #[v0, v1, v2, v3, v4] t)) w.heap.size t v0 v1 v2 v3 v4 := World.alloc_heap_new w _
theorem heap_far {w : World} {a : Addr} {v : Value} {b : Nat} (h : a.block ≠ b) : (w.setCell a v).heap[b]? = w.heap[b]? := by
  simp [World.setCell, h, Array.getElem?_modify]
theorem Fv.far (hh : Fv w b t v0 v1 v2 v3 v4) {a : Addr} (h : a.block ≠ b) (v : Value) : Fv (w.setCell a v) b t v0 v1 v2 v3 v4 := (heap_far h).trans hh
theorem Ib.far {c m W H : Int} {v : Value} (hh : Ib w b t c m W H v) {a : Addr} (h : a.block ≠ b) (x : Value) : Ib (w.setCell a x) b t c m W H v := (heap_far h).trans hh
end
end Go.Proofs.YtkjkepnailamnaaGreat
namespace Go.Proofs.YtkjkepnailamnaaGreat
open Go.RowKit
set_option linter.unusedVariables false
set_option maxHeartbeats 2000000 in
theorem imAs_any (c m W H : Int) (a : Option Addr) (n cap : Nat) (w : World) : Calls Tryz.prog 21 #[agI c m W H (.slice a n cap)] w fun e w' => e = .returned (agI c m W H (.slice a n cap)) ∧ Below w.heap.size w w' := by
  have hB := box2 w (.cells #[.int .i64 c, .int .i64 m, .int .i64 W, .int .i64 H, .slice a n cap] 46) (.cells #[.int .i64 0, .int .i64 0, .int .i64 0, .int .i64 0, .slice none 0 0] 34)
  have X := (Ib.new w 46 c m W H (.slice a n cap)).later (box1 _ (.cells #[.int .i64 0, .int .i64 0, .int .i64 0, .int .i64 0, .slice none 0 0] 34))
  have Z := Ib.new (w.alloc (.cells #[.int .i64 c, .int .i64 m, .int .i64 W, .int .i64 H, .slice a n cap] 46)) 34 0 0 0 0 (.slice none 0 0)
  rw [show (w.alloc (.cells #[.int .i64 c, .int .i64 m, .int .i64 W, .int .i64 H, .slice a n cap] 46)).heap.size = w.heap.size + 1 by simp] at Z
  obtain ⟨W0, hW⟩ : ∃ W0, (w.alloc (.cells #[.int .i64 c, .int .i64 m, .int .i64 W, .int .i64 H, .slice a n cap] 46)).alloc (.cells #[.int .i64 0, .int .i64 0, .int .i64 0, .int .i64 0, .slice none 0 0] 34) = W0 := ⟨_, rfl⟩
  unfold agI
  go_enter Tryz.func21, Tryz.ntmps21
  go_upto_region 1 with fail
  rw [hW] at hB X Z
  try rw [hW]
  clear hW
  have HZ := Lib.hid Z
  obtain ⟨x0, x1, x2, x3, x4⟩ := X.cells
  obtain ⟨z0, z1, z2, z3, z4⟩ := Z.cells
  obtain ⟨f0, f1, f2, f3, f4⟩ := Z.fr
  clear Z X
  go_wp2
  (try simp only [Exit.inBlock, Exit.then])
  refine bodyPost_ret (Hj.ret1 Tryz.results21 _ _ _ _ rfl (load_ri (HZ.out.put c m W H (.slice a n cap)))) rfl ?_
  exact ⟨rfl, ((((hB.setCell (by simp) _).setCell (by simp) _).setCell (by simp) _).setCell (by simp) _).setCell (by simp) _⟩
end Go.Proofs.YtkjkepnailamnaaGreat
