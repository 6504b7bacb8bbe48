/- Whether all numbers of a matrix are pixels of a format, by rect and by the document, over any memory. Condition: numbers fit their kinds. -/
import Derived.Test.YtmnhiagppicegaaGreatZQPixF
import Derived.Test.YtmnhiagppicegaaGreatZgAA
import Derived.Deep.DeepCutAuto
import Derived.Test.YtmnhiagppicegaaGreatZQPixD
import Derived.Test.YtmnhiagppicegaaGreatZRecO
import Derived.Test.YtmnhiagppicegaaGreatZHedN
import Derived.Test.YtmnhiagppicegaaGreatZHedK
import Derived.Test.YtmnhiagppicegaaGreatZgAC
import Derived.Deep.RegionHeld3
import Derived.Test.YtmnhiagppicegaaGreatZBtJ
import Derived.Test.YtmnhiagppicegaaGreatZgAB
import Derived.Stop.RegionWithIn
import Derived.Laws.CopyOwn
import Derived.Laws.Append
import Derived.Deep.AppendSrc
import Derived.Laws.IdiomCopy
import Derived.Room.Entries
import Derived.BigQuiet
import Derived.Deep.QuietTactic
import Derived.Laws.EntriesVeiled
import Derived.Deep.AppendLies
import Derived.Deep.RegionLaw
namespace Go.Proofs.YtmnhiagppicegaaGreat
open Go.RowKit
set_option linter.unusedVariables false

/-- whether all numbers are pixels of a format -/
def fitL (c m : Int) (L : List Int) : Bool := L.all fun p => Pq.Px.fitsV p c m
theorem fitL_cut {c m : Int} {L : List Int} {k : Nat} (hk : k < L.length) (h : fitL c m (L.take k) = true) (e : Pq.Px.fitsV (L.getD k 0) c m = true) : fitL c m (L.take (k + 1)) = true := by
  unfold fitL at *
  rw [List.take_succ_eq_append_getElem hk, List.all_append, h]
  rw [List.getD_eq_getElem?_getD, List.getElem?_eq_getElem hk] at e
  simpa using e
theorem fitL_no {c m : Int} {L : List Int} {k : Nat} (hk : k < L.length) (e : Pq.Px.fitsV (L.getD k 0) c m = false) : fitL c m L = false := by
  unfold fitL
  rw [List.getD_eq_getElem?_getD, List.getElem?_eq_getElem hk] at e
  have e' : Pq.Px.fitsV L[k] c m = false := e
  rw [List.all_eq_false]
  exact ⟨L[k], List.getElem_mem hk, by simp [e']⟩
set_option maxHeartbeats 1000000 in
theorem unfit_any (p c m : Int) (b : Nat) (hU : Pq.Px.U p) (w : World) (h0 : w.cell? ⟨b, 0, none⟩ = some (.int .i64 c)) (h1 : w.cell? ⟨b, 1, none⟩ = some (.int .i64 m)) :
    Calls Tryz.prog 81 #[.int .u64 p, .pointer (some ⟨b, 0, none⟩)] w fun e w' => e = .returned (.bool (!Pq.Px.fitsV p c m)) ∧ Below w.heap.size w w' := by
  have HF := Lib.hid (Pq.fits_any p c m hU)
  generalize Pq.Px.fitsV p c m = r at HF ⊢
  go_enter Tryz.func81, Tryz.ntmps81
  go_wp2_with (go_at_call 82; refine (HF.out _).mono ?_; rintro e w1 ⟨rfl, hb⟩)
  go_ret
  exact ⟨rfl, hb⟩
def AtFit (c m : Int) (L : List Int) (w : World) (e : Ending) (w' : World) : Prop := ∃ j : Int, e = .returned (.int .i64 j) ∧ decide (0 ≤ j) = (!fitL c m L) ∧ Below w.heap.size w w'
set_option maxRecDepth 100000 in
set_option maxHeartbeats 4000000 in
theorem indexP_any (a : Option Addr) (n cap b : Nat) (c m : Int) (L : List Int) (hn : n ≤ 9223372036854775807) (hU : ∀ x ∈ L, Pq.Px.U x) (w : World) (hs : SlK .u64 w a n L) (h0 : w.cell? ⟨b, 0, none⟩ = some (.int .i64 c)) (h1 : w.cell? ⟨b, 1, none⟩ = some (.int .i64 m)) :
    Calls Tryz.prog 130 #[.slice a n cap, .func (.func 81) #[] #[.pointer (some ⟨b, 0, none⟩)]] w (AtFit c m L w) := by
  obtain ⟨hl, hs⟩ := hs
  have HL := Lib.hid hl
  have HU := Lib.hid hU
  have HS := Lib.hid hs
  have H0 := Lib.hid h0
  have H1 := Lib.hid h1
  have en := enters_of Tryz.func81 (by kernel_rfl) rfl
  clear hl hs h0 h1 hU
  go_enter Tryz.func130, Tryz.ntmps130
  go_wp2
  go_loopw [8] (fun s8 wr => ∃ j : Nat, j ≤ n ∧ s8 = .int .i64 j ∧ Below w.heap.size w wr ∧ Hid (fitL c m (L.take j) = true)) (fun s8 _ => n - (intOf s8).toNat)
  case atStart => exact ⟨0, Nat.zero_le _, rfl, Below.refl _ _, rfl⟩
  case round =>
    obtain ⟨j, hj, rfl, hB, hA⟩ := hrel
    by_cases hlt : j < n
    · have hltI : (j : Int) < (n : Int) := by omega
      obtain ⟨blk, off, ha, hcell⟩ : ∃ blk off, a = some ⟨blk, off, none⟩ ∧ w.cell? ⟨blk, off + j, none⟩ = some (.int .u64 (L.getD j 0)) := by
        rcases HS.out with h | ⟨blk, off, h, hc⟩
        · omega
        · exact ⟨blk, off, h, hc j hlt⟩
      have hjl : j < L.length := by rw [HL.out]; exact hlt
      have hxm : L.getD j 0 ∈ L := by rw [List.getD_eq_getElem?_getD, List.getElem?_eq_getElem hjl]; exact List.getElem_mem _
      have hxU := HU.out _ hxm
      have hcl := unfit_any (L.getD j 0) c m b hxU wr (cell_later hB H0.out) (cell_later hB H1.out)
      have hcw := cell_later hB hcell
      obtain ⟨r, hr⟩ : ∃ r, Pq.Px.fitsV (L.getD j 0) c m = r := ⟨_, rfl⟩
      rw [hr] at hcl
      have HR := Lib.hid hr
      obtain ⟨x, hx⟩ : ∃ x, L.getD j 0 = x := ⟨_, rfl⟩
      rw [hx] at hcl hcw
      have HC := Lib.hid hcl
      clear hcl hr hx hcell hxm hxU
      cases r with
      | true =>
        have HN := Lib.hid (fitL_cut hjl hA.out HR.out)
        subst ha
        go_wp2_with fail
        refine HC.out.mono ?_
        rintro e w9 ⟨rfl, hb9⟩
        have hB9 := hB.trans (hb9.mono hB.size)
        go_wp2
        go_roundw
        case rel => exact ⟨j + 1, by omega, by go_num, hB9, HN.out⟩
        case measure => simp [intOf]; omega
      | false =>
        have HN := Lib.hid (fitL_no hjl HR.out)
        subst ha
        go_wp2_with fail
        refine HC.out.mono ?_
        rintro e w9 ⟨rfl, hb9⟩
        have hB9 := hB.trans (hb9.mono hB.size)
        go_wp2
        go_ret
        exact ⟨j, rfl, by rw [HN.out]; simp, hB9⟩
    · have hltI : ¬ (j : Int) < (n : Int) := by omega
      have HN : Hid (fitL c m L = true) := by
        show _ = _
        have h := hA.out
        rwa [List.take_of_length_le (by rw [HL.out]; omega)] at h
      go_wp2
      go_ret
      exact ⟨-1, rfl, by rw [HN.out]; decide, hB⟩

set_option maxHeartbeats 1000000 in
theorem containsP_any (a : Option Addr) (n cap b : Nat) (c m : Int) (L : List Int) (hn : n ≤ 9223372036854775807) (hU : ∀ x ∈ L, Pq.Px.U x) (w : World) (hs : SlK .u64 w a n L) (h0 : w.cell? ⟨b, 0, none⟩ = some (.int .i64 c)) (h1 : w.cell? ⟨b, 1, none⟩ = some (.int .i64 m)) :
    Calls Tryz.prog 84 #[.slice a n cap, .func (.func 81) #[] #[.pointer (some ⟨b, 0, none⟩)]] w fun e w' => e = .returned (.bool (!fitL c m L)) ∧ Below w.heap.size w w' := by
  have HC := Lib.hid (indexP_any a n cap b c m L hn hU w hs h0 h1)
  clear hU hs h0 h1
  go_enter Tryz.func84, Tryz.ntmps84
  go_wp2_with fail
  refine HC.out.mono ?_
  rintro e w1 ⟨j, rfl, hj, hb⟩
  have HJ := Lib.hid hj
  clear hj
  go_wp2
  go_ret
  exact ⟨ret_bR HJ.out, hb⟩
set_option maxHeartbeats 2000000 in
theorem fitsM_any (W H : Int) (a : Option Addr) (n cap : Nat) (c m : Int) (L : List Int) (hn : n ≤ 9223372036854775807) (hU : ∀ x ∈ L, Pq.Px.U x) (w : World) (hs : SlK .u64 w a n L) :
    Calls Tryz.prog 48 #[.agg #[.int .i64 W, .int .i64 H, .slice a n cap], .agg #[.int .i64 c, .int .i64 m]] w fun e w' => e = .returned (.bool (Rc.mayV W H n && fitL c m L)) ∧ Below w.heap.size w w' := by
  have B1 := box1 w (.cells #[.int .i64 W, .int .i64 H, .slice a n cap] 38)
  obtain ⟨W1, hW1⟩ : ∃ W1, w.alloc (.cells #[.int .i64 W, .int .i64 H, .slice a n cap] 38) = W1 := ⟨_, rfl⟩
  have B2 := box1 W1 (.cells #[.int .i64 c, .int .i64 m] 28)
  have hz1 : W1.heap.size = w.heap.size + 1 := by rw [← hW1]; simp
  have X := Sb.new w 38 (.int .i64 W) (.int .i64 H) (.slice a n cap)
  rw [hW1] at B1 X
  have X2 := X.later B2
  have c0 : (W1.alloc (.cells #[.int .i64 c, .int .i64 m] 28)).cell? ⟨W1.heap.size, 0, none⟩ = some (.int .i64 c) := by simp [go_sem]
  have c1 : (W1.alloc (.cells #[.int .i64 c, .int .i64 m] 28)).cell? ⟨W1.heap.size, 1, none⟩ = some (.int .i64 m) := by simp [go_sem]
  have HS := Lib.hid ((hs.below B1).below B2)
  have HB := Lib.hid (B1.trans (B2.mono B1.size))
  have HU := Lib.hid hU
  have HW1 := Lib.hid hW1
  obtain ⟨W2, hW2⟩ : ∃ W2, W1.alloc (.cells #[.int .i64 c, .int .i64 m] 28) = W2 := ⟨_, rfl⟩
  rw [hW2] at c0 c1 HS HB X2
  rw [hz1] at c0 c1
  have HW2 := Lib.hid hW2
  have HX := Lib.hid X2
  have HC0 := Lib.hid c0
  have HC1 := Lib.hid c1
  clear hs B1 B2 X X2 hU c0 c1 hW1 hW2 hz1
  obtain ⟨r, hr⟩ : ∃ r, Rc.mayV W H n = r := ⟨_, rfl⟩
  have HM := may_any W H a n cap hn
  rw [hr] at HM ⊢
  have HM' := Lib.hid HM
  clear HM hr
  go_enter Tryz.func48, Tryz.ntmps48
  go_upto_region 2 with (fail)
  rw [HW1.out, HW2.out]
  obtain ⟨x0, x1, x2⟩ := HX.out.cells
  cases r with
  | true =>
    go_wp2_with fail
    refine (HM'.out _).mono ?_
    rintro e w3 ⟨rfl, hb3⟩
    have HB3 := Lib.hid (HB.out.trans (hb3.mono HB.out.size))
    have HC := Lib.hid (containsP_any a n cap (w.heap.size + 1) c m L hn HU.out w3 (HS.out.below hb3) (cell_later hb3 HC0.out) (cell_later hb3 HC1.out))
    obtain ⟨y0, y1, y2⟩ := (HX.out.later hb3).cells
    clear x0 x1 x2 hb3
    go_wp2_with fail
    refine HC.out.mono ?_
    rintro e w4 ⟨rfl, hb4⟩
    have HB4 := Lib.hid (HB3.out.trans (hb4.mono HB3.out.size))
    clear hb4
    go_wp2
    go_ret
    exact ⟨ret_bR (by simp), HB4.out⟩
  | false =>
    go_wp2_with (go_at_call 83; refine (HM'.out _).mono ?_; rintro e w3 ⟨rfl, hb3⟩; have HB3 := Lib.hid (HB.out.trans (hb3.mono HB.out.size)); clear hb3)
    go_ret
    exact ⟨ret_bR (by simp), HB3.out⟩
end Go.Proofs.YtmnhiagppicegaaGreat

/- Whether all numbers of a matrix are pixels of a format, by the document, over any memory. Condition: numbers fit their kinds. -/
namespace Go.Proofs.YtmnhiagppicegaaGreat
open Go.RowKit
set_option linter.unusedVariables false

theorem fit_drew {w w9 : World} (h : Below w.drew.heap.size w.drew w9) : Below w.heap.size w w9 := Below.trans (b := w.drew) ⟨rfl, rfl, rfl, Nat.le_refl _, fun _ _ => rfl⟩ h
set_option maxRecDepth 100000 in
set_option maxHeartbeats 4000000 in
theorem refFitsM_any (W H : Int) (a : Option Addr) (n cap : Nat) (c m : Int) (L : List Int) (hn : n ≤ 9223372036854775807) (hU : ∀ x ∈ L, Pq.Px.U x) (w : World) (hs : SlK .u64 w a n L) :
    Calls Tryz.prog 49 #[.agg #[.int .i64 W, .int .i64 H, .slice a n cap], .agg #[.int .i64 c, .int .i64 m]] w fun e w' => e = .returned (.bool (Rc.mayV W H n && fitL c m L)) ∧ Below w.heap.size w w' := by
  have B1 := box1 w (.cells #[.int .i64 W, .int .i64 H, .slice a n cap] 31)
  obtain ⟨W1, hW1⟩ : ∃ W1, w.alloc (.cells #[.int .i64 W, .int .i64 H, .slice a n cap] 31) = W1 := ⟨_, rfl⟩
  have B2 := box1 W1 (.cells #[.int .i64 c, .int .i64 m] 28)
  have hz1 : W1.heap.size = w.heap.size + 1 := by rw [← hW1]; simp
  have X := Sb.new w 31 (.int .i64 W) (.int .i64 H) (.slice a n cap)
  rw [hW1] at B1 X
  have X2 := X.later B2
  have c0 : (W1.alloc (.cells #[.int .i64 c, .int .i64 m] 28)).cell? ⟨W1.heap.size, 0, none⟩ = some (.int .i64 c) := by simp [go_sem]
  have c1 : (W1.alloc (.cells #[.int .i64 c, .int .i64 m] 28)).cell? ⟨W1.heap.size, 1, none⟩ = some (.int .i64 m) := by simp [go_sem]
  have HS := Lib.hid ((hs.below B1).below B2)
  have HL := Lib.hid hs.1
  have HB := Lib.hid (B1.trans (B2.mono B1.size))
  have HU := Lib.hid hU
  have HW1 := Lib.hid hW1
  obtain ⟨W2, hW2⟩ : ∃ W2, W1.alloc (.cells #[.int .i64 c, .int .i64 m] 28) = W2 := ⟨_, rfl⟩
  rw [hW2] at c0 c1 HS HB X2
  rw [hz1] at c0 c1
  have HW2 := Lib.hid hW2
  have HX := Lib.hid X2
  have HC0 := Lib.hid c0
  have HC1 := Lib.hid c1
  clear hs B1 B2 X X2 hU c0 c1 hW1 hW2 hz1
  obtain ⟨r, hr⟩ : ∃ r, Rc.mayV W H n = r := ⟨_, rfl⟩
  have HM := refMayM_any W H a n cap hn
  rw [hr] at HM ⊢
  have HM' := Lib.hid HM
  clear HM hr
  go_enter Tryz.func49, Tryz.ntmps49
  go_upto_region 1 with (fail)
  rw [HW1.out, HW2.out]
  obtain ⟨x0, x1, x2⟩ := HX.out.cells
  cases r with
  | false =>
    go_wp2_with (go_at_call 85; refine (HM'.out _).mono ?_; rintro e w3 ⟨rfl, hb3⟩; have HB3 := Lib.hid (HB.out.trans (hb3.mono HB.out.size)); clear hb3)
    go_ret
    exact ⟨ret_bR (by simp), HB3.out⟩
  | true =>
    go_wp2_with fail
    refine (HM'.out _).mono ?_
    rintro e w3 ⟨rfl, hb3⟩
    have HB3 := Lib.hid (HB.out.trans (hb3.mono HB.out.size))
    have HS3 := Lib.hid (HS.out.below hb3)
    have HX3 := Lib.hid (HX.out.later hb3)
    have HD0 := Lib.hid (cell_later hb3 HC0.out)
    have HD1 := Lib.hid (cell_later hb3 HC1.out)
    clear x0 x1 x2 hb3
    go_wp2_with fail
    go_loopw [6] (fun s6 wr => ∃ j : Nat, j ≤ n ∧ s6 = .int .i64 j ∧ Below w3.heap.size w3 wr ∧ Hid (fitL c m (L.take j) = true)) (fun s6 _ => n - (intOf s6).toNat)
    case atStart => exact ⟨0, Nat.zero_le _, rfl, Below.refl _ _, rfl⟩
    case round =>
      obtain ⟨j, hj, rfl, hB, hA⟩ := hrel
      obtain ⟨x0, x1, x2⟩ := (HX3.out.later hB).cells
      by_cases hlt : j < n
      · have hltI : (j : Int) < (n : Int) := by omega
        have hj0 : (0 : Int) ≤ (j : Int) := by omega
        obtain ⟨blk, off, ha, hcell⟩ : ∃ blk off, a = some ⟨blk, off, none⟩ ∧ w3.cell? ⟨blk, off + j, none⟩ = some (.int .u64 (L.getD j 0)) := by
          rcases HS3.out.2 with h | ⟨blk, off, h, hc⟩
          · omega
          · exact ⟨blk, off, h, hc j hlt⟩
        have hjl : j < L.length := by rw [HL.out]; exact hlt
        have hxm : L.getD j 0 ∈ L := by rw [List.getD_eq_getElem?_getD, List.getElem?_eq_getElem hjl]; exact List.getElem_mem _
        have hxU := HU.out _ hxm
        have hcl := Pq.refFits_any (L.getD j 0) c m hxU
        have hcw := cell_later hB hcell
        have y0 := cell_later hB HD0.out
        have y1 := cell_later hB HD1.out
        obtain ⟨r, hr⟩ : ∃ r, Pq.Px.fitsV (L.getD j 0) c m = r := ⟨_, rfl⟩
        rw [hr] at hcl
        have HR := Lib.hid hr
        obtain ⟨x, hx⟩ : ∃ x, L.getD j 0 = x := ⟨_, rfl⟩
        rw [hx] at hcl hcw
        have HC := Lib.hid hcl
        have HBj := Lib.hid hB
        clear hcl hr hx hcell hxm hxU hB
        subst ha
        cases r with
        | true =>
          have HN := Lib.hid (fitL_cut hjl hA.out HR.out)
          go_wp2_with fail
          go_region_held3 (fun w' => w'.cell? ⟨w.heap.size, 2, none⟩ = some (.slice (some ⟨blk, off, none⟩) n cap) ∧ w'.cell? ⟨blk, off + j, none⟩ = some (.int .u64 x) ∧ w'.cell? ⟨w.heap.size + 1, 0, none⟩ = some (.int .i64 c) ∧ w'.cell? ⟨w.heap.size + 1, 1, none⟩ = some (.int .i64 m))
            (first | exact ⟨x2, hcw, y0, y1⟩ | exact ⟨cell_later hb9 x2, cell_later hb9 hcw, cell_later hb9 y0, cell_later hb9 y1⟩)
            (first
              | (go_at_call 63; refine (HC.out _).mono ?_; rintro e w9 ⟨rfl, hb9⟩; have HB9 := Lib.hid (HBj.out.trans (Below.mono (fit_drew hb9) HBj.out.size))))
          all_goals
            go_wp2
            go_roundw
            case rel => exact ⟨j + 1, by omega, by go_num, HB9.out, HN.out⟩
            case measure => simp [intOf]; omega
        | false =>
          have HN := Lib.hid (fitL_no hjl HR.out)
          go_wp2_with fail
          go_region_held3 (fun w' => w'.cell? ⟨w.heap.size, 2, none⟩ = some (.slice (some ⟨blk, off, none⟩) n cap) ∧ w'.cell? ⟨blk, off + j, none⟩ = some (.int .u64 x) ∧ w'.cell? ⟨w.heap.size + 1, 0, none⟩ = some (.int .i64 c) ∧ w'.cell? ⟨w.heap.size + 1, 1, none⟩ = some (.int .i64 m))
            (first | exact ⟨x2, hcw, y0, y1⟩ | exact ⟨cell_later hb9 x2, cell_later hb9 hcw, cell_later hb9 y0, cell_later hb9 y1⟩)
            (first
              | (go_at_call 63; refine (HC.out _).mono ?_; rintro e w9 ⟨rfl, hb9⟩; have HB9 := Lib.hid (HBj.out.trans (Below.mono (fit_drew hb9) HBj.out.size))))
          all_goals
            go_wp2
            go_ret
            exact ⟨ret_bR (by simp [HN.out]), HB3.out.trans (HB9.out.mono HB3.out.size)⟩
      · have hltI : ¬ (j : Int) < (n : Int) := by omega
        have HN : Hid (fitL c m L = true) := by
          show _ = _
          have h := hA.out
          rwa [List.take_of_length_le (by rw [HL.out]; omega)] at h
        go_wp2
        go_ret
        exact ⟨ret_bR (by simp [HN.out]), HB3.out.trans (hB.mono HB3.out.size)⟩
end Go.Proofs.YtmnhiagppicegaaGreat

/- An image in five cells of a block; whether it may be, whether two are the same, where one is in another one: of image and of the document, over any memory. Condition: the rows are no longer than the pixels told. -/
namespace Go.Proofs.YtmnhiagppicegaaGreat
open Go.RowKit
set_option linter.unusedVariables false

/-- an image, as a value -/
def agI (c m W H : Int) (v : Value) : Value := .agg #[.int .i64 c, .int .i64 m, .int .i64 W, .int .i64 H, v]
/-- five cells in a block of the call's own -/
def Ib (w : World) (b : Nat) (t : TypeId) (c m W H : Int) (v : Value) : Prop := w.heap[b]? = some (.cells #[.int .i64 c, .int .i64 m, .int .i64 W, .int .i64 H, v] t (0, 0))
section
variable {w w' : World} {b : Nat} {t : TypeId} {c m W H : Int} {v : Value}
theorem Ib.lt (hh : Ib w b t c m W H v) : b < w.heap.size := (Array.getElem?_eq_some_iff.1 hh).1
theorem Ib.later (hh : Ib w b t c m W H v) (hb : Below w.heap.size w w') : Ib w' b t c m W H v := (hb.block b hh.lt).trans hh
theorem Ib.sep {Z : Nat → Prop} (hh : Ib w b t c m W H v) (hs : Sep Z w w') (hz : ¬ Z b) : Ib w' b t c m W H v := (hs.block b hh.lt hz).trans hh
theorem Ib.cells (hh : Ib w b t c m W H v) : w.cell? ⟨b, 0, none⟩ = some (.int .i64 c) ∧ w.cell? ⟨b, 1, none⟩ = some (.int .i64 m) ∧ w.cell? ⟨b, 2, none⟩ = some (.int .i64 W) ∧ w.cell? ⟨b, 3, none⟩ = some (.int .i64 H) ∧ w.cell? ⟨b, 4, none⟩ = some v := by
  have h' : w.heap[b]? = _ := hh
  refine ⟨?_, ?_, ?_, ?_, ?_⟩ <;> simp [World.cell?, h']
theorem Ib.fr (hh : Ib w b t c m W H v) : w.frozen? ⟨b, 0, none⟩ = false ∧ w.frozen? ⟨b, 1, none⟩ = false ∧ w.frozen? ⟨b, 2, none⟩ = false ∧ w.frozen? ⟨b, 3, none⟩ = false ∧ w.frozen? ⟨b, 4, none⟩ = false := by
  have h' : w.heap[b]? = _ := hh
  refine ⟨?_, ?_, ?_, ?_, ?_⟩ <;> simp [World.frozen?, h']
theorem Ib.new (w : World) (t : TypeId) (c m W H : Int) (v : Value) : Ib (w.alloc (.cells #[.int .i64 c, .int .i64 m, .int .i64 W, .int .i64 H, v] t)) w.heap.size t c m W H v := World.alloc_heap_new w _
theorem Ib.put (hh : Ib w b t c m W H v) (c' m' W' H' : Int) (v' : Value) : Ib (((((w.setCell ⟨b, 0, none⟩ (.int .i64 c')).setCell ⟨b, 1, none⟩ (.int .i64 m')).setCell ⟨b, 2, none⟩ (.int .i64 W')).setCell ⟨b, 3, none⟩ (.int .i64 H')).setCell ⟨b, 4, none⟩ v') b t c' m' W' H' v' := by
  have h' : w.heap[b]? = _ := hh
  have h1 := Go.heap_setCell_same w b 0 _ _ (.int .i64 c') h'
  have h2 := Go.heap_setCell_same _ b 1 _ _ (.int .i64 m') h1
  have h3 := Go.heap_setCell_same _ b 2 _ _ (.int .i64 W') h2
  have h4 := Go.heap_setCell_same _ b 3 _ _ (.int .i64 H') h3
  have h5 := Go.heap_setCell_same _ b 4 _ _ v' h4
  simpa [Ib] using h5
end
theorem load_im {w : World} {b : Nat} {t : TypeId} {c m W H : Int} {v : Value} (hh : Ib w b t c m W H v) : (loadVar 40 ⟨b, 0, none⟩).run Tryz.prog w = .ok (agI c m W H v) w := by
  obtain ⟨h0, h1, h2, h3, h4⟩ := hh.cells
  simp [go_sem, h0, h1, h2, h3, h4, agI]
theorem load_ri {w : World} {b : Nat} {t : TypeId} {c m W H : Int} {v : Value} (hh : Ib w b t c m W H v) : (loadVar 33 ⟨b, 0, none⟩).run Tryz.prog w = .ok (agI c m W H v) w := by
  obtain ⟨h0, h1, h2, h3, h4⟩ := hh.cells
  simp [go_sem, h0, h1, h2, h3, h4, agI]
/-- may it be -/
def Im.mayV (c m W H : Int) (n : Nat) (L : List Int) : Bool := Rc.mayV W H n && fitL c m L
theorem imMay_any (c m W H : Int) (a : Option Addr) (n cap : Nat) (L : List Int) (hn : n ≤ 9223372036854775807) (hU : ∀ x ∈ L, Pq.Px.U x) (w : World) (hs : SlK .u64 w a n L) :
    Calls Tryz.prog 12 #[agI c m W H (.slice a n cap)] w fun e w' => e = .returned (.bool (Im.mayV c m W H n L)) ∧ Below w.heap.size w w' := by
  have B := box1 w (.cells #[.int .i64 c, .int .i64 m, .int .i64 W, .int .i64 H, .slice a n cap] 40)
  have HF := Lib.hid (fitsM_any W H a n cap c m L hn hU _ (hs.below B))
  unfold agI Im.mayV
  go_enter Tryz.func12, Tryz.ntmps12
  go_wp2_with (go_at_call 48; refine HF.out.mono ?_; rintro e w1 ⟨rfl, hb⟩; replace B := bel_step B hb)
  go_ret
  exact ⟨rfl, B⟩
theorem refImMay_any (c m W H : Int) (a : Option Addr) (n cap : Nat) (L : List Int) (hn : n ≤ 9223372036854775807) (hU : ∀ x ∈ L, Pq.Px.U x) (w : World) (hs : SlK .u64 w a n L) :
    Calls Tryz.prog 14 #[agI c m W H (.slice a n cap)] w fun e w' => e = .returned (.bool (Im.mayV c m W H n L)) ∧ Below w.heap.size w w' := by
  have B := box1 w (.cells #[.int .i64 c, .int .i64 m, .int .i64 W, .int .i64 H, .slice a n cap] 33)
  have HF := Lib.hid (refFitsM_any W H a n cap c m L hn hU _ (hs.below B))
  unfold agI Im.mayV
  go_enter Tryz.func14, Tryz.ntmps14
  go_wp2_with (go_at_call 49; refine HF.out.mono ?_; rintro e w1 ⟨rfl, hb⟩; replace B := bel_step B hb)
  go_ret
  exact ⟨rfl, B⟩
/-- are two the same -/
def Im.sameV (c m W H : Int) (L : List Int) (c' m' W' H' : Int) (M : List Int) : Bool := Hj.same2 c m c' m' && (decide (W = W') && (decide (H = H') && decide (L = M)))
theorem Im.same_self (c m W H : Int) (L : List Int) : Im.sameV c m W H L c m W H L = true := by simp [Im.sameV, Hj.same2_self]
theorem imSame_any (c m W H c' m' W' H' : Int) (a a2 : Option Addr) (n k cap cap2 : Nat) (L M : List Int) (w : World) (hn : n ≤ 9223372036854775807) (ha : SlK .u64 w a n L) (hb : SlK .u64 w a2 k M) :
    Calls Tryz.prog 22 #[agI c m W H (.slice a n cap), agI c' m' W' H' (.slice a2 k cap2)] w fun e w' => e = .returned (.bool (Im.sameV c m W H L c' m' W' H' M)) ∧ Below w.heap.size w w' := by
  have B := box2 w (.cells #[.int .i64 c, .int .i64 m, .int .i64 W, .int .i64 H, .slice a n cap] 40) (.cells #[.int .i64 c', .int .i64 m', .int .i64 W', .int .i64 H', .slice a2 k cap2] 40)
  have HF := Lib.hid (same_any W H W' H' a a2 n k cap cap2 L M _ hn (ha.below B) (hb.below B))
  have E := feq_run c m c' m'
  have G := feq_guard
  unfold agI Im.sameV
  clear ha hb
  obtain ⟨q, hq⟩ : ∃ q, Hj.same2 c m c' m' = q := ⟨_, rfl⟩
  rw [hq] at E ⊢
  cases q with
  | true =>
    go_enter Tryz.func22, Tryz.ntmps22
    go_wp2_with (go_at_call 61; refine HF.out.mono ?_; rintro e w1 ⟨rfl, hb⟩; replace B := bel_step B hb)
    go_ret
    exact ⟨by simp, B⟩
  | false =>
    go_enter Tryz.func22, Tryz.ntmps22
    go_wp2_with fail
    go_ret
    exact ⟨by simp, B⟩
theorem refImSame_any (c m W H c' m' W' H' : Int) (a a2 : Option Addr) (n k cap cap2 : Nat) (L M : List Int) (w : World) (hn : n ≤ 9223372036854775807) (ha : SlK .u64 w a n L) (hb : SlK .u64 w a2 k M) :
    Calls Tryz.prog 20 #[agI c m W H (.slice a n cap), agI c' m' W' H' (.slice a2 k cap2)] w fun e w' => e = .returned (.bool (Im.sameV c m W H L c' m' W' H' M)) ∧ Below w.heap.size w w' := by
  have B := box2 w (.cells #[.int .i64 c, .int .i64 m, .int .i64 W, .int .i64 H, .slice a n cap] 33) (.cells #[.int .i64 c', .int .i64 m', .int .i64 W', .int .i64 H', .slice a2 k cap2] 33)
  have HF := Lib.hid (refSame_any W H W' H' a a2 n k cap cap2 L M _ hn (ha.below B) (hb.below B))
  have E := feq_run c m c' m'
  have G := feq_guard
  have X1 := (Ib.new w 33 c m W H (.slice a n cap)).later (box1 _ (.cells #[.int .i64 c', .int .i64 m', .int .i64 W', .int .i64 H', .slice a2 k cap2] 33))
  have X2 := Ib.new (w.alloc (.cells #[.int .i64 c, .int .i64 m, .int .i64 W, .int .i64 H, .slice a n cap] 33)) 33 c' m' W' H' (.slice a2 k cap2)
  rw [show (w.alloc (.cells #[.int .i64 c, .int .i64 m, .int .i64 W, .int .i64 H, .slice a n cap] 33)).heap.size = w.heap.size + 1 by simp] at X2
  have HX1 := Lib.hid X1
  have HX2 := Lib.hid X2
  unfold agI Im.sameV
  clear ha hb X1 X2
  obtain ⟨q, hq⟩ : ∃ q, Hj.same2 c m c' m' = q := ⟨_, rfl⟩
  rw [hq] at E ⊢
  obtain ⟨r, hr⟩ : ∃ r, (decide (W = W') && (decide (H = H') && decide (L = M))) = r := ⟨_, rfl⟩
  rw [hr] at HF ⊢
  cases r with
  | true =>
    go_enter Tryz.func20, Tryz.ntmps20
    go_wp2_with (go_at_call 60; refine HF.out.mono ?_; rintro e w1 ⟨rfl, hb⟩; replace B := bel_step B hb; obtain ⟨x0, x1, _⟩ := (HX1.out.later hb).cells; obtain ⟨y0, y1, _⟩ := (HX2.out.later hb).cells)
    go_ret
    exact ⟨by simp, B⟩
  | false =>
    go_enter Tryz.func20, Tryz.ntmps20
    go_wp2_with (go_at_call 60; refine HF.out.mono ?_; rintro e w1 ⟨rfl, hb⟩; replace B := bel_step B hb; obtain ⟨x0, x1, _⟩ := (HX1.out.later hb).cells; obtain ⟨y0, y1, _⟩ := (HX2.out.later hb).cells)
    go_ret
    exact ⟨by simp, B⟩
end Go.Proofs.YtmnhiagppicegaaGreat

/- Five cells of any kind in a block of the call's own; what is not in a block that is stored into. No condition. -/
namespace Go.Proofs.YtmnhiagppicegaaGreat
open Go.RowKit
set_option linter.unusedVariables false
theorem Im.imp {P Q : Prop} (h : P) (f : P → Q) : Q := f h
def Fv (w : World) (b : Nat) (t : TypeId) (v0 v1 v2 v3 v4 : Value) : Prop := w.heap[b]? = some (.cells #[v0, v1, v2, v3, v4] t (0, 0))
section
variable {w w' : World} {b : Nat} {t : TypeId} {v0 v1 v2 v3 v4 : Value}
theorem Fv.lt (hh : Fv w b t v0 v1 v2 v3 v4) : b < w.heap.size := (Array.getElem?_eq_some_iff.1 hh).1
theorem Fv.later (hh : Fv w b t v0 v1 v2 v3 v4) (hb : Below w.heap.size w w') : Fv w' b t v0 v1 v2 v3 v4 := (hb.block b hh.lt).trans hh
theorem Fv.cells (hh : Fv w b t v0 v1 v2 v3 v4) : w.cell? ⟨b, 0, none⟩ = some v0 ∧ w.cell? ⟨b, 1, none⟩ = some v1 ∧ w.cell? ⟨b, 2, none⟩ = some v2 ∧ w.cell? ⟨b, 3, none⟩ = some v3 ∧ w.cell? ⟨b, 4, none⟩ = some v4 := by
  have h' : w.heap[b]? = _ := hh
  refine ⟨?_, ?_, ?_, ?_, ?_⟩ <;> simp [World.cell?, h']
theorem Fv.fr (hh : Fv w b t v0 v1 v2 v3 v4) : w.frozen? ⟨b, 0, none⟩ = false ∧ w.frozen? ⟨b, 1, none⟩ = false ∧ w.frozen? ⟨b, 2, none⟩ = false ∧ w.frozen? ⟨b, 3, none⟩ = false ∧ w.frozen? ⟨b, 4, none⟩ = false := by
  have h' : w.heap[b]? = _ := hh
  refine ⟨?_, ?_, ?_, ?_, ?_⟩ <;> simp [World.frozen?, h']
theorem Fv.new (w : World) (t : TypeId) (v0 v1 v2 v3 v4 : Value) : Fv (w.alloc (.cells #[v0, v1, v2, v3, v4] t)) w.heap.size t v0 v1 v2 v3 v4 := World.alloc_heap_new w _
theorem Fv.set0 (hh : Fv w b t v0 v1 v2 v3 v4) (v : Value) : Fv (w.setCell ⟨b, 0, none⟩ v) b t v v1 v2 v3 v4 := by
  have h' : w.heap[b]? = _ := hh
  simpa [Fv] using Go.heap_setCell_same w b 0 _ _ v h'
theorem Fv.set1 (hh : Fv w b t v0 v1 v2 v3 v4) (v : Value) : Fv (w.setCell ⟨b, 1, none⟩ v) b t v0 v v2 v3 v4 := by
  have h' : w.heap[b]? = _ := hh
  simpa [Fv] using Go.heap_setCell_same w b 1 _ _ v h'
theorem heap_far {w : World} {a : Addr} {v : Value} {b : Nat} (h : a.block ≠ b) : (w.setCell a v).heap[b]? = w.heap[b]? := by
  simp [World.setCell, h, Array.getElem?_modify]
theorem Fv.far (hh : Fv w b t v0 v1 v2 v3 v4) {a : Addr} (h : a.block ≠ b) (v : Value) : Fv (w.setCell a v) b t v0 v1 v2 v3 v4 := (heap_far h).trans hh
theorem Ib.far {c m W H : Int} {v : Value} (hh : Ib w b t c m W H v) {a : Addr} (h : a.block ≠ b) (x : Value) : Ib (w.setCell a x) b t c m W H v := (heap_far h).trans hh
end
end Go.Proofs.YtmnhiagppicegaaGreat

/- Which kinds may tell images of a format: of image and of the document, over any memory. Condition: the numbers fit. -/
namespace Go.Proofs.YtmnhiagppicegaaGreat
open Go.RowKit
set_option linter.unusedVariables false

/-- may a head tell pixels of a format -/
def Im.tellsV (h : Hd.H) (c m : Int) : Bool := decide (Hd.May h) && Hj.same2 (Hj.chan h) h.m c m
/-- may a kind -/
def Im.tellK (c m k : Int) : Bool := Im.tellsV ⟨k, 1, 1, m⟩ c m
/-- those of the first i kinds that p holds of -/
def Im.kn (p : Int → Bool) : Nat → List Int
  | 0 => []
  | i + 1 => Im.kn p i ++ (if p ((i : Int) + 1) then [(i : Int) + 1] else [])
def Im.kindsV (c m : Int) : List Int := Im.kn (Im.tellK c m) 6
theorem Im.kn_len (p : Int → Bool) : ∀ i, (Im.kn p i).length ≤ i
  | 0 => Nat.le_refl _
  | i + 1 => by
    have := Im.kn_len p i
    unfold Im.kn
    rw [List.length_append]
    split <;> simp <;> omega
theorem Im.kn_same {p q : Int → Bool} : ∀ i : Nat, (∀ k : Nat, k < i → p ((k : Int) + 1) = q ((k : Int) + 1)) → Im.kn p i = Im.kn q i
  | 0, _ => rfl
  | i + 1, h => by
    unfold Im.kn
    rw [Im.kn_same i fun k hk => h k (by omega), h i (by omega)]
theorem Im.kn_none {p : Int → Bool} : ∀ i : Nat, (∀ k : Nat, k < i → p ((k : Int) + 1) = false) → Im.kn p i = []
  | 0, _ => rfl
  | i + 1, h => by
    unfold Im.kn
    rw [Im.kn_none i fun k hk => h k (by omega), h i (by omega)]
    rfl
theorem Im.kn_mem {p : Int → Bool} : ∀ (i : Nat) (k : Int), k ∈ Im.kn p i ↔ (1 ≤ k ∧ k ≤ i) ∧ p k = true
  | 0, k => by simp [Im.kn]; omega
  | i + 1, k => by
    unfold Im.kn
    rw [List.mem_append, Im.kn_mem i k]
    by_cases h : p ((i : Int) + 1) = true
    · rw [if_pos h, List.mem_singleton]
      constructor
      · rintro (⟨h1, h2⟩ | rfl)
        · exact ⟨by omega, h2⟩
        · exact ⟨by omega, h⟩
      · rintro ⟨h1, h2⟩
        by_cases e : k = (i : Int) + 1
        · exact .inr e
        · exact .inl ⟨by omega, h2⟩
    · rw [if_neg h]
      constructor
      · rintro (⟨h1, h2⟩ | h2)
        · exact ⟨by omega, h2⟩
        · cases h2
      · rintro ⟨h1, h2⟩
        by_cases e : k = (i : Int) + 1
        · rw [e] at h2; exact absurd h2 h
        · exact .inl ⟨by omega, h2⟩
/-- the document's words for it -/
def Im.refK (c m k : Int) : Bool := ((k % 3 == 0) == (c == 3)) && ((k % 3 != 1) || (m == 1))
theorem Im.tell_ref (c m : Int) : ∀ k : Nat, k < 6 → Im.tellK c m ((k : Int) + 1) = (Pq.Px.formatV c m && Im.refK c m ((k : Int) + 1)) := by
  intro k hk
  have h6 : k = 0 ∨ k = 1 ∨ k = 2 ∨ k = 3 ∨ k = 4 ∨ k = 5 := by omega
  rw [Bool.eq_iff_iff]
  rcases h6 with rfl | rfl | rfl | rfl | rfl | rfl <;>
    simp [Im.tellK, Im.tellsV, Hd.May, Hd.bits, Hj.chan, Hj.same2, Pq.Px.formatV, Im.refK] <;> omega
theorem Im.kinds_ref (c m : Int) : Im.kindsV c m = if Pq.Px.formatV c m = true then Im.kn (Im.refK c m) 6 else [] := by
  unfold Im.kindsV
  by_cases h : Pq.Px.formatV c m = true
  · rw [if_pos h]
    exact Im.kn_same 6 fun k hk => by rw [Im.tell_ref c m k hk, h, Bool.true_and]
  · rw [if_neg h]
    exact Im.kn_none 6 fun k hk => by rw [Im.tell_ref c m k hk]; simp [h]
set_option maxHeartbeats 1000000 in
theorem imTells_any (h : Hd.H) (hf : Hj.Fit h) (c m : Int) (w : World) :
    Calls Tryz.prog 56 #[agH h, .agg #[.int .i64 c, .int .i64 m]] w fun e w' => e = .returned (.bool (Im.tellsV h c m)) ∧ Below w.heap.size w w' := by
  have HM := Lib.hid (hmay_any h hf)
  have E := feq_run (Hj.chan h) h.m c m
  have G := feq_guard
  have HFm : Hid (Hd.May h → ∀ W, Calls Tryz.prog 59 #[agH h] W fun e w' => e = .returned (Hj.fm h) ∧ Below W.heap.size W w') := Lib.hid fun hm W => hformat_any h hm W
  unfold Im.tellsV
  obtain ⟨q, hq⟩ : ∃ q, Hj.same2 (Hj.chan h) h.m c m = q := ⟨_, rfl⟩
  rw [hq] at E ⊢
  unfold Hj.fm at HFm
  obtain ⟨ch, hch⟩ : ∃ ch, Hj.chan h = ch := ⟨_, rfl⟩
  rw [hch] at E HFm
  obtain ⟨mm, hmm⟩ : ∃ mm, decide (Hd.May h) = mm := ⟨_, rfl⟩
  have HMM : Hid (mm = true → Hd.May h) := Lib.hid fun e => by rw [← hmm] at e; exact of_decide_eq_true e
  rw [hmm] at HM ⊢
  clear hmm
  obtain ⟨kd, ww, hh, mx⟩ := h
  unfold agH at HM HFm ⊢
  simp only at E HM HFm ⊢
  have hB0 : Below w.heap.size w ((w.alloc (.cells #[.int .i64 kd, .int .i64 ww, .int .i64 hh, .int .i64 mx] 49)).alloc (.cells #[.int .i64 c, .int .i64 m] 28)) := box2 w _ _
  have X := (Hb.new w 49 ⟨kd, ww, hh, mx⟩).alloc (.cells #[.int .i64 c, .int .i64 m] 28)
  obtain ⟨n0, n1, n2, n3⟩ := X.cells
  simp only at n0 n1 n2 n3
  clear X hq hch hf
  go_enter Tryz.func56, Tryz.ntmps56
  go_upto_region 1 with fail
  obtain ⟨W, hW⟩ : ∃ W, (w.alloc (.cells #[.int .i64 kd, .int .i64 ww, .int .i64 hh, .int .i64 mx] 49)).alloc (.cells #[.int .i64 c, .int .i64 m] 28) = W := ⟨_, rfl⟩
  have l0 : W.cell? ⟨w.heap.size + 1, 0, none⟩ = some (.int .i64 c) := by rw [← hW]; simp [go_sem]
  have l1 : W.cell? ⟨w.heap.size + 1, 1, none⟩ = some (.int .i64 m) := by rw [← hW]; simp [go_sem]
  try rw [hW]
  rw [hW] at hB0 n0 n1 n2 n3
  clear hW
  have hBr : Below W.heap.size W W := .refl _ _
  cases mm with
  | true =>
    have HF' := Lib.hid (HFm.out (HMM.out rfl))
    clear HFm HMM
    go_region_held3 (fun w' => w'.cell? ⟨w.heap.size, 0, none⟩ = some (.int .i64 kd) ∧ w'.cell? ⟨w.heap.size, 1, none⟩ = some (.int .i64 ww) ∧ w'.cell? ⟨w.heap.size, 2, none⟩ = some (.int .i64 hh) ∧ w'.cell? ⟨w.heap.size, 3, none⟩ = some (.int .i64 mx) ∧ w'.cell? ⟨w.heap.size + 1, 0, none⟩ = some (.int .i64 c) ∧ w'.cell? ⟨w.heap.size + 1, 1, none⟩ = some (.int .i64 m))
      (first | exact ⟨n0, n1, n2, n3, l0, l1⟩ | exact ⟨cell_later hBr n0, cell_later hBr n1, cell_later hBr n2, cell_later hBr n3, cell_later hBr l0, cell_later hBr l1⟩)
      (first
        | (go_at_call 86; refine (HM.out _).mono ?_; rintro e w9 ⟨rfl, hb9⟩; replace hBr := bel_step (w := W) (by first | exact hBr | exact hBr.drew) hb9)
        | (go_at_call 59; refine (HF'.out _).mono ?_; rintro e w9 ⟨rfl, hb9⟩; replace hBr := bel_step (w := W) (by first | exact hBr | exact hBr.drew) hb9))
    all_goals
      go_wp2
      go_ret
      exact ⟨by simp, hB0.trans (hBr.mono hB0.size)⟩
  | false =>
    clear HFm E HMM
    go_region_with (first | (go_at_call 86; refine (HM.out _).mono ?_; rintro e w9 ⟨rfl, hb9⟩; replace hBr := bel_step (w := W) (by first | exact hBr | exact hBr.drew) hb9))
    all_goals
      go_wp2
      go_ret
      exact ⟨by first | rfl | simp, hB0.trans (hBr.mono hB0.size)⟩
theorem Im.kn_int (p : Int → Bool) (i : Nat) {w w' : World} {base : Nat} {v : Value} (h : w'.ownsRow base 3 1 v (Im.kn p i).length ((Im.kn p i).map (Value.int .i64))) (hB : Below w.heap.size w w') (hb : w.heap.size ≤ base) : Bt.LsR (Im.kn p i) w (.returned v) w' := by
  obtain ⟨ad, cap, rfl, hown, hcap⟩ := ownK_row rfl h
  exact ⟨ad, cap, rfl, ownsRow_base h hb, hB⟩
end Go.Proofs.YtmnhiagppicegaaGreat

/- The kinds that may tell images of a format, and whether one may tell an image, by the document; where an image is in another one, of both; over any memory. Condition: the numbers fit. -/
namespace Go.Proofs.YtmnhiagppicegaaGreat
open Go.RowKit
set_option linter.unusedVariables false
theorem Im.refK_p {c m k : Int} {q : Bool} (h : ((k % 3 == 0) == (c == 3)) = q) : Im.refK c m k = (q && ((k % 3 != 1) || (m == 1))) := by unfold Im.refK; rw [h]
set_option maxRecDepth 100000 in
set_option maxHeartbeats 4000000 in
theorem refKinds_any (c m : Int) (hc : Nu.I c) (hm : Nu.I m) (w : World) :
    Calls Tryz.prog 79 #[.agg #[.int .i64 c, .int .i64 m]] w (Bt.LsR (Im.kindsV c m) w) := by
  obtain ⟨i0, hi, hz0, hz1, hz2⟩ := info_parts Bt.Tryz.info_int
  have HFo := Lib.hid (Pq.refFormat_any c m)
  rw [Im.kinds_ref]
  have hbx := box1 w (.cells #[.int .i64 c, .int .i64 m] 28)
  have d0 : (w.alloc (.cells #[.int .i64 c, .int .i64 m] 28)).cell? ⟨w.heap.size, 0, none⟩ = some (.int .i64 c) := by simp [go_sem]
  have d1 : (w.alloc (.cells #[.int .i64 c, .int .i64 m] 28)).cell? ⟨w.heap.size, 1, none⟩ = some (.int .i64 m) := by simp [go_sem]
  have d2 : w.heap.size < (w.alloc (.cells #[.int .i64 c, .int .i64 m] 28)).heap.size := by simp
  clear hc hm
  obtain ⟨fm, hfm⟩ : ∃ fm, Pq.Px.formatV c m = fm := ⟨_, rfl⟩
  rw [hfm] at HFo ⊢
  clear hfm
  go_enter Tryz.func79, Tryz.ntmps79
  cases fm with
  | false =>
    rw [if_neg (by simp)]
    go_wp2_with (go_at_call 109; refine (HFo.out _).mono ?_; rintro e w3 ⟨rfl, hb3⟩; have hbz := hbx.trans (hb3.mono hbx.size))
    go_ret
    exact Im.kn_int (fun _ => true) 0 (World.ownsRow_nil _ w.heap.size _ _) hbz (Nat.le_refl _)
  | true =>
  rw [if_pos rfl]
  obtain ⟨p, hp⟩ : ∃ p, Im.refK c m = p := ⟨_, rfl⟩
  have HP : Hid (∀ k, Im.refK c m k = p k) := Lib.hid fun k => by rw [hp]
  rw [hp]
  clear hp
  go_wp2_with (go_at_call 109; refine (HFo.out _).mono ?_; rintro e W0 ⟨rfl, hb3⟩; replace hbx := hbx.trans (hb3.mono hbx.size); replace d0 := cell_later hb3 d0; replace d1 := cell_later hb3 d1; replace d2 := Nat.lt_of_lt_of_le d2 hb3.size; clear hb3)
  have HBX := Lib.hid hbx
  clear hbx
  go_loopg [4, 5] 6 (fun g s3 s4 wr => ∃ i : Nat, i + g = 6 ∧ s4 = .int .i64 ((i : Int) + 1) ∧ wr.ownsRow W0.heap.size 3 1 s3 (Im.kn p i).length ((Im.kn p i).map (Value.int .i64)) ∧ Below W0.heap.size W0 wr)
  case atStart => exact ⟨0, rfl, rfl, World.ownsRow_nil _ _ _ _, Below.refl _ _⟩
  case round =>
    obtain ⟨i, hig, rfl, hrow, hB⟩ := hrel
    have k0 : (0 : Int) ≤ i := Int.natCast_nonneg _
    have c0 := cell_later hB d0
    have c1 := cell_later hB d1
    cases gk with
    | zero =>
      obtain rfl : i = 6 := by omega
      have HF := Lib.hid (Im.kn_int p 6 hrow (HBX.out.trans (hB.mono HBX.out.size)) (Nat.le_of_lt d2))
      clear hrow hB
      go_wp2
      go_ret
      exact HF.out
    | succ g =>
      have h6 : (i : Int) + 1 ≤ 6 := by omega
      have HR := Lib.hid hrow
      have hS := Im.kn_len p i
      have HSt : Hid (Im.kn p (i + 1) = Im.kn p i ++ (if p ((i : Int) + 1) then [(i : Int) + 1] else [])) := Lib.hid rfl
      obtain ⟨n, hn⟩ : ∃ n, (Im.kn p i).length = n := ⟨_, rfl⟩
      rw [hn] at HR hS
      have HN := Lib.hid hn
      obtain ⟨P, hP⟩ : ∃ P, ((((i : Int) + 1) % 3 == 0) == (c == 3)) = P := ⟨_, rfl⟩
      obtain ⟨Q, hQ⟩ : ∃ Q, (((i : Int) + 1) % 3 != 1) = Q := ⟨_, rfl⟩
      obtain ⟨R, hR⟩ : ∃ R, (m == 1) = R := ⟨_, rfl⟩
      have HV : Hid (p ((i : Int) + 1) = (P && (Q || R))) := Lib.hid (by rw [← HP.out, Im.refK_p hP, hQ, hR])
      clear hrow hn
      cases P with
      | false =>
        have HV2 : Hid (p ((i : Int) + 1) = false) := Lib.hid (by have := HV.out; simpa using this)
        go_wp2_with fail
        go_roundg g
        case measure => omega
        case rel =>
          refine ⟨i + 1, by omega, by go_num, ?_, hB⟩
          rw [HSt.out, if_neg (by rw [HV2.out]; simp), List.append_nil, HN.out]
          exact HR.out
      | true =>
        cases Q with
        | true =>
          have HV2 : Hid (p ((i : Int) + 1) = true) := Lib.hid HV.out
          go_wp2_with (at_builtin; refine wpList_append_own _ rfl _ _ 22 rfl W0.heap.size 3 i0 (.int .i64 0) 1 8 Tryz.underlying22 hi hz0 hz1 hz2 rfl (by decide) _ n _ rfl (HR.out.alloc _) ⟨_, 0, none⟩ 1 1 [.int .i64 ((i : Int) + 1)] rfl rfl (cell_one_new _ _ _) (by simp [Value.oneCell']) (by unfold maxLen; omega) (by have := hB.size; omega) (by simp; have := hB.size; omega) ?_; intro v' w4 hown' hgrow _; have HO := Lib.hid hown'; have hB4 := ((hB.alloc hB.size _).grown hgrow (by simp; have := hB.size; omega) (fun j ej => (HR.out.lt j ej).1)); clear hown' hgrow)
          go_roundg g
          case measure => omega
          case rel =>
            refine ⟨i + 1, by omega, by go_num, ?_, hB4⟩
            have := HO.out
            rw [HSt.out, if_pos HV2.out, List.map_append, List.length_append, HN.out]
            exact this
        | false =>
          cases R with
          | true =>
            have HV2 : Hid (p ((i : Int) + 1) = true) := Lib.hid HV.out
            go_wp2_with (at_builtin; refine wpList_append_own _ rfl _ _ 22 rfl W0.heap.size 3 i0 (.int .i64 0) 1 8 Tryz.underlying22 hi hz0 hz1 hz2 rfl (by decide) _ n _ rfl (HR.out.alloc _) ⟨_, 0, none⟩ 1 1 [.int .i64 ((i : Int) + 1)] rfl rfl (cell_one_new _ _ _) (by simp [Value.oneCell']) (by unfold maxLen; omega) (by have := hB.size; omega) (by simp; have := hB.size; omega) ?_; intro v' w4 hown' hgrow _; have HO := Lib.hid hown'; have hB4 := ((hB.alloc hB.size _).grown hgrow (by simp; have := hB.size; omega) (fun j ej => (HR.out.lt j ej).1)); clear hown' hgrow)
            go_roundg g
            case measure => omega
            case rel =>
              refine ⟨i + 1, by omega, by go_num, ?_, hB4⟩
              have := HO.out
              rw [HSt.out, if_pos HV2.out, List.map_append, List.length_append, HN.out]
              exact this
          | false =>
            have HV2 : Hid (p ((i : Int) + 1) = false) := Lib.hid HV.out
            go_wp2_with fail
            go_roundg g
            case measure => omega
            case rel =>
              refine ⟨i + 1, by omega, by go_num, ?_, hB⟩
              rw [HSt.out, if_neg (by rw [HV2.out]; simp), List.append_nil, HN.out]
              exact HR.out
end Go.Proofs.YtmnhiagppicegaaGreat

/- Whether a kind may tell an image, by the document; an image's head, by the code; over any memory. Condition: the numbers fit, the rows are no longer than the pixels told. -/
namespace Go.Proofs.YtmnhiagppicegaaGreat
open Go.RowKit
set_option linter.unusedVariables false
theorem Im.mem_kinds {c m k : Int} : k ∈ Im.kindsV c m ↔ Im.tellK c m k = true := by
  unfold Im.kindsV
  rw [Im.kn_mem]
  constructor
  · exact fun h => h.2
  · intro h
    refine ⟨?_, h⟩
    simp only [Im.tellK, Im.tellsV, Bool.and_eq_true, decide_eq_true_eq] at h
    exact h.1.1
theorem Im.tells_may {c m W H k : Int} {n : Nat} {L : List Int} (h : Im.mayV c m W H n L = true) : Im.tellsV ⟨k, W, H, m⟩ c m = Im.tellK c m k := by
  unfold Im.mayV at h
  rw [Bool.and_eq_true, Rc.mayV_iff] at h
  obtain ⟨⟨h1, h2, h3, h4, h5⟩, _⟩ := h.1
  rw [Bool.eq_iff_iff]
  simp only [Im.tellK, Im.tellsV, Bool.and_eq_true, decide_eq_true_eq]
  unfold Hd.May Hj.chan
  simp only
  constructor
  · rintro ⟨⟨a, b, d, e⟩, f⟩
    exact ⟨⟨a, ⟨by omega, by omega⟩, ⟨by omega, by omega⟩, e⟩, f⟩
  · rintro ⟨⟨a, b, d, e⟩, f⟩
    exact ⟨⟨a, ⟨h1, h2⟩, ⟨h3, h4⟩, e⟩, f⟩
/-- may a kind tell an image -/
def Im.tellV (c m W H : Int) (n : Nat) (L : List Int) (k : Int) : Bool := Im.tellK c m k && Im.mayV c m W H n L
set_option maxRecDepth 100000 in
set_option maxHeartbeats 1000000 in
theorem refTells_any (c m W H : Int) (hc : Nu.I c) (hm : Nu.I m) (a : Option Addr) (n cap : Nat) (L : List Int) (hn : n ≤ 9223372036854775807) (hU : ∀ x ∈ L, Pq.Px.U x) (kd : Int) (w : World) (hs : SlK .u64 w a n L) :
    Calls Tryz.prog 52 #[agI c m W H (.slice a n cap), .int .i64 kd] w fun e w' => e = .returned (.bool (Im.tellV c m W H n L kd)) ∧ Below w.heap.size w w' := by
  have HK := Lib.hid (refKinds_any c m hc hm)
  have HMy : Hid (∀ W9, Below w.heap.size w W9 → Calls Tryz.prog 14 #[agI c m W H (.slice a n cap)] W9 fun e w' => e = .returned (.bool (Im.mayV c m W H n L)) ∧ Below W9.heap.size W9 w') := Lib.hid fun W9 hb => refImMay_any c m W H a n cap L hn hU W9 (hs.below hb)
  have HM := Lib.hid (fun (k : Int) => @Im.mem_kinds c m k)
  have hlen := Im.kn_len (Im.tellK c m) 6
  unfold Im.tellV
  obtain ⟨l, hl⟩ : ∃ l, Im.kindsV c m = l := ⟨_, rfl⟩
  unfold Im.kindsV at hl
  rw [hl] at hlen
  unfold Im.kindsV at HK HM
  rw [hl] at HK HM
  have HM : Hid (∀ k, k ∈ l ↔ Im.tellK c m k = true) := HM
  obtain ⟨q, hq⟩ : ∃ q, Im.tellK c m kd = q := ⟨_, rfl⟩
  have HQ : Hid (kd ∈ l ↔ q = true) := Lib.hid (by rw [← hq]; exact HM.out kd)
  obtain ⟨r, hr⟩ : ∃ r, Im.mayV c m W H n L = r := ⟨_, rfl⟩
  rw [hr] at HMy ⊢
  rw [hq]
  clear HM hq hr hl hs hU
  have X := Ib.new w 33 c m W H (.slice a n cap)
  have hbx := box1 w (.cells #[.int .i64 c, .int .i64 m, .int .i64 W, .int .i64 H, .slice a n cap] 33)
  obtain ⟨W0, hW0⟩ : ∃ W0, w.alloc (.cells #[.int .i64 c, .int .i64 m, .int .i64 W, .int .i64 H, .slice a n cap] 33) = W0 := ⟨_, rfl⟩
  unfold agI at HMy ⊢
  go_enter Tryz.func52, Tryz.ntmps52
  go_upto_region 1 with fail
  rw [hW0] at X hbx
  try rw [hW0]
  clear hW0
  obtain ⟨n0, n1, n2, n3, n4⟩ := X.cells
  go_wp2_with fail
  refine (HK.out _).mono ?_
  unfold Bt.LsR
  rintro e w2 ⟨ad, cp, rfl, hown, hb2⟩
  replace X := X.later hb2
  replace hbx := hbx.trans (hb2.mono hbx.size)
  have HBX := Lib.hid hbx
  have hsl : SlK .i64 w2 ad l.length l := by
    obtain ⟨a9, c9, e9, hk9, _⟩ := ownK_row rfl hown
    cases e9
    exact hk9.sl
  have HSL := Lib.hid hsl
  obtain ⟨N, hN⟩ : ∃ N, l.length = N := ⟨_, rfl⟩
  rw [hN] at hlen
  have HN := Lib.hid hN
  clear hown hb2 hsl n0 n1 n2 n3 n4
  try rw [hN]
  clear hN
  go_wp2_with fail
  go_loopg [6] N (fun g s6 wr => ∃ i : Nat, i + g = N ∧ s6 = .int .i64 (i : Int) ∧ (∀ k, k < i → l.getD k 0 ≠ kd) ∧ wr = w2)
  case atStart => exact ⟨0, by omega, rfl, fun k hk => by omega, rfl⟩
  case round =>
    obtain ⟨i, hig, rfl, hno, rfl⟩ := hrel
    have k0 : (0 : Int) ≤ i := Int.natCast_nonneg _
    cases gk with
    | zero =>
      obtain rfl : i = N := by omega
      have HF : Hid (q = false) := Lib.hid (by
        cases q with
        | false => rfl
        | true =>
          obtain ⟨k, hk, e⟩ := List.getElem_of_mem (HQ.out.2 rfl)
          have := hno k (by have := HN.out; omega)
          rw [List.getD_eq_getElem?_getD, List.getElem?_eq_getElem hk] at this
          exact absurd e this)
      clear hno
      go_wp2
      go_ret
      exact ⟨by rw [HF.out]; rfl, HBX.out⟩
    | succ g =>
      have hlt : i < N := by omega
      obtain ⟨g5, o5, rfl, hcell⟩ := slk_pos HSL.out (by have := HN.out; omega)
      have hci := hcell i (by have := HN.out; omega)
      obtain ⟨x, hx⟩ : ∃ x, l.getD i 0 = x := ⟨_, rfl⟩
      have HX := Lib.hid hx
      have HNO := Lib.hid hno
      have hmem : Hid (x ∈ l) := Lib.hid (by rw [← hx, List.getD_eq_getElem?_getD, List.getElem?_eq_getElem (by have := HN.out; omega)]; exact List.getElem_mem _)
      rw [hx] at hci
      clear hcell hx hno
      by_cases hxk : x = kd
      · subst hxk
        have HF : Hid (q = true) := Lib.hid (HQ.out.1 hmem.out)
        have hld := load_ri X
        unfold agI at hld
        obtain ⟨n0, n1, n2, n3, n4⟩ := X.cells
        clear hlt
        go_wp2_with (go_at_call 14; refine (HMy.out _ HBX.out).mono ?_; rintro e w3 ⟨rfl, hb3⟩)
        go_ret
        exact ⟨by rw [HF.out]; simp, HBX.out.trans (hb3.mono HBX.out.size)⟩
      · have hxb : (x == kd) = false := by simpa using hxk
        go_wp2_with fail
        go_roundg g
        case measure => omega
        case rel =>
          refine ⟨i + 1, by omega, by go_num, fun k hk => ?_, rfl⟩
          by_cases e : k = i
          · rw [e, HX.out]; exact hxk
          · exact HNO.out k (by omega)
/-- an image's head, or ErrArg -/
def Im.headV (c m W H : Int) (n : Nat) (L : List Int) (k : Int) : Hd.H × Int := if Im.tellV c m W H n L k = true then (⟨k, W, H, m⟩, 0) else (Hd.none, 1)
def ImHeadR (t : Hd.H × Int) (w : World) (e : Ending) (w' : World) : Prop := e = .returned (.tuple #[agH t.1, .int .i64 t.2]) ∧ Below w.heap.size w w'
set_option maxRecDepth 100000 in
set_option maxHeartbeats 2000000 in
theorem imHead_any (c m W H : Int) (hc : Nu.I c) (hm : Nu.I m) (hW : Nu.I W) (hH : Nu.I H) (a : Option Addr) (n cap : Nat) (L : List Int) (hn : n ≤ 9223372036854775807) (hU : ∀ x ∈ L, Pq.Px.U x) (kd : Int) (hk : Nu.I kd) (w : World) (hs : SlK .u64 w a n L) :
    Calls Tryz.prog 17 #[agI c m W H (.slice a n cap), .int .i64 kd] w (ImHeadR (Im.headV c m W H n L kd) w) := by
  have HMy : Hid (∀ W9, Below w.heap.size w W9 → Calls Tryz.prog 12 #[agI c m W H (.slice a n cap)] W9 fun e w' => e = .returned (.bool (Im.mayV c m W H n L)) ∧ Below W9.heap.size W9 w') := Lib.hid fun W9 hb => imMay_any c m W H a n cap L hn hU W9 (hs.below hb)
  have HT := Lib.hid (imTells_any ⟨kd, W, H, m⟩ ⟨hk, hW, hH, hm⟩ c m)
  obtain ⟨T, hT⟩ : ∃ T, Im.headV c m W H n L kd = T := ⟨_, rfl⟩
  have HTT : Hid (T = if Im.tellV c m W H n L kd = true then (⟨kd, W, H, m⟩, 0) else (Hd.none, 1)) := Lib.hid (by rw [← hT]; rfl)
  rw [hT]
  unfold Im.tellV at HTT
  obtain ⟨r, hr⟩ : ∃ r, Im.mayV c m W H n L = r := ⟨_, rfl⟩
  obtain ⟨q, hq⟩ : ∃ q, Im.tellsV ⟨kd, W, H, m⟩ c m = q := ⟨_, rfl⟩
  have HRQ : Hid (r = true → Im.tellK c m kd = q) := Lib.hid fun h => by rw [← hq]; exact (Im.tells_may (by rw [hr]; exact h)).symm
  rw [hr] at HMy HTT
  rw [hq] at HT
  unfold ImHeadR
  have X := (Ib.new w 40 c m W H (.slice a n cap)).later (box1 _ (.cells #[.int .i64 0, .int .i64 0, .int .i64 0, .int .i64 0] 49))
  have hbx := box2 w (.cells #[.int .i64 c, .int .i64 m, .int .i64 W, .int .i64 H, .slice a n cap] 40) (.cells #[.int .i64 0, .int .i64 0, .int .i64 0, .int .i64 0] 49)
  have Z := Hb.new (w.alloc (.cells #[.int .i64 c, .int .i64 m, .int .i64 W, .int .i64 H, .slice a n cap] 40)) 49 Hd.none
  rw [show (w.alloc (.cells #[.int .i64 c, .int .i64 m, .int .i64 W, .int .i64 H, .slice a n cap] 40)).heap.size = w.heap.size + 1 by simp] at Z
  have Z : Hb ((w.alloc (.cells #[.int .i64 c, .int .i64 m, .int .i64 W, .int .i64 H, .slice a n cap] 40)).alloc (.cells #[.int .i64 0, .int .i64 0, .int .i64 0, .int .i64 0] 49)) (w.heap.size + 1) 49 Hd.none := Z
  obtain ⟨W0, hW0⟩ : ∃ W0, (w.alloc (.cells #[.int .i64 c, .int .i64 m, .int .i64 W, .int .i64 H, .slice a n cap] 40)).alloc (.cells #[.int .i64 0, .int .i64 0, .int .i64 0, .int .i64 0] 49) = W0 := ⟨_, rfl⟩
  have hsz : W0.heap.size = w.heap.size + 2 := by rw [← hW0]; simp
  unfold agI at HMy ⊢
  unfold agH at HT
  simp only at HT
  go_enter Tryz.func17, Tryz.ntmps17
  go_upto_region 1 with fail
  rw [hW0] at X hbx Z
  try rw [hW0]
  clear hW0 hT hr hq hs hU
  obtain ⟨n0, n1, n2, n3, n4⟩ := X.cells
  go_upto_region 2 with fail
  have Y := Hb.new W0 49 ⟨kd, W, H, m⟩
  have hb1 := box1 W0 (.cells #[.int .i64 kd, .int .i64 W, .int .i64 H, .int .i64 m] 49)
  simp only at Y
  rw [hsz] at Y
  obtain ⟨W1, hW1⟩ : ∃ W1, W0.alloc (.cells #[.int .i64 kd, .int .i64 W, .int .i64 H, .int .i64 m] 49) = W1 := ⟨_, rfl⟩
  rw [hW1] at Y hb1
  try rw [hW1]
  try rw [hsz]
  clear hW1 n0 n1 n2 n3 n4
  replace X := X.later hb1
  replace Z := Z.later hb1
  replace hbx := hbx.trans (hb1.mono hbx.size)
  clear hb1 hsz
  have hld := load_im X
  unfold agI at hld
  obtain ⟨n0, n1, n2, n3, n4⟩ := X.cells
  cases r with
  | false =>
    go_wp2_with (go_at_call 12; refine (HMy.out _ hbx).mono ?_; rintro e w3 ⟨rfl, hb3⟩; replace Z := Z.later hb3; replace hbx := hbx.trans (hb3.mono hbx.size); obtain ⟨z0, z1, z2, z3⟩ := Z.cells; obtain ⟨f0, f1, f2, f3⟩ := Z.fr)
    (try simp only [Exit.inBlock, Exit.then])
    refine bodyPost_ret (ret_cell2 Tryz.results17 _ _ _ _ rfl (load_hd (Z.put Hd.none))) rfl ?_
    refine ⟨by rw [HTT.out, if_neg (by simp)]; rfl, (((hbx.setCell (by simp) _).setCell (by simp) _).setCell (by simp) _).setCell (by simp) _⟩
  | true =>
    have HRQ := Lib.hid (HRQ.out rfl)
    cases q with
    | false =>
      go_wp2_with (first | (go_at_call 12; refine (HMy.out _ hbx).mono ?_; rintro e w3 ⟨rfl, hb3⟩; replace X := X.later hb3; replace Y := Y.later hb3; replace Z := Z.later hb3; replace hbx := hbx.trans (hb3.mono hbx.size); obtain ⟨n0, n1, n2, n3, n4⟩ := X.cells; obtain ⟨y0, y1, y2, y3⟩ := Y.cells; simp only at y0 y1 y2 y3) | (go_at_call 56; refine (HT.out _).mono ?_; rintro e w3 ⟨rfl, hb3⟩; replace Z := Z.later hb3; replace hbx := hbx.trans (hb3.mono hbx.size); obtain ⟨z0, z1, z2, z3⟩ := Z.cells; obtain ⟨f0, f1, f2, f3⟩ := Z.fr))
      (try simp only [Exit.inBlock, Exit.then])
      refine bodyPost_ret (ret_cell2 Tryz.results17 _ _ _ _ rfl (load_hd (Z.put Hd.none))) rfl ?_
      refine ⟨by rw [HTT.out, HRQ.out, if_neg (by simp)] <;> first | rfl | trivial, (((hbx.setCell (by simp) _).setCell (by simp) _).setCell (by simp) _).setCell (by simp) _⟩
    | true =>
      go_wp2_with (first | (go_at_call 12; refine (HMy.out _ hbx).mono ?_; rintro e w3 ⟨rfl, hb3⟩; replace X := X.later hb3; replace Y := Y.later hb3; replace Z := Z.later hb3; replace hbx := hbx.trans (hb3.mono hbx.size); obtain ⟨n0, n1, n2, n3, n4⟩ := X.cells; obtain ⟨y0, y1, y2, y3⟩ := Y.cells; simp only at y0 y1 y2 y3) | (go_at_call 56; refine (HT.out _).mono ?_; rintro e w3 ⟨rfl, hb3⟩; replace Y := Y.later hb3; replace Z := Z.later hb3; replace hbx := hbx.trans (hb3.mono hbx.size); obtain ⟨z0, z1, z2, z3⟩ := Z.cells; obtain ⟨f0, f1, f2, f3⟩ := Z.fr; obtain ⟨y0, y1, y2, y3⟩ := Y.cells; simp only at y0 y1 y2 y3))
      (try simp only [Exit.inBlock, Exit.then])
      refine bodyPost_ret (ret_cell2 Tryz.results17 _ _ _ _ rfl (load_hd (Z.put ⟨kd, W, H, m⟩))) rfl ?_
      refine ⟨by rw [HTT.out, HRQ.out, if_pos (by simp)] <;> first | rfl | trivial, (((hbx.setCell (by simp) _).setCell (by simp) _).setCell (by simp) _).setCell (by simp) _⟩
end Go.Proofs.YtmnhiagppicegaaGreat

/- A row of bits packed, over any memory, of bits. Condition: numbers fit their kinds. -/
namespace Go.Proofs.YtmnhiagppicegaaGreat
open Go.RowKit Go.Shelf
attribute [local go_sem] Oper.semAt_some
set_option linter.unusedVariables false
/-- 'copy' into a row that is known whole, in a round. -/
theorem wpListIn_copy_row {F : Fence} {n : Nat} {P : Program} {w : World} {ops : Array Oper} {rest : List Oper} {o : Oper} {a : Act} {Q : Exit → Act → World → Prop} (hgd : o.guard = none) (d s : Operand) (dT sT : TypeId)
    (ho : o.op = .call { callee := .builtin .copy, args := #[d, s], argTypes := #[dT, sT] }) (elem : TypeId) (hu : P.underlying dT = some (.slice elem)) (hsz : (P.info? elem).map (·.size) = some 1)
    (g off dLen dCap : Nat) (ad : Addr) (sLen sCap : Nat) (hd : a.eval d = .slice (some ⟨g, off, none⟩) dLen dCap) (hs : a.eval s = .slice (some ad) sLen sCap)
    (cur : Array Value) (t : TypeId) (hg : w.heap[g]? = some (.cells cur t (0, 0))) (cs : List Value) (hn : cs.length = Nat.min sLen dLen)
    (hsrc : ∀ j v, cs[j]? = some v → w.cell? (ad.add j) = some v) (hfit : off + cs.length ≤ cur.size) (h1 : ∀ v ∈ cs, v.oneCell' = true)
    (h : ∀ v9, wpListIn F n P ops Q rest (a.put o.dst v9) (w.setRow g (cur.toList.take off ++ cs ++ cur.toList.drop (off + cs.length)).toArray)) : wpListIn F n P ops Q (o :: rest) a w := by
  refine wpListIn_plain hgd fun K hK => ?_
  have hrun := run_copy_row (P := P) w dT sT o.type elem g off dLen dCap ad sLen sCap cur t cs hu hsz hg hn hsrc hfit h1
  unfold Oper.wpIn
  refine ⟨?_, ?_⟩
  · simp [Oper.about, ho, resolve, Target.leads, Sem.run_pure]
  · rw [Oper.semAt_plain F _ _ (by rw [ho]; intro c hc'; cases hc')]
    simp [execOp, ho, resolve, invoke, builtin, hd, hs, hrun, Result.andThen]
    exact hK _ _ (by simpa using h (goInt cs.length))
namespace Bt
theorem pack_len0 (l : List Int) : packOk l = false ↔ (bytesV l.length = 0 ∨ decide (Ones l) = false) := by
  unfold packOk bytesV
  by_cases h : Ones l
  · simp [h]; omega
  · simp [h]
set_option maxRecDepth 100000 in
theorem pack_no (a : Option Addr) (n cap : Nat) (l : List Int) (w : World) (hn : n ≤ 9223372036854775807) (h : SlK .i64 w a n l) (hp : packOk l = false) :
    Calls Tryz.prog 171 #[.slice a n cap] w fun e w' => e = .returned (.tuple #[.slice none 0 0, .int .i64 1]) ∧ w = w' := by
  have hl : l.length = n := h.1
  have HC := Lib.hid (contains_any a n cap l w hn h)
  clear h
  rw [pack_len0, hl] at hp
  by_cases h0 : bytesV n = 0
  · have HN := Lib.hid h0
    clear hp h0
    refine calls_of_marks Tryz.func171 rfl ?_
    simp only [Tryz.ntmps171, List.size_toArray, List.length_cons, List.length_nil, Nat.reduceAdd, Nat.reduceSub, Array.replicate_succ, Array.replicate_zero, List.push_toArray, List.append_toArray, List.nil_append, List.cons_append]
    go_wp2_with (go_at_call 188; refine (bytes_any _ _).mono ?_; rw [HN.out]; rintro e w1 ⟨rfl, rfl⟩)
    exact ⟨_, results_tmp2 rfl _ _ _, rfl, rfl⟩
  · obtain ⟨r, hr⟩ : ∃ r, bytesV n = r := ⟨_, rfl⟩
    rw [hr] at h0 hp
    have hrb : (r == 0) = false := by simpa using h0
    have HN := Lib.hid hr
    have HO := Lib.hid (hp.resolve_left h0)
    clear hp h0 hr
    refine calls_of_marks Tryz.func171 rfl ?_
    simp only [Tryz.ntmps171, List.size_toArray, List.length_cons, List.length_nil, Nat.reduceAdd, Nat.reduceSub, Array.replicate_succ, Array.replicate_zero, List.push_toArray, List.append_toArray, List.nil_append, List.cons_append]
    go_wp2_with (first
      | (go_at_call 188; refine (bytes_any _ _).mono ?_; rw [HN.out]; rintro e w1 ⟨rfl, rfl⟩)
      | (go_at_call 189; refine HC.out.mono ?_; rw [HO.out]; rintro e w1 ⟨rfl, rfl⟩))
    exact ⟨_, results_tmp2 rfl _ _ _, rfl, rfl⟩
theorem ownsRow_room {A : World} {base n cap g k : Nat} {e : TypeId} {xs : List Value} (h : A.ownsRow base e 1 (.slice (some ⟨g, 0, none⟩) n cap) n xs) (hk : k < cap) : ∃ v, A.cell? ⟨g, k, none⟩ = some v ∧ A.frozen? ⟨g, k, none⟩ = false := by
  rcases h.2 with ⟨h2, _⟩ | ⟨g', cap', cur, h2, hg, hc, _, _, hs, _⟩
  · cases h2
  · cases h2
    exact ⟨cur[k]'(by omega), by simp [World.cell?, hc, Array.getElem?_eq_getElem (show k < cur.size by omega)], by simp [World.frozen?, hc]⟩
theorem ownsRow_push {A : World} {base n cap g : Nat} {e : TypeId} {xs : List Value} (h : A.ownsRow base e 1 (.slice (some ⟨g, 0, none⟩) n cap) n xs) (hn : n < cap) (v : Value) :
    (A.setCell ⟨g, n, none⟩ v).ownsRow base e 1 (.slice (some ⟨g, 0, none⟩) (n + 1) cap) (n + 1) (xs ++ [v]) := by
  obtain ⟨h1, h2⟩ := h
  rcases h2 with ⟨h2, _⟩ | ⟨g', cap', cur, h2, hg, hc, hle, hm, hs, ht⟩
  · cases h2
  · cases h2
    refine ⟨by simp at h1 ⊢; exact h1, .inr ⟨g, cap, cur.setIfInBounds n v, rfl, hg, ?_, hn, hm, by simpa using hs, ?_⟩⟩
    · rw [setCell_eq_setRow A g n cur e (0, 0) v hc]; exact setRow_heap _ _ _ _ _ _ hc
    · have hlt : n < cur.toList.length := by simp; omega
      simp only [Nat.mul_one, Array.toList_setIfInBounds] at ht ⊢
      rw [List.take_succ_eq_append_getElem (by simpa using hlt), List.getElem_set_self, List.take_set_of_le (Nat.le_refl _), ht]
theorem pad_cells (pt : List Int) (h : pt.length ≤ 8) : pt.map (Value.int .i64) ++ List.drop pt.length [Value.int .i64 0, Value.int .i64 0, Value.int .i64 0, Value.int .i64 0, Value.int .i64 0, Value.int .i64 0, Value.int .i64 0, Value.int .i64 0] = (pad pt).map (Value.int .i64) := by
  rw [show [Value.int .i64 0, Value.int .i64 0, Value.int .i64 0, Value.int .i64 0, Value.int .i64 0, Value.int .i64 0, Value.int .i64 0, Value.int .i64 0] = List.replicate 8 (Value.int .i64 0) from rfl, List.drop_replicate, pad]
  simp
theorem list8 (l : List Int) (h : l.length = 8) : ∃ a b c d e f g i, l = [a, b, c, d, e, f, g, i] := by
  match l, h with
  | [a, b, c, d, e, f, g, i], _ => exact ⟨a, b, c, d, e, f, g, i, rfl⟩
theorem pad_01 {pt : List Int} (h : Ones pt) : Ones (pad pt) := by
  intro x hx
  rcases List.mem_append.1 hx with hx | hx
  · exact h x hx
  · exact .inl (List.eq_of_mem_replicate hx)
theorem range_mid {m k : Nat} {pre rest : List Nat} (h : List.range m = pre ++ k :: rest) : k = pre.length ∧ pre.length < m := by
  have h1 : pre.length < m := by have := congrArg List.length h; simp at this; omega
  have h2 : (List.range m)[pre.length]? = some k := by rw [h]; simp
  rw [List.getElem?_range h1] at h2
  exact ⟨(Option.some.inj h2).symm, h1⟩
def PackR (l : List Int) (w : World) (e : Ending) (w' : World) : Prop :=
  ∃ ad cap, e = .returned (.tuple #[.slice ad (packV l).length cap, .int .i64 (packE l)]) ∧ w'.ownsRow w.heap.size 5 1 (.slice ad (packV l).length cap) (packV l).length ((packV l).map (Value.int .u8)) ∧ Below w.heap.size w w'
theorem Tryz.info_byt : (Tryz.prog.info? 5).map (fun i => (i.zero, i.size, i.bytes)) = some (some (.int .u8 0), 1, 1) := by kernel_rfl
theorem packB_len : ∀ (m : Nat) (l : List Int), l.length ≤ 8 * m → 8 * m < l.length + 8 → (packB l).length = m
  | 0, l, h, _ => by
    have : l = [] := List.eq_nil_of_length_eq_zero (by omega)
    rw [this, packB_nil]; rfl
  | m + 1, l, h, k => by
    rw [packB_more (by intro e; subst e; simp at k; omega), List.length_cons, packB_len m (l.drop 8) (by simp; omega) (by simp; omega)]
theorem packB_get : ∀ (k : Nat) (l : List Int), 8 * k < l.length → (packB l).getD k 0 = num (pad ((l.drop (8 * k)).take 8)) 0
  | 0, l, h => by rw [packB_more (by intro e; subst e; simp at h)]; simp
  | k + 1, l, h => by
    rw [packB_more (by intro e; subst e; simp at h), List.getD_cons_succ, packB_get k (l.drop 8) (by simp; omega), List.drop_drop]
    rw [show 8 + 8 * k = 8 * (k + 1) by omega]
set_option maxRecDepth 100000 in
set_option maxHeartbeats 4000000 in
theorem pack_yes (b o n m cap : Nat) (l : List Int) (w : World) (hnc : n ≤ cap) (hc : cap ≤ 9223372036854775807) (hl : l.length = n) (hcell : ∀ i, i < n → w.cell? ⟨b, o + i, none⟩ = some (.int .i64 (l.getD i 0))) (ho : Ones l) (h1 : 1 ≤ n) (h9 : n ≤ 4096) (hm : bytesV n = m) (hm1 : n ≤ 8 * m) (hm2 : 8 * m < n + 8) :
    Calls Tryz.prog 171 #[.slice (some ⟨b, o, none⟩) n cap] w fun e w' => ∃ ad cap, e = .returned (.tuple #[.slice ad m cap, .int .i64 0]) ∧ w'.ownsRow w.heap.size 5 1 (.slice ad m cap) m ((packB l).map (Value.int .u8)) ∧ Below w.heap.size w w' := by
  obtain ⟨i0, hi, hz0, hz1, hz2⟩ := info_parts Tryz.info_byt
  have HC := Lib.hid (contains_any (some ⟨b, o, none⟩) n cap l w (by omega) ⟨hl, .inr ⟨b, o, rfl, hcell⟩⟩)
  have HO := Lib.hid (show decide (Ones l) = true by rw [decide_eq_true_iff]; exact ho)
  have HN := Lib.hid hm
  have HP := Lib.hid (packB_len m l (by omega) (by omega))
  have HG := Lib.hid (fun k (h : 8 * k < n) => packB_get k l (by omega))
  have HL := Lib.hid hl
  have HS := Lib.hid hcell
  have HB := Lib.hid ho
  have hm0 : ((m : Int) == 0) = false := by simp; omega
  have hbw : b < w.heap.size := block_lt_of_cell (hcell 0 (by omega))
  clear hl hcell ho hm
  refine calls_of_marks Tryz.func171 rfl ?_
  simp only [Tryz.ntmps171, List.size_toArray, List.length_cons, List.length_nil, Nat.reduceAdd, Nat.reduceSub, Array.replicate_succ, Array.replicate_zero, List.push_toArray, List.append_toArray, List.nil_append, List.cons_append]
  go_wp2_with (first
    | (go_at_call 188; refine (bytes_any _ _).mono ?_; rw [HN.out]; rintro e w1 ⟨rfl, rfl⟩)
    | (go_at_call 189; refine HC.out.mono ?_; rw [HO.out]; rintro e w1 ⟨rfl, rfl⟩)
    | (at_make; refine wpList_make_own _ rfl _ _ 43 rfl w.heap.size 5 i0 (.int .u8 0) 1 Tryz.underlying43 hi hz0 hz1 .i64 .i64 (m : Int) m rfl rfl rfl (by rw [hz2]; omega) (by unfold maxLen; omega) (Nat.le_refl _) ?_; intro w1 hown hgrow; have hb1 : Below w.heap.size w w1 := (Below.refl _ w).grown hgrow (Nat.le_refl _) (by simp); have HW := Lib.hid hown; clear hown)
    | (go_at_call 190; refine (chunk_made _ _ _ _).mono ?_; rintro e w2 ⟨nb, bb, rfl, hne, l1, l2, cn, cb, hb⟩))
  simp only [World.size_alloc] at l1 l2
  have hs1 := hb1.size
  have hs2 := hb.size
  have ln : nb < w2.heap.size := block_lt_of_cell cn
  have lb : bb < w2.heap.size := block_lt_of_cell cb
  have hg1 : w.heap.size < w1.heap.size := (ownsRow_blk HW.out).2
  obtain ⟨B, hB⟩ : ∃ B, w1.heap.size = B := ⟨_, rfl⟩
  have hv0 : Boxed w2 B 43 (.slice (some ⟨w.heap.size, 0, none⟩) 0 m) := by rw [← hB]; exact (hb.block _ (by simp)).trans (Boxed.new w1 _ _)
  have hr0 : w2.ownsRow w.heap.size 5 1 (.slice (some ⟨w.heap.size, 0, none⟩) 0 m) 0 [] := ownsRow_same (HW.out.alloc _) (hb.block _ (by simp; omega))
  have hbel : Below w.heap.size w w2 := (hb1.alloc (by omega) _).trans (hb.mono (by simp; omega))
  rw [hB]
  rw [hB] at l1 l2 hg1
  simp only [World.size_alloc, hB] at hs2
  have hzB : ¬ ((B = nb ∨ B = bb) ∨ B = w2.heap.size ∨ B = w2.heap.size + 1) := by omega
  have hzg : ¬ ((w.heap.size = nb ∨ w.heap.size = bb) ∨ w.heap.size = w2.heap.size ∨ w.heap.size = w2.heap.size + 1) := by omega
  have hGV := chunk_gives n m cap b o nb bb h1 hm1 hm2 hnc hc h9 hne w2 2 (by omega) cn cb
  clear hb hB hb1 HW cn cb
  refine range_wp (gf := 201) (lb := #[.pointer (some ⟨nb, 0, none⟩), .pointer (some ⟨bb, 0, none⟩)]) rfl (enters_of Tryz.func201 (by kernel_rfl) rfl)
    hGV (by rintro k (rfl | rfl) <;> assumption) (fun _ => rfl)
    (fun pre W' => Boxed W' B 43 (.slice (some ⟨w.heap.size, 0, none⟩) pre.length m) ∧ W'.ownsRow w.heap.size 5 1 (.slice (some ⟨w.heap.size, 0, none⟩) pre.length m) pre.length (((packB l).take pre.length).map (Value.int .u8)) ∧ Below w.heap.size w W')
    (fun _ _ _ => False) ?hI (fun _ _ _ _ hh _ => hh) ⟨hv0, by simpa using hr0, hbel⟩ ?_ ?assign ?body ?done ?stop
  case hI =>
    rintro p A B' ⟨h1, h2, h4⟩ hs
    refine ⟨boxed_sep h1 hs hzB, ownsRow_same h2 (hs.block _ (ownsRow_blk h2).2 hzg), ?_⟩
    exact h4.trans (hs.below h4.size (by intro k hk; omega))
  case assign =>
    intro l x W K hK
    unfold encC
    gi_wp2
    exact hK
  case body =>
    rintro ll pre k rest W' hx hlt ⟨hv, hrow, hB⟩
    obtain ⟨rfl, hkm⟩ := range_mid hx
    obtain ⟨k, hkk⟩ : ∃ k, pre.length = k := ⟨_, rfl⟩
    rw [hkk] at hv hrow hkm ⊢
    have HK := Lib.hid hkk
    clear hx hkk hv0 hr0
    have hk8 : 8 * k < n := by omega
    obtain ⟨pt, hpt⟩ : ∃ pt, (l.drop (8 * k)).take 8 = pt := ⟨_, rfl⟩
    have hptl : pt.length = partLen n k := by rw [← hpt, List.length_take, List.length_drop, HL.out]; unfold partLen; rfl
    have hptg : ∀ i, i < pt.length → pt.getD i 0 = l.getD (8 * k + i) 0 := fun i hi => by
      have : i < 8 := by rw [hptl] at hi; unfold partLen at hi; omega
      rw [← hpt, List.getD_eq_getElem?_getD, List.getElem?_take_of_lt this, List.getElem?_drop, ← List.getD_eq_getElem?_getD]
    have hpto : Ones pt := fun x hx => HB.out x (List.mem_of_mem_drop (List.mem_of_mem_take (hpt ▸ hx)))
    have hgk := HG.out k hk8
    rw [hpt] at hgk
    have hp1 : 1 ≤ partLen n k := by unfold partLen; omega
    have hp8 : partLen n k ≤ 8 := by unfold partLen; omega
    have hin : 8 * k + partLen n k ≤ n := by unfold partLen; omega
    obtain ⟨p, hpp⟩ : ∃ p, partLen n k = p := ⟨_, rfl⟩
    rw [hpp] at hptl hp1 hp8 hin ⊢
    clear hpt hpp
    have hvc := hv.cell
    have hs5 := hB.size
    have hsrc : ∀ j v, (pt.map (Value.int .i64))[j]? = some v → ∀ W6, Below w.heap.size w W6 → W6.cell? ((⟨b, o + 8 * k, none⟩ : Addr).add j) = some v := fun j v hv W6 hB6 => by
      have hj : j < pt.length := by have := (List.getElem?_eq_some_iff.1 hv).1; simpa using this
      rw [Addr.add_lit, Nat.add_assoc]
      refine cell_later hB6 ?_
      rw [HS.out (8 * k + j) (by omega), ← hptg j hj]
      rw [List.getElem?_map, List.getElem?_eq_getElem hj] at hv
      rw [← hv, List.getD_eq_getElem?_getD, List.getElem?_eq_getElem hj]; rfl
    have HSRC := Lib.hid hsrc
    have HPT := Lib.hid hptl
    clear hsrc hptg hptl
    gi_wp2_with (with_reducible refine wpListIn_copy_row rfl _ _ 22 22 rfl 3 Tryz.underlying22 (by kernel_rfl) W'.heap.size 0 8 8 ⟨b, o + 8 * k, none⟩ p p rfl rfl #[.int .i64 0, .int .i64 0, .int .i64 0, .int .i64 0, .int .i64 0, .int .i64 0, .int .i64 0, .int .i64 0] 265 (World.alloc_heap_new _ _) (pt.map (Value.int .i64)) (by rw [List.length_map, HPT.out]; exact (Nat.min_eq_left hp8).symm) (fun j v hv => HSRC.out j v hv _ (hB.alloc (by omega) _)) (by rw [List.length_map, HPT.out]; simp; omega) (ints_oneCell _ _) ?_; intro v9)
    go_simp
    rw [pad_cells pt (by rw [HPT.out]; exact hp8)]
    have hpd := pad_01 hpto
    obtain ⟨q7, q6, q5, q4, q3, q2, q1, q0, hq⟩ := list8 (pad pt) (pad_len pt (by rw [HPT.out]; exact hp8))
    rw [hq] at hpd hgk ⊢
    have f7 := hpd q7 (by simp)
    have f6 := hpd q6 (by simp)
    have f5 := hpd q5 (by simp)
    have f4 := hpd q4 (by simp)
    have f3 := hpd q3 (by simp)
    have f2 := hpd q2 (by simp)
    have f1 := hpd q1 (by simp)
    have f0 := hpd q0 (by simp)
    simp only [List.map_cons, List.map_nil]
    obtain ⟨E, hE⟩ : ∃ E, W'.heap.size = E := ⟨_, rfl⟩
    obtain ⟨W6, hW6⟩ : ∃ W6, (W'.alloc (.cells #[.int .i64 0, .int .i64 0, .int .i64 0, .int .i64 0, .int .i64 0, .int .i64 0, .int .i64 0, .int .i64 0] 265)).setRow W'.heap.size #[.int .i64 q7, .int .i64 q6, .int .i64 q5, .int .i64 q4, .int .i64 q3, .int .i64 q2, .int .i64 q1, .int .i64 q0] = W6 := ⟨_, rfl⟩
    have hq6 : W6.heap[E]? = some (.cells #[.int .i64 q7, .int .i64 q6, .int .i64 q5, .int .i64 q4, .int .i64 q3, .int .i64 q2, .int .i64 q1, .int .i64 q0] 265 (0, 0)) := by
      rw [← hW6, ← hE]; exact setRow_heap _ _ _ _ _ _ (World.alloc_heap_new _ _)
    have hb6 : Below W'.heap.size W' W6 := by rw [← hW6]; exact below_setRow ((Below.refl _ _).alloc (Nat.le_refl _) _) (Nat.le_refl _) _
    have hs6 : W6.heap.size = E + 1 := by rw [← hW6, ← hE]; simp
    have hv6 : Boxed W6 B 43 (.slice (some ⟨w.heap.size, 0, none⟩) k m) := (hb6.block _ hv.lt).trans hv
    have hr6 := ownsRow_same hrow (hb6.block _ (ownsRow_blk hrow).2)
    have hB6 := hB.trans (hb6.mono (by omega))
    have hh6 : Hold (fun k => (k = nb ∨ k = bb) ∨ k = w2.heap.size ∨ k = w2.heap.size + 1) W' W6 := Hold.below hb6 (by intro k hk; omega)
    rw [hW6, hE]
    have hlE : w2.heap.size + 1 < E := by omega
    clear hW6 hb6 hpd hq hv hvc hrow hB
    have hvc := hv6.cell
    have hvf := hv6.frozen
    have hBE : ¬ B = E := by omega
    have e0 : W6.cell? ⟨E, 0, none⟩ = some (.int .i64 q7) := by simp [World.cell?, hq6]
    have e1 : W6.cell? ⟨E, 1, none⟩ = some (.int .i64 q6) := by simp [World.cell?, hq6]
    have e2 : W6.cell? ⟨E, 2, none⟩ = some (.int .i64 q5) := by simp [World.cell?, hq6]
    have e3 : W6.cell? ⟨E, 3, none⟩ = some (.int .i64 q4) := by simp [World.cell?, hq6]
    have e4 : W6.cell? ⟨E, 4, none⟩ = some (.int .i64 q3) := by simp [World.cell?, hq6]
    have e5 : W6.cell? ⟨E, 5, none⟩ = some (.int .i64 q2) := by simp [World.cell?, hq6]
    have e6 : W6.cell? ⟨E, 6, none⟩ = some (.int .i64 q1) := by simp [World.cell?, hq6]
    have e7 : W6.cell? ⟨E, 7, none⟩ = some (.int .i64 q0) := by simp [World.cell?, hq6]
    obtain ⟨v0, gc, gf⟩ := ownsRow_room hr6 hkm
    have hGE : ¬ w.heap.size = E := by omega
    have hGB : ¬ w.heap.size = B := by omega
    have hBG : ¬ B = w.heap.size := by omega
    have hk1 : k + 1 ≤ m := by omega
    have HJ := Lib.hid (fun W => join_any q7 q6 q5 q4 q3 q2 q1 q0 (by omega) (by omega) (by omega) (by omega) (by omega) (by omega) (by omega) (by omega) (by omega) (by omega) (by omega) (by omega) (by omega) (by omega) (by omega) (by omega) W)
    obtain ⟨y, hy⟩ : ∃ y, num [q7, q6, q5, q4, q3, q2, q1, q0] 0 = y := ⟨_, rfl⟩
    rw [hy] at HJ hgk
    have HGK := Lib.hid hgk
    clear f7 f6 f5 f4 f3 f2 f1 f0 hq6 hy hgk hpto hE
    have hlen : (pre ++ [k]).length = k + 1 := by simp [HK.out]
    have htk : ((packB l).take k).map (Value.int .u8) ++ [.int .u8 y] = ((packB l).take (k + 1)).map (Value.int .u8) := by
      rw [← take_next (packB l) k (by rw [HP.out]; exact hkm), HGK.out]; simp
    have HLEN := Lib.hid hlen
    have HTK := Lib.hid htk
    clear hlen htk
    gi_wp2
    gi_region_with (first | (refine ⟨trivial, ?_⟩; gi_at_call 191; refine (((callsIn_wide (n := _)).2 (HJ.out _)).inRound ll).mono ?_; rintro e w7 ⟨rfl, hb7⟩; have c7 := cell_later hb7 gc; have f7 := (hb7.frozen (p := ⟨w.heap.size, k, none⟩) (block_lt_of_cell gc)).trans gf; have c8 := cell_later hb7 hvc; have f8 := (hb7.frozen (p := ⟨B, 0, none⟩) (block_lt_of_cell hvc)).trans hvf; have l7 := block_lt_of_cell c7; have l8 := block_lt_of_cell c8))
    all_goals
      have hb8 : Below W6.heap.size W6 w7 := (show Below W6.heap.size W6 W6.drew from ⟨rfl, rfl, rfl, Nat.le_refl _, fun _ _ => rfl⟩).trans hb7
      have hv7 : Boxed w7 B 43 (.slice (some ⟨w.heap.size, 0, none⟩) k m) := (hb8.block _ hv6.lt).trans hv6
      have hr8 := ownsRow_push (ownsRow_same hr6 (hb8.block _ (ownsRow_blk hr6).2)) hkm (.int .u8 y)
      rw [HTK.out] at hr8
      have hv8 : Boxed (w7.setCell ⟨w.heap.size, k, none⟩ (.int .u8 y)) B 43 (.slice (some ⟨w.heap.size, 0, none⟩) k m) := (Below.heap_setCell _ _ _ _ (by simpa using hBG)).trans hv7
      have hr9 := ((hr8.kept (grownBy_setCell' _ B (.slice (some ⟨w.heap.size, 0, none⟩) (k + 1) m)) (.inr (by simpa [Value.ownBlock] using hGB))).alloc (.cells #[.int .u8 y] 5))
      have hv9 := ((hv8.set (.slice (some ⟨w.heap.size, 0, none⟩) (k + 1) m)).alloc (.cells #[.int .u8 y] 5))
      have hBf : Below w.heap.size w (((w7.setCell ⟨w.heap.size, k, none⟩ (.int .u8 y)).setCell ⟨B, 0, none⟩ (.slice (some ⟨w.heap.size, 0, none⟩) (k + 1) m)).alloc (.cells #[.int .u8 y] 5)) :=
        (((hB6.trans (hb8.mono (by omega))).setCell (p := ⟨w.heap.size, k, none⟩) (Nat.le_refl _) _).setCell (p := ⟨B, 0, none⟩) (by show _ ≤ B; omega) _).alloc (by simp [World.setCell]; omega) _
      have hhf := ((((hh6.trans (Hold.below hb8 (by intro k hk; omega))).trans (.setCell (b := w.heap.size) (o := k) (p := none) _ hzg (.int .u8 y))).trans (.setCell (b := B) (o := 0) (p := none) _ hzB (.slice (some ⟨w.heap.size, 0, none⟩) (k + 1) m))).trans (.alloc _ _ (.cells #[.int .u8 y] 5)))
      clear hb7 c7 f7 c8 f8 l7 l8 hb8 hv7 hv8 hr8
      gi_wp2
      refine ⟨hhf, ?_, ?_, hBf⟩
      · rw [HLEN.out]; exact hv9
      · rw [HLEN.out]; exact hr9
  case done =>
    rintro W' ⟨hv, hrow, hB⟩ hK
    have hvc := hv.cell
    rw [List.length_range, List.take_of_length_le (by rw [HP.out]; omega)] at hrow
    rw [List.length_range] at hvc
    have HR := Lib.hid hrow
    clear hv0 hr0 hv hrow
    go_wp2
    refine ret_mark hK (results_tmp2 rfl _ _ _) ?_
    have hlK : w2.heap.size < W'.heap.size := (Array.getElem?_eq_some_iff.1 hK).1
    exact ⟨some ⟨w.heap.size, 0, none⟩, m, rfl, ownsRow_same HR.out (World.putObj_heap_other (by omega)), Below.putObj hB (by omega) _⟩
  case stop =>
    rintro c pre W _ hh _
    exact hh.elim
theorem bytesV_len {n : Nat} (h1 : 1 ≤ n) (h2 : n ≤ 4096) : ∃ m : Nat, bytesV n = m ∧ n ≤ 8 * m ∧ 8 * m < n + 8 := by
  unfold bytesV
  rw [if_neg (by omega)]
  exact ⟨(n + 7) / 8, by omega, by omega, by omega⟩
theorem pack_any (a : Option Addr) (n cap : Nat) (l : List Int) (w : World) (hnc : n ≤ cap) (hc : cap ≤ 9223372036854775807) (h : SlK .i64 w a n l) :
    Calls Tryz.prog 171 #[.slice a n cap] w (PackR l w) := by
  have hl : l.length = n := h.1
  cases hp : packOk l
  · refine (pack_no a n cap l w (by omega) h hp).mono ?_
    rintro e w' ⟨rfl, rfl⟩
    unfold PackR packV packE
    rw [hp]
    exact ⟨none, 0, rfl, World.ownsRow_nil _ _ _ _, Below.refl _ _⟩
  · have hq := hp
    unfold packOk at hq
    simp only [Bool.and_eq_true, decide_eq_true_eq] at hq
    obtain ⟨⟨h1, h2⟩, ho⟩ := hq
    obtain ⟨m, hm, hm1, hm2⟩ := bytesV_len (n := n) (by omega) (by omega)
    rcases h.2 with h0 | ⟨b, o, rfl, hs⟩
    · omega
    · refine (pack_yes b o n m cap l w hnc hc hl hs ho (by omega) (by omega) hm hm1 hm2).mono ?_
      rintro e w' ⟨ad, c, rfl, hr, hb⟩
      have hpl := packB_len m l (by omega) (by omega)
      unfold PackR packV packE
      simp only [hp, if_true]
      exact ⟨ad, c, by rw [hpl], by rw [hpl]; exact hr, hb⟩
end Bt
end Go.Proofs.YtmnhiagppicegaaGreat

/- 'append([]byte(s), y...)': bytes behind a row that was made of a text, as a law for the walk. Condition: not too many bytes. -/
namespace Go.Proofs.YtmnhiagppicegaaGreat
open Go.RowKit
set_option linter.unusedVariables false
theorem Im.below_setCells {B b : Nat} (hB : B ≤ b) : ∀ (vs : List Value) (o : Nat) (w : World), Below B w (w.setCells b o vs)
  | [], _, w => .refl _ w
  | v :: vs, o, w => by
    rw [World.setCells]
    exact ((Below.refl B w).setCell (p := ⟨b, o, none⟩) hB v).trans (Im.below_setCells hB vs (o + 1) _)
/-- a row with room behind it that may be written -/
def Im.Rm (w : World) (b n cap : Nat) (xs : List Int) : Prop := Bt.Bs w (some ⟨b, 0, none⟩) n cap xs ∧ b < w.heap.size ∧ ∀ j, n ≤ j → j < cap → (w.cell? ⟨b, j, none⟩).isSome = true ∧ w.frozen? ⟨b, j, none⟩ = false
theorem Im.Rm.later {w w' : World} {b n cap : Nat} {xs : List Int} (h : Im.Rm w b n cap xs) (hb : Below w.heap.size w w') : Im.Rm w' b n cap xs := by
  obtain ⟨h1, h2, h4⟩ := h
  refine ⟨h1.below hb, Nat.lt_of_lt_of_le h2 hb.size, fun j j1 j2 => ⟨?_, ?_⟩⟩
  · obtain ⟨v, hv⟩ := Option.isSome_iff_exists.1 (h4 j j1 j2).1
    rw [cell_later hb hv]; rfl
  · rw [hb.frozen (p := ⟨b, j, none⟩) h2]; exact (h4 j j1 j2).2
theorem Im.run_app {w : World} {b n cap : Nat} {xs : List Int} (h : Im.Rm w b n cap xs) (hn : 1 ≤ n) {a : Option Addr} {m c : Nat} {l : List Int} (hy : SlK .u8 w a m l) (hm : 1 ≤ m) (hl9 : n + m ≤ 1000000) (ty : TypeId) :
    ∃ a' c' w', (Builtin.append_ #[43, 43] ty #[.slice (some ⟨b, 0, none⟩) n cap, .slice a m c]).run Tryz.prog w = .ok (.slice a' (n + m) c') w' ∧ SlK .u8 w' a' (n + m) (xs ++ l) ∧ ∀ B, B ≤ b → Below B w w' := by
  obtain ⟨i0, hi, hz0, hz1, hz2⟩ := info_parts Bt.Tryz.info_byt
  obtain ⟨⟨⟨hxl, hx⟩, hnc, hcm, hby⟩, hlt, hsp⟩ := h
  obtain ⟨hll, hyc⟩ := hy
  rcases hyc with h0 | ⟨gb, go, rfl, hyc⟩
  · omega
  rcases hx with h0 | ⟨b', o', e', hx⟩
  · omega
  cases e'
  have hnews : ∀ j u, (l.map (Value.int .u8))[j]? = some u → w.cell? ((⟨gb, go, none⟩ : Addr).add j) = some u := fun j u hj => by
    rw [List.getElem?_map] at hj
    have hjm : j < m := by
      rcases Nat.lt_or_ge j m with h | h
      · exact h
      · rw [List.getElem?_eq_none (by omega)] at hj; cases hj
    rw [List.getElem?_eq_getElem (by omega)] at hj
    have := hyc j hjm
    rw [List.getD_eq_getElem?_getD, List.getElem?_eq_getElem (by omega)] at this
    rw [addrK_add, this]; exact hj
  have hone : ∀ u ∈ l.map (Value.int .u8), u.oneCell' = true := fun u hu => by obtain ⟨x, _, rfl⟩ := List.mem_map.1 hu; rfl
  have hlm : (l.map (Value.int .u8)).length = m := by rw [List.length_map, hll]
  by_cases hroom : n + m ≤ cap
  · have hr := run_append_room_src (P := Tryz.prog) w 43 43 ty 5 i0 Tryz.underlying43 hi b 0 n cap (.slice (some ⟨gb, go, none⟩) m c) m (l.map (Value.int .u8)) (Src.ofSlice w Tryz.underlying43 _ m c _ (by rw [hlm, hz1, Nat.mul_one]) hnews hone) hroom
      (fun j hj => by rw [hz1, Nat.mul_one, Nat.zero_add]; exact (hsp (n + j) (by omega) (by omega)).1) (fun j hj => by rw [hz1, Nat.mul_one, Nat.zero_add]; exact (hsp (n + j) (by omega) (by omega)).2)
    rw [hz1, Nat.mul_one, Nat.zero_add] at hr
    refine ⟨_, _, _, hr, ⟨by rw [List.length_append, hxl, hll], .inr ⟨b, 0, rfl, fun i hi2 => ?_⟩⟩, fun B hB => Im.below_setCells hB _ _ _⟩
    rw [Nat.zero_add]
    by_cases hin : i < n
    · rw [World.cell?_setCells_out b _ n w ⟨b, i, none⟩ (fun _ _ => .inl hin)]
      have := hx i hin
      rw [Nat.zero_add] at this
      rw [this, List.getD_eq_getElem?_getD, List.getD_eq_getElem?_getD, List.getElem?_append_left (by omega)]
    · obtain ⟨k, rfl⟩ : ∃ k, i = n + k := ⟨i - n, by omega⟩
      have hk : k < (l.map (Value.int .u8)).length := by omega
      rw [World.cell?_setCells_in b _ n w (fun q hq => (hsp (n + q) (by omega) (by omega)).1) k hk, List.getD_eq_getElem?_getD, List.getElem?_append_right (by omega), hxl, Nat.add_sub_cancel_left, List.getElem?_eq_getElem (by omega)]
      simp
  · have holds : ∀ j u, (xs.map (Value.int .u8))[j]? = some u → w.cell? ((⟨b, 0, none⟩ : Addr).add j) = some u := fun j u hj => by
      rw [List.getElem?_map] at hj
      have hjn : j < n := by
        rcases Nat.lt_or_ge j n with h | h
        · exact h
        · rw [List.getElem?_eq_none (by omega)] at hj; cases hj
      rw [List.getElem?_eq_getElem (by omega)] at hj
      have := hx j hjn
      rw [List.getD_eq_getElem?_getD, List.getElem?_eq_getElem (by omega)] at this
      rw [addrK_add, this]; exact hj
    have hr := run_append_grow (P := Tryz.prog) w 43 ty 5 i0 (.int .u8 0) Tryz.underlying43 hi hz0 ⟨b, 0, none⟩ n cap (xs.map (Value.int .u8)) (by rw [List.length_map, hxl, hz1, Nat.mul_one]) holds ⟨gb, go, none⟩ m c (l.map (Value.int .u8)) (by rw [hlm, hz1, Nat.mul_one]) hnews (by omega) (by omega) (by have := Go.Room.nextslicecap_le' (need := n + m) (old := cap) (by omega); rw [hz2]; omega)
    refine ⟨_, _, _, hr, ⟨by rw [List.length_append, hxl, hll], .inr ⟨w.heap.size, 0, rfl, fun i hi2 => ?_⟩⟩, fun B hB => ((Below.refl B w).drew).alloc (by show B ≤ w.heap.size; omega) _⟩
    rw [Nat.zero_add]
    have hg : (xs ++ l).length = n + m := by rw [List.length_append, hxl, hll]
    show (w.drew.alloc _).cell? ⟨w.drew.heap.size, i, none⟩ = _
    rw [World.cell?_alloc_at _ _ _ _ rfl]
    rw [Array.getElem?_append_left (by simp [hxl, hll]; omega)]
    rw [List.append_toArray, List.getElem?_toArray, ← List.map_append, List.getElem?_map, List.getElem?_eq_getElem (by omega), List.getD_eq_getElem?_getD, List.getElem?_eq_getElem (by omega)]
    rfl
end Go.Proofs.YtmnhiagppicegaaGreat

/- A reader of digits in a block of its own, over any memory: what it is made of, and what its small parts do. Condition: its head may be. -/
namespace Go.Proofs.YtmnhiagppicegaaGreat
open Go.RowKit
set_option linter.unusedVariables false

/-- the eleven cells of a reader -/
def PlC (w : World) (b : Nat) (h : Hd.H) (n : Int) (sv rv : Value) (rows t f : Int) (x : Value) : Prop :=
  w.heap[b]? = some (.cells #[.int .i64 h.kd, .int .i64 h.w, .int .i64 h.h, .int .i64 h.m, .int .i64 n, sv, rv, .int .i64 rows, .int .i64 t, .int .i64 f, x] 194 (0, 0))
section
variable {w w' : World} {b : Nat} {h : Hd.H} {n : Int} {sv rv : Value} {rows t f : Int} {x : Value}
theorem PlC.lt (H : PlC w b h n sv rv rows t f x) : b < w.heap.size := (Array.getElem?_eq_some_iff.1 H).1
theorem PlC.later (H : PlC w b h n sv rv rows t f x) (hb : Below w.heap.size w w') : PlC w' b h n sv rv rows t f x := (hb.block b H.lt).trans H
theorem PlC.kept {row : Option Nat} (H : PlC w b h n sv rv rows t f x) (hg : w.grownBy w' row) (hne : some b ≠ row) : PlC w' b h n sv rv rows t f x := (hg.block b H.lt hne).trans H
theorem PlC.sep {Z : Nat → Prop} (H : PlC w b h n sv rv rows t f x) (hs : Sep Z w w') (hz : ¬ Z b) : PlC w' b h n sv rv rows t f x := (hs.block b H.lt hz).trans H
theorem PlC.drewN (H : PlC w b h n sv rv rows t f x) (k : Nat) : PlC (w.drewN k) b h n sv rv rows t f x := H
theorem PlC.drew (H : PlC w b h n sv rv rows t f x) : PlC w.drew b h n sv rv rows t f x := H
theorem PlC.alloc (H : PlC w b h n sv rv rows t f x) (o : Obj) : PlC (w.alloc o) b h n sv rv rows t f x := H.kept (World.grownBy_alloc w o none) (by simp)
theorem PlC.fr (H : PlC w b h n sv rv rows t f x) (o : Nat) : w.frozen? ⟨b, o, none⟩ = false := by have h' : w.heap[b]? = _ := H; simp [World.frozen?, h']
theorem PlC.c0 (H : PlC w b h n sv rv rows t f x) : w.cell? ⟨b, 0, none⟩ = some (.int .i64 h.kd) := by have h' : w.heap[b]? = _ := H; simp [World.cell?, h']
theorem PlC.c1 (H : PlC w b h n sv rv rows t f x) : w.cell? ⟨b, 1, none⟩ = some (.int .i64 h.w) := by have h' : w.heap[b]? = _ := H; simp [World.cell?, h']
theorem PlC.c2 (H : PlC w b h n sv rv rows t f x) : w.cell? ⟨b, 2, none⟩ = some (.int .i64 h.h) := by have h' : w.heap[b]? = _ := H; simp [World.cell?, h']
theorem PlC.c3 (H : PlC w b h n sv rv rows t f x) : w.cell? ⟨b, 3, none⟩ = some (.int .i64 h.m) := by have h' : w.heap[b]? = _ := H; simp [World.cell?, h']
theorem PlC.c4 (H : PlC w b h n sv rv rows t f x) : w.cell? ⟨b, 4, none⟩ = some (.int .i64 n) := by have h' : w.heap[b]? = _ := H; simp [World.cell?, h']
theorem PlC.c5 (H : PlC w b h n sv rv rows t f x) : w.cell? ⟨b, 5, none⟩ = some (sv) := by have h' : w.heap[b]? = _ := H; simp [World.cell?, h']
theorem PlC.c6 (H : PlC w b h n sv rv rows t f x) : w.cell? ⟨b, 6, none⟩ = some (rv) := by have h' : w.heap[b]? = _ := H; simp [World.cell?, h']
theorem PlC.c7 (H : PlC w b h n sv rv rows t f x) : w.cell? ⟨b, 7, none⟩ = some (.int .i64 rows) := by have h' : w.heap[b]? = _ := H; simp [World.cell?, h']
theorem PlC.c8 (H : PlC w b h n sv rv rows t f x) : w.cell? ⟨b, 8, none⟩ = some (.int .i64 t) := by have h' : w.heap[b]? = _ := H; simp [World.cell?, h']
theorem PlC.c9 (H : PlC w b h n sv rv rows t f x) : w.cell? ⟨b, 9, none⟩ = some (.int .i64 f) := by have h' : w.heap[b]? = _ := H; simp [World.cell?, h']
theorem PlC.c10 (H : PlC w b h n sv rv rows t f x) : w.cell? ⟨b, 10, none⟩ = some (x) := by have h' : w.heap[b]? = _ := H; simp [World.cell?, h']
theorem PlC.put4 (H : PlC w b h n sv rv rows t f x) (y : Int) : PlC (w.setCell ⟨b, 4, none⟩ (.int .i64 y)) b h y sv rv rows t f x := by
  have h' : w.heap[b]? = _ := H
  simpa [PlC] using Go.heap_setCell_same w b 4 _ _ (.int .i64 y) h'
theorem PlC.put5 (H : PlC w b h n sv rv rows t f x) (y : Value) : PlC (w.setCell ⟨b, 5, none⟩ y) b h n y rv rows t f x := by
  have h' : w.heap[b]? = _ := H
  simpa [PlC] using Go.heap_setCell_same w b 5 _ _ y h'
theorem PlC.put6 (H : PlC w b h n sv rv rows t f x) (y : Value) : PlC (w.setCell ⟨b, 6, none⟩ y) b h n sv y rows t f x := by
  have h' : w.heap[b]? = _ := H
  simpa [PlC] using Go.heap_setCell_same w b 6 _ _ y h'
theorem PlC.put7 (H : PlC w b h n sv rv rows t f x) (y : Int) : PlC (w.setCell ⟨b, 7, none⟩ (.int .i64 y)) b h n sv rv y t f x := by
  have h' : w.heap[b]? = _ := H
  simpa [PlC] using Go.heap_setCell_same w b 7 _ _ (.int .i64 y) h'
theorem PlC.put8 (H : PlC w b h n sv rv rows t f x) (y : Int) : PlC (w.setCell ⟨b, 8, none⟩ (.int .i64 y)) b h n sv rv rows y f x := by
  have h' : w.heap[b]? = _ := H
  simpa [PlC] using Go.heap_setCell_same w b 8 _ _ (.int .i64 y) h'
theorem PlC.put9 (H : PlC w b h n sv rv rows t f x) (y : Int) : PlC (w.setCell ⟨b, 9, none⟩ (.int .i64 y)) b h n sv rv rows t y x := by
  have h' : w.heap[b]? = _ := H
  simpa [PlC] using Go.heap_setCell_same w b 9 _ _ (.int .i64 y) h'
theorem PlC.put10 (H : PlC w b h n sv rv rows t f x) (y : Value) : PlC (w.setCell ⟨b, 10, none⟩ y) b h n sv rv rows t f y := by
  have h' : w.heap[b]? = _ := H
  simpa [PlC] using Go.heap_setCell_same w b 10 _ _ y h'
end
theorem plain_cells (w : World) (h : Hd.H) (sv rv : Value) (n rows t f : Int) (x : Value) : PlC (w.alloc (.cells #[.int .i64 h.kd, .int .i64 h.w, .int .i64 h.h, .int .i64 h.m, .int .i64 n, sv, rv, .int .i64 rows, .int .i64 t, .int .i64 f, x] 194)) w.heap.size h n sv rv rows t f x := World.alloc_heap_new w _
def stA : Value := .func (.func 176) #[] #[]
def stD : Value := .func (.func 195) #[] #[]
def stB : Value := .func (.func 177) #[] #[]
theorem enPA : ∀ args w, (callFunc 176 args).run Tryz.prog w = .ok (.enter 176 args) w := enters_of Tryz.func176 (by kernel_rfl) rfl
theorem enPD : ∀ args w, (callFunc 195 args).run Tryz.prog w = .ok (.enter 195 args) w := enters_of Tryz.func195 (by kernel_rfl) rfl
theorem enPB : ∀ args w, (callFunc 177 args).run Tryz.prog w = .ok (.enter 177 args) w := enters_of Tryz.func177 (by kernel_rfl) rfl
section
variable (w : World) (b : Nat) (h : Hd.H) (n : Int) (sv rv : Value) (rows t f : Int) (x : Value) (H : PlC w b h n sv rv rows t f x)
include H
set_option maxHeartbeats 1000000 in
/-- it is made wrong -/
theorem plWrong_any (er : Int) :
    Calls Tryz.prog 125 #[.pointer (some ⟨b, 0, none⟩), .int .i64 er] w fun e w' => e = .returned (.tuple #[]) ∧ PlC w' b h n sv rv rows 2 er x ∧ w.grownBy w' (some b) := by
  have hc8 := H.c8
  have hc9 := H.c9
  have f8 := H.fr 8
  have f9 := H.fr 9
  go_enter Tryz.func125, Tryz.ntmps125
  go_wp2
  go_end0
  exact ⟨rfl, (H.put8 _).put9 _, (grown_set _ _ _ _).trans (grown_set _ _ _ _)⟩
set_option maxHeartbeats 1000000 in
theorem plError_any :
    Calls Tryz.prog 147 #[.pointer (some ⟨b, 0, none⟩)] w fun e w' => e = .returned (.int .i64 f) ∧ w = w' := by
  have hc9 := H.c9
  go_enter Tryz.func147, Tryz.ntmps147
  go_wp2
  go_ret
  exact ⟨rfl, rfl⟩
end
section
variable (w : World) (b : Nat) (h : Hd.H) (n : Int) (sv rv : Value) (rows t f : Int) (x : Value) (H : PlC w b h n sv rv rows t f x) (n0 : 0 ≤ n) (n1 : n ≤ h.m) (m1 : h.m ≤ 65535) (c : Int) (c0 : 0 ≤ c) (c1 : c ≤ 255) (k er : Int) (hs : Nu.stepV n c h.m = (k, er))
include H n0 n1 m1 c0 c1 hs
set_option maxHeartbeats 1000000 in
theorem plDigit_range (he : er = 4) :
    Calls Tryz.prog 196 #[.pointer (some ⟨b, 0, none⟩), .int .u8 c] w fun e w' => e = .returned (.int .i64 5) ∧ PlC w' b h n sv rv rows t f x ∧ w.grownBy w' (some b) := by
  have hc3 := H.c3
  have hc4 := H.c4
  have HS : Hid (∀ W, Calls Tryz.prog 205 #[.int .i64 n, .int .u8 c, .int .i64 h.m] W fun r w' => r = .returned (.tuple #[.int .i64 k, .int .i64 er]) ∧ W = w') := fun W => step_two n c h.m n0 n1 (by omega) c0 c1 k er hs W
  subst he
  clear hs
  go_enter Tryz.func196, Tryz.ntmps196
  go_wp2_with (go_quiet ((go_at_call 205; exact Calls.quiet_of_same ((HS.out _).mono fun e w' hh => ⟨hh.1, hh.2.symm⟩))))
  go_ret
  exact ⟨rfl, H.drewN _, grown_drew _ _ _⟩
set_option maxHeartbeats 1000000 in
theorem plDigit_any (he : er ≠ 4) :
    Calls Tryz.prog 196 #[.pointer (some ⟨b, 0, none⟩), .int .u8 c] w fun e w' => e = .returned (.int .i64 er) ∧ PlC w' b h k sv rv rows t f x ∧ w.grownBy w' (some b) := by
  have hc3 := H.c3
  have hc4 := H.c4
  have f4 := H.fr 4
  have HS : Hid (∀ W, Calls Tryz.prog 205 #[.int .i64 n, .int .u8 c, .int .i64 h.m] W fun r w' => r = .returned (.tuple #[.int .i64 k, .int .i64 er]) ∧ W = w') := fun W => step_two n c h.m n0 n1 (by omega) c0 c1 k er hs W
  have ke : (er == 4) = false := by simpa using he
  clear hs he
  go_enter Tryz.func196, Tryz.ntmps196
  go_wp2_with (go_quiet ((go_at_call 205; exact Calls.quiet_of_same ((HS.out _).mono fun e w' hh => ⟨hh.1, hh.2.symm⟩))))
  go_ret
  exact ⟨rfl, (H.drewN _).put4 _, (grown_drew _ _ _).trans (grown_set _ _ _ _)⟩
end
/-- what a part of a reader hands back, and what its block holds then -/
def StR (w : World) (b : Nat) (h : Hd.H) (k : Int) (sv rv : Value) (rows : Int) (x : Value) (d : Bool) (er : Int) (e : Ending) (w' : World) : Prop :=
  e = .returned (.tuple #[.bool d, .int .i64 er]) ∧ PlC w' b h k sv rv rows 0 0 x ∧ w.grownBy w' (some b)
section
variable (w : World) (b : Nat) (h : Hd.H) (n : Int) (sv rv : Value) (rows : Int) (c : Int) (c0 : 0 ≤ c) (c1 : c ≤ 255)
include c0 c1
set_option maxHeartbeats 1000000 in
theorem plAhead_blank (hb : Tk.blank c = true) (H : PlC w b h n sv rv rows 0 0 stA) :
    Calls Tryz.prog 176 #[.pointer (some ⟨b, 0, none⟩), .int .u8 c] w (StR w b h n sv rv rows stA false 0) := by
  have HB : Hid (∀ W, Calls Tryz.prog 122 #[.int .u8 c] W fun e w' => e = .returned (.bool true) ∧ W = w') := fun W => by have := blank_any c c0 c1 W; rw [hb] at this; exact this
  clear hb
  go_enter Tryz.func176, Tryz.ntmps176
  go_wp2_with (go_at_call 122; refine (HB.out _).mono ?_; rintro e w1 ⟨rfl, rfl⟩)
  go_ret2
  exact ⟨rfl, H, .refl _ _⟩
set_option maxHeartbeats 1000000 in
theorem plAhead_digit (hb : Tk.blank c = false) (H : PlC w b h n sv rv rows 0 0 stA) (k er : Int)
    (hd : ∀ W, PlC W b h n sv rv rows 0 0 stD → Calls Tryz.prog 196 #[.pointer (some ⟨b, 0, none⟩), .int .u8 c] W fun e w' => e = .returned (.int .i64 er) ∧ PlC w' b h k sv rv rows 0 0 stD ∧ W.grownBy w' (some b)) :
    Calls Tryz.prog 176 #[.pointer (some ⟨b, 0, none⟩), .int .u8 c] w (StR w b h k sv rv rows stD false er) := by
  have HB : Hid (∀ W, Calls Tryz.prog 122 #[.int .u8 c] W fun e w' => e = .returned (.bool false) ∧ W = w') := fun W => by have := blank_any c c0 c1 W; rw [hb] at this; exact this
  have HD := Lib.hid hd
  have hc10 := H.c10
  have f10 := H.fr 10
  clear hb hd
  go_enter Tryz.func176, Tryz.ntmps176
  go_wp2_with (first | (go_at_call 122; refine (HB.out _).mono ?_; rintro e w1 ⟨rfl, rfl⟩) | (go_at_call 196; refine (HD.out _ (H.put10 _)).mono ?_; rintro e w2 ⟨rfl, h2, hg2⟩))
  go_ret2
  exact ⟨rfl, h2, (grown_set _ _ _ _).trans hg2⟩
set_option maxHeartbeats 1000000 in
theorem plBehind_digit (hb : Tk.blank c = false) (H : PlC w b h n sv rv rows 0 0 stD) (k er : Int)
    (hd : ∀ W, PlC W b h n sv rv rows 0 0 stD → Calls Tryz.prog 196 #[.pointer (some ⟨b, 0, none⟩), .int .u8 c] W fun e w' => e = .returned (.int .i64 er) ∧ PlC w' b h k sv rv rows 0 0 stD ∧ W.grownBy w' (some b)) :
    Calls Tryz.prog 195 #[.pointer (some ⟨b, 0, none⟩), .int .u8 c] w (StR w b h k sv rv rows stD false er) := by
  have HB : Hid (∀ W, Calls Tryz.prog 122 #[.int .u8 c] W fun e w' => e = .returned (.bool false) ∧ W = w') := fun W => by have := blank_any c c0 c1 W; rw [hb] at this; exact this
  have HD := Lib.hid hd
  clear hb hd
  go_enter Tryz.func195, Tryz.ntmps195
  go_wp2_with (first | (go_at_call 122; refine (HB.out _).mono ?_; rintro e w1 ⟨rfl, rfl⟩) | (go_at_call 196; refine (HD.out _ H).mono ?_; rintro e w2 ⟨rfl, h2, hg2⟩))
  go_ret2
  exact ⟨rfl, h2, hg2⟩
set_option maxHeartbeats 1000000 in
theorem plBehind_blank (hb : Tk.blank c = true) (H : PlC w b h n sv rv rows 0 0 stD) :
    Calls Tryz.prog 195 #[.pointer (some ⟨b, 0, none⟩), .int .u8 c] w (StR w b h n sv rv rows stA true 0) := by
  have HB : Hid (∀ W, Calls Tryz.prog 122 #[.int .u8 c] W fun e w' => e = .returned (.bool true) ∧ W = w') := fun W => by have := blank_any c c0 c1 W; rw [hb] at this; exact this
  have hc10 := H.c10
  have f10 := H.fr 10
  clear hb
  go_enter Tryz.func195, Tryz.ntmps195
  go_wp2_with (go_at_call 122; refine (HB.out _).mono ?_; rintro e w1 ⟨rfl, rfl⟩)
  go_ret2
  exact ⟨rfl, H.put10 _, grown_set _ _ _ _⟩
set_option maxHeartbeats 1000000 in
theorem plBit_blank (hb : Tk.blank c = true) (H : PlC w b h n sv rv rows 0 0 stB) :
    Calls Tryz.prog 177 #[.pointer (some ⟨b, 0, none⟩), .int .u8 c] w (StR w b h n sv rv rows stB false 0) := by
  have HB : Hid (∀ W, Calls Tryz.prog 122 #[.int .u8 c] W fun e w' => e = .returned (.bool true) ∧ W = w') := fun W => by have := blank_any c c0 c1 W; rw [hb] at this; exact this
  clear hb
  go_enter Tryz.func177, Tryz.ntmps177
  go_wp2_with (go_at_call 122; refine (HB.out _).mono ?_; rintro e w1 ⟨rfl, rfl⟩)
  go_ret2
  exact ⟨rfl, H, .refl _ _⟩
set_option maxHeartbeats 1000000 in
theorem plBit_no (hb : Tk.blank c = false) (h48 : c ≠ 48) (h49 : c ≠ 49) (H : PlC w b h n sv rv rows 0 0 stB) :
    Calls Tryz.prog 177 #[.pointer (some ⟨b, 0, none⟩), .int .u8 c] w (StR w b h n sv rv rows stB false 3) := by
  have HB : Hid (∀ W, Calls Tryz.prog 122 #[.int .u8 c] W fun e w' => e = .returned (.bool false) ∧ W = w') := fun W => by have := blank_any c c0 c1 W; rw [hb] at this; exact this
  have k8 : (c != 48) = true := by simpa using h48
  have k9 : (c != 49) = true := by simpa using h49
  clear hb h48 h49
  go_enter Tryz.func177, Tryz.ntmps177
  go_wp2_with (go_at_call 122; refine (HB.out _).mono ?_; rintro e w1 ⟨rfl, rfl⟩)
  go_ret2
  exact ⟨rfl, H, .refl _ _⟩
end
set_option maxHeartbeats 1000000 in
theorem plBit_yes (w : World) (b : Nat) (h : Hd.H) (n : Int) (sv rv : Value) (rows : Int) (c : Int) (hc : c = 48 ∨ c = 49) (H : PlC w b h n sv rv rows 0 0 stB) :
    Calls Tryz.prog 177 #[.pointer (some ⟨b, 0, none⟩), .int .u8 c] w (StR w b h (c - 48) sv rv rows stB true 0) := by
  have hc4 := H.c4
  have f4 := H.fr 4
  rcases hc with rfl | rfl
  · have HB : Hid (∀ W, Calls Tryz.prog 122 #[.int .u8 48] W fun e w' => e = .returned (.bool false) ∧ W = w') := fun W => blank_any 48 (by decide) (by decide) W
    go_enter Tryz.func177, Tryz.ntmps177
    go_wp2_with (go_at_call 122; refine (HB.out _).mono ?_; rintro e w1 ⟨rfl, rfl⟩)
    go_ret2
    exact ⟨rfl, H.put4 _, grown_set _ _ _ _⟩
  · have HB : Hid (∀ W, Calls Tryz.prog 122 #[.int .u8 49] W fun e w' => e = .returned (.bool false) ∧ W = w') := fun W => blank_any 49 (by decide) (by decide) W
    go_enter Tryz.func177, Tryz.ntmps177
    go_wp2_with (go_at_call 122; refine (HB.out _).mono ?_; rintro e w1 ⟨rfl, rfl⟩)
    go_ret2
    exact ⟨rfl, H.put4 _, grown_set _ _ _ _⟩
end Go.Proofs.YtmnhiagppicegaaGreat

/- A reader of digits: its samples' and its pixels' rows in memory of the call's own, and how they grow. No condition. -/
namespace Go.Proofs.YtmnhiagppicegaaGreat
open Go.RowKit
set_option linter.unusedVariables false

/-- the blocks that a reader may write into -/
def PlZ (b : Nat) (sv rv : Value) (k : Nat) : Prop := k = b ∨ sv.ownBlock = some k ∨ rv.ownBlock = some k
/-- a row lies where it lay, or in memory that was made since -/
def PlNew (W : World) (v v' : Value) : Prop := v'.ownBlock = v.ownBlock ∨ ∀ k, v'.ownBlock = some k → W.heap.size ≤ k
def ints (l : List Int) : List Value := l.map (Value.int .i64)
def pixs (l : List Int) : List Value := l.map (Value.int .u64)
theorem set_ownsRow {w : World} {base size n : Nat} {e : TypeId} {v : Value} {xs : List Value} (h : w.ownsRow base e size v n xs) {a : Addr} (ha : a.block < base) (y : Value) : (w.setCell a y).ownsRow base e size v n xs := by
  obtain ⟨h1, h2⟩ := h
  refine ⟨h1, ?_⟩
  rcases h2 with h2 | ⟨g, cap, cur, rfl, hbs, hg, r⟩
  · exact .inl h2
  · exact .inr ⟨g, cap, cur, rfl, hbs, (Below.heap_setCell w a y g (by omega)).trans hg, r⟩
theorem apart_rows {w : World} {b1 b2 s1 s2 k1 k2 : Nat} {e1 e2 : TypeId} (hne : e1 ≠ e2) {v1 v2 : Value} {x1 x2 : List Value} (h1 : w.ownsRow b1 e1 s1 v1 k1 x1) (h2 : w.ownsRow b2 e2 s2 v2 k2 x2) : v1.ownBlock = none ∨ v1.ownBlock ≠ v2.ownBlock := by
  rcases h1.2 with ⟨rfl, _⟩ | ⟨g, cap, cur, rfl, _, hg, _⟩
  · exact .inl rfl
  · right
    intro e
    rcases h2.2 with ⟨rfl, _⟩ | ⟨g2, cap2, cur2, rfl, _, hg2, _⟩
    · cases e
    · simp only [Value.ownBlock, Option.some.injEq] at e
      subst e
      rw [hg] at hg2
      simp only [Option.some.injEq, Obj.cells.injEq] at hg2
      exact hne hg2.2.1
/-- a reader that is neither wrong nor told its fault: its block and its rows, and what is so of them against the world W in which it was sv, rv -/
structure PlT (W : World) (b : Nat) (h : Hd.H) (sv0 rv0 : Value) (n : Int) (sv rv : Value) (one row : List Int) (rows t : Int) (x : Value) (w : World) : Prop where
  c : PlC w b h n sv rv rows t 0 x
  s : w.ownsRow (b + 1) 3 1 sv one.length (ints one)
  r : w.ownsRow (b + 1) 26 1 rv row.length (pixs row)
  f : Sep (PlZ b sv0 rv0) W w
  ns : PlNew W sv0 sv
  nr : PlNew W rv0 rv
theorem below_row {w w' : World} {base size k : Nat} {e : TypeId} {v : Value} {xs : List Value} (hr : w.ownsRow base e size v k xs) (hb : Below w.heap.size w w') : w'.ownsRow base e size v k xs :=
  hr.kept (row := none) ⟨hb.os, hb.tape, hb.output, hb.size, fun k hk _ => hb.block k hk⟩ (by cases hv : v.ownBlock <;> simp)
section
variable {W w : World} {b : Nat} {h : Hd.H} {sv0 rv0 : Value} {n : Int} {sv rv : Value} {one row : List Int} {rows t : Int} {x : Value}
theorem PlT.start (c : PlC w b h n sv rv rows t 0 x) (s : w.ownsRow (b + 1) 3 1 sv one.length (ints one)) (r : w.ownsRow (b + 1) 26 1 rv row.length (pixs row)) : PlT w b h sv rv n sv rv one row rows t x w :=
  ⟨c, s, r, .refl _ _, .inl rfl, .inl rfl⟩
theorem PlT.bls (T : PlT W b h sv0 rv0 n sv rv one row rows t x w) : ∀ k, sv.ownBlock = some k → b + 1 ≤ k := fun k hk => (T.s.lt k hk).1
theorem PlT.blr (T : PlT W b h sv0 rv0 n sv rv one row rows t x w) : ∀ k, rv.ownBlock = some k → b + 1 ≤ k := fun k hk => (T.r.lt k hk).1
theorem PlT.nes (T : PlT W b h sv0 rv0 n sv rv one row rows t x w) : some b ≠ sv.ownBlock := fun e => by have := T.bls b e.symm; omega
theorem PlT.ner (T : PlT W b h sv0 rv0 n sv rv one row rows t x w) : some b ≠ rv.ownBlock := fun e => by have := T.blr b e.symm; omega
theorem PlT.below (T : PlT W b h sv0 rv0 n sv rv one row rows t x w) {w' : World} (hb : Below w.heap.size w w') : PlT W b h sv0 rv0 n sv rv one row rows t x w' :=
  ⟨T.c.later hb, below_row T.s hb, below_row T.r hb, ⟨hb.os.trans T.f.os, hb.tape.trans T.f.tape, hb.output.trans T.f.output, Nat.le_trans T.f.size hb.size, fun k hk hz => (hb.block k (Nat.lt_of_lt_of_le hk T.f.size)).trans (T.f.block k hk hz)⟩, T.ns, T.nr⟩
theorem PlT.drew (T : PlT W b h sv0 rv0 n sv rv one row rows t x w) : PlT W b h sv0 rv0 n sv rv one row rows t x w.drew := ⟨T.c, T.s, T.r, T.f.trans (.drew _ _), T.ns, T.nr⟩
theorem PlT.set4 (T : PlT W b h sv0 rv0 n sv rv one row rows t x w) (y : Int) : PlT W b h sv0 rv0 y sv rv one row rows t x (w.setCell ⟨b, 4, none⟩ (.int .i64 y)) :=
  ⟨T.c.put4 y, set_ownsRow T.s (Nat.lt_succ_self b) _, set_ownsRow T.r (Nat.lt_succ_self b) _, T.f.trans (.setCell _ (.inl rfl) _), T.ns, T.nr⟩
theorem PlT.set7 (T : PlT W b h sv0 rv0 n sv rv one row rows t x w) (y : Int) : PlT W b h sv0 rv0 n sv rv one row y t x (w.setCell ⟨b, 7, none⟩ (.int .i64 y)) :=
  ⟨T.c.put7 y, set_ownsRow T.s (Nat.lt_succ_self b) _, set_ownsRow T.r (Nat.lt_succ_self b) _, T.f.trans (.setCell _ (.inl rfl) _), T.ns, T.nr⟩
theorem PlT.set8 (T : PlT W b h sv0 rv0 n sv rv one row rows t x w) (y : Int) : PlT W b h sv0 rv0 n sv rv one row rows y x (w.setCell ⟨b, 8, none⟩ (.int .i64 y)) :=
  ⟨T.c.put8 y, set_ownsRow T.s (Nat.lt_succ_self b) _, set_ownsRow T.r (Nat.lt_succ_self b) _, T.f.trans (.setCell _ (.inl rfl) _), T.ns, T.nr⟩
/-- the pixels' row is let go -/
theorem PlT.free (T : PlT W b h sv0 rv0 n sv rv one row rows t x w) : PlT W b h sv0 rv0 n sv (.slice none 0 0) one [] rows t x (w.setCell ⟨b, 6, none⟩ (.slice none 0 0)) :=
  ⟨T.c.put6 _, set_ownsRow T.s (Nat.lt_succ_self b) _, World.ownsRow_nil _ _ _ _, T.f.trans (.setCell _ (.inl rfl) _), T.ns, .inr fun k hk => by cases hk⟩
theorem ownsRow_zero {base : Nat} {e : TypeId} {size m c : Nat} {a : Option Addr} {xs : List Value} (hr : w.ownsRow base e size (.slice a m c) m xs) : w.ownsRow base e size (.slice a 0 c) 0 [] := by
  refine ⟨by simp, ?_⟩
  rcases hr.2 with ⟨hv, _⟩ | ⟨g, cap, cur, hv, hb, hg, hle, hm, hs, _⟩
  · cases hv; exact .inl ⟨rfl, rfl⟩
  · cases hv; exact .inr ⟨g, c, cur, rfl, hb, hg, Nat.zero_le _, hm, hs, by simp⟩
/-- the samples are let go, their memory is not -/
theorem PlT.clear {a : Option Addr} {m c : Nat} (T : PlT W b h sv0 rv0 n (.slice a m c) rv one row rows t x w) (hm : one.length = m) : PlT W b h sv0 rv0 n (.slice a 0 c) rv [] row rows t x (w.setCell ⟨b, 5, none⟩ (.slice a 0 c)) := by
  have hs := T.s
  rw [hm] at hs
  refine ⟨T.c.put5 _, set_ownsRow (ownsRow_zero hs) (Nat.lt_succ_self b) _, set_ownsRow T.r (Nat.lt_succ_self b) _, T.f.trans (.setCell _ (.inl rfl) _), ?_, T.nr⟩
  have e : (Value.slice a 0 c).ownBlock = (Value.slice a m c).ownBlock := by cases a <;> rfl
  unfold PlNew; rw [e]; exact T.ns
theorem new_at {W : World} {v0 v : Value} {k H : Nat} {n c : Nat} (hv : PlNew W v0 v) (hat : v.ownBlock = some k ∨ k = H) (hH : W.heap.size ≤ H) : PlNew W v0 (.slice (some ⟨k, 0, none⟩) n c) := by
  rcases hat with e | rfl
  · unfold PlNew; show some k = _ ∨ ∀ j, some k = some j → _
    rcases hv with hv | hv
    · left; rw [← hv, e]
    · right; intro j hj; cases hj; exact hv k e
  · right; intro j hj; cases hj; exact hH
theorem zone_of {W : World} {b : Nat} {v0 v z : Value} {k : Nat} (hv : PlNew W v0 v) (e : v.ownBlock = some k) (hk : k < W.heap.size) : v0.ownBlock = some k := by
  rcases hv with hv | hv
  · rw [← hv, e]
  · have := hv k e; omega
/-- a sample more -/
theorem PlT.pushS (T : PlT W b h sv0 rv0 n sv rv one row rows t x w) (hte : 3 ≠ 26) (o : Obj) (y : Int) {w5 : World} {g cc : Nat}
    (hown : w5.ownsRow (b + 1) 3 1 (.slice (some ⟨g, 0, none⟩) (one.length + 1) cc) (one.length + 1) (ints one ++ [.int .i64 y])) (hgrow : (w.alloc o).grownBy w5 sv.ownBlock) (hat : sv.ownBlock = some g ∨ g = (w.alloc o).heap.size) :
    PlC w5 b h n sv rv rows t 0 x ∧ PlT W b h sv0 rv0 n (.slice (some ⟨g, 0, none⟩) (one.length + 1) cc) rv (one ++ [y]) row rows t x (w5.setCell ⟨b, 5, none⟩ (.slice (some ⟨g, 0, none⟩) (one.length + 1) cc)) := by
  have c5 := (T.c.alloc o).kept hgrow T.nes
  have r5 := (T.r.alloc o).kept hgrow (apart_rows (Ne.symm hte) T.r T.s)
  refine ⟨c5, c5.put5 _, ?_, set_ownsRow r5 (Nat.lt_succ_self b) _, ⟨hgrow.os.trans T.f.os, hgrow.tape.trans T.f.tape, hgrow.output.trans T.f.output, ?_, ?_⟩, new_at T.ns hat (by have := T.f.size; simp; omega), T.nr⟩
  · have := set_ownsRow hown (a := ⟨b, 5, none⟩) (Nat.lt_succ_self b) (.slice (some ⟨g, 0, none⟩) (one.length + 1) cc)
    unfold ints at this ⊢
    rw [List.length_append, List.map_append]; exact this
  · have h1 := T.f.size; have h2 := hgrow.size; simp at h2 ⊢; omega
  · intro k hk hz
    have h1 := T.f.size
    rw [Below.heap_setCell _ _ _ _ (fun e => hz (.inl e)), hgrow.block k (by simp; omega) (fun e => hz (.inr (.inl (zone_of (b := b) (z := rv) T.ns e.symm hk))))]
    rw [Below.heap_alloc _ _ _ (by omega)]
    exact T.f.block k hk hz
/-- a pixel more -/
theorem PlT.pushR (T : PlT W b h sv0 rv0 n sv rv one row rows t x w) (hte : 3 ≠ 26) (o : Obj) (y : Int) {w5 : World} {g cc : Nat}
    (hown : w5.ownsRow (b + 1) 26 1 (.slice (some ⟨g, 0, none⟩) (row.length + 1) cc) (row.length + 1) (pixs row ++ [.int .u64 y])) (hgrow : (w.alloc o).grownBy w5 rv.ownBlock) (hat : rv.ownBlock = some g ∨ g = (w.alloc o).heap.size) :
    PlC w5 b h n sv rv rows t 0 x ∧ PlT W b h sv0 rv0 n sv (.slice (some ⟨g, 0, none⟩) (row.length + 1) cc) one (row ++ [y]) rows t x (w5.setCell ⟨b, 6, none⟩ (.slice (some ⟨g, 0, none⟩) (row.length + 1) cc)) := by
  have c5 := (T.c.alloc o).kept hgrow T.ner
  have s5 := (T.s.alloc o).kept hgrow (apart_rows hte T.s T.r)
  refine ⟨c5, c5.put6 _, set_ownsRow s5 (Nat.lt_succ_self b) _, ?_, ⟨hgrow.os.trans T.f.os, hgrow.tape.trans T.f.tape, hgrow.output.trans T.f.output, ?_, ?_⟩, T.ns, new_at T.nr hat (by have := T.f.size; simp; omega)⟩
  · have := set_ownsRow hown (a := ⟨b, 6, none⟩) (Nat.lt_succ_self b) (.slice (some ⟨g, 0, none⟩) (row.length + 1) cc)
    unfold pixs at this ⊢
    rw [List.length_append, List.map_append]; exact this
  · have h1 := T.f.size; have h2 := hgrow.size; simp at h2 ⊢; omega
  · intro k hk hz
    have h1 := T.f.size
    rw [Below.heap_setCell _ _ _ _ (fun e => hz (.inl e)), hgrow.block k (by simp; omega) (fun e => hz (.inr (.inr (zone_of (b := b) (z := rv) T.nr e.symm hk))))]
    rw [Below.heap_alloc _ _ _ (by omega)]
    exact T.f.block k hk hz
end
end Go.Proofs.YtmnhiagppicegaaGreat

/- A row of bits packed, by the document's own answer, over any memory. Condition: numbers fit their kinds. -/
namespace Go.Proofs.YtmnhiagppicegaaGreat
open Go.RowKit Go.Shelf
set_option linter.unusedVariables false
namespace Bt
theorem refPack_len (a : Option Addr) (n cap : Nat) (w : World) (hn : n ≤ 9223372036854775807) (h : n < 1 ∨ 4096 < n) :
    Calls Tryz.prog 98 #[.slice a n cap] w fun e w' => e = .returned (.tuple #[.slice none 0 0, .int .i64 1]) ∧ w = w' := by
  rcases h with h | h
  · obtain rfl : n = 0 := by omega
    go_enter Tryz.func98, Tryz.ntmps98
    go_wp2
    go_ret2
    exact ⟨rfl, rfl⟩
  · have h' : (4096 : Int) < n := by omega
    have h0 : ¬ n < 1 := by omega
    have h1 : ¬ (n : Int) < 1 := by omega
    go_enter Tryz.func98, Tryz.ntmps98
    go_wp2
    go_ret2
    exact ⟨rfl, rfl⟩
theorem num_pad (l : List Int) (k : Nat) (h : l.length ≤ k) : num (l ++ List.replicate (k + 1 - l.length) 0) 0 = num (l ++ List.replicate (k - l.length) 0) 0 * 2 := by
  rw [show k + 1 - l.length = (k - l.length) + 1 by omega, List.replicate_succ', ← List.append_assoc, num_append]
  simp [num]
/-- what a part comes to behind k of its places -/
def partN (l : List Int) (i k : Nat) : Int := num ((l.drop i).take k ++ List.replicate (k - ((l.drop i).take k).length) 0) 0
theorem partN_more {l : List Int} {i k : Nat} (h : i + k < l.length) : partN l i (k + 1) = partN l i k * 2 + l.getD (i + k) 0 := by
  unfold partN
  have h1 : ((l.drop i).take k).length = k := by rw [List.length_take, List.length_drop]; omega
  have h2 : ((l.drop i).take (k + 1)).length = k + 1 := by rw [List.length_take, List.length_drop]; omega
  have h3 := take_next (l.drop i) k (by rw [List.length_drop]; omega)
  rw [h1, h2, Nat.sub_self, Nat.sub_self, List.replicate_zero, List.append_nil, List.append_nil, ← h3, num_append]
  simp only [num]
  rw [List.getD_eq_getElem?_getD, List.getElem?_drop, ← List.getD_eq_getElem?_getD]
theorem partN_end {l : List Int} {i k : Nat} (h : l.length ≤ i + k) : partN l i (k + 1) = partN l i k * 2 := by
  unfold partN
  have h1 : (l.drop i).take k = l.drop i := List.take_of_length_le (by rw [List.length_drop]; omega)
  have h2 : (l.drop i).take (k + 1) = l.drop i := List.take_of_length_le (by rw [List.length_drop]; omega)
  rw [h1, h2]
  exact num_pad _ _ (by rw [List.length_drop]; omega)
theorem partN_bound {l : List Int} {i k : Nat} (ho : Ones (l.take (i + k))) (h : k ≤ 8) : 0 ≤ partN l i k ∧ partN l i k + 1 ≤ 2 ^ k := by
  have h1 : (l.drop i).take k = (l.take (i + k)).drop i := by rw [List.drop_take]; congr 1; omega
  have hb := num_bound ((l.drop i).take k ++ List.replicate (k - ((l.drop i).take k).length) 0) 0 (fun x hx => by
    rcases List.mem_append.1 hx with hx | hx
    · exact ho x (List.mem_of_mem_drop (h1 ▸ hx))
    · exact .inl (List.eq_of_mem_replicate hx)) (by omega)
  have hl : ((l.drop i).take k ++ List.replicate (k - ((l.drop i).take k).length) 0).length = k := by
    have : ((l.drop i).take k).length ≤ k := List.length_take_le _ _
    rw [List.length_append, List.length_replicate]; omega
  rw [hl] at hb
  exact ⟨hb.1, by simpa [partN] using hb.2⟩
theorem partN_all (l : List Int) (i : Nat) : partN l i 8 = num (pad ((l.drop i).take 8)) 0 := rfl
theorem pow8 : ∀ k : Nat, k ≤ 8 → (2 : Int) ^ k ≤ 256 := fun k h => (show ∀ m : Fin 9, (2 : Int) ^ m.val ≤ 256 by decide) ⟨k, by omega⟩
theorem ones_snoc {l : List Int} {x : Int} (h : Ones l) (hx : x = 0 ∨ x = 1) : Ones (l ++ [x]) := by
  intro z hz
  rcases List.mem_append.1 hz with hz | hz
  · exact h z hz
  · obtain rfl : z = x := by simpa using hz
    exact hx
theorem refPack_no1 (a : Option Addr) (n cap : Nat) (l : List Int) (w : World) (hl : l.length = n) (hn : n ≤ 9223372036854775807) (h : n < 1 ∨ 4096 < n) :
    Calls Tryz.prog 98 #[.slice a n cap] w (PackR l w) := by
  refine (refPack_len a n cap w hn h).mono ?_
  rintro e w' ⟨rfl, rfl⟩
  have hp : packOk l = false := by unfold packOk; rw [hl]; simp; omega
  unfold PackR packV packE
  rw [hp]
  exact ⟨none, 0, rfl, World.ownsRow_nil _ _ _ _, Below.refl _ _⟩
set_option maxRecDepth 100000 in
set_option maxHeartbeats 4000000 in
theorem refPack_yes (b o n m cap : Nat) (l : List Int) (w : World) (hl : l.length = n) (hcell : ∀ i, i < n → w.cell? ⟨b, o + i, none⟩ = some (.int .i64 (l.getD i 0))) (hI : ∀ x ∈ l, -9223372036854775808 ≤ x ∧ x ≤ 9223372036854775807) (h1 : 1 ≤ n) (h9 : n ≤ 4096) (hm1 : n ≤ 8 * m) (hm2 : 8 * m < n + 8) :
    Calls Tryz.prog 98 #[.slice (some ⟨b, o, none⟩) n cap] w (PackR l w) := by
  obtain ⟨i0, hi, hz0, hz1, hz2⟩ := info_parts Tryz.info_byt
  have HP := Lib.hid (packB_len m l (by omega) (by omega))
  have HG := Lib.hid (fun k (h : 8 * k < n) => packB_get k l (by omega))
  have HL := Lib.hid hl
  have HS := Lib.hid hcell
  have hn1 : ¬ (n : Int) < 1 := by omega
  have hn2 : ¬ n < 1 := by omega
  have hn3 : ¬ (4096 : Int) < n := by omega
  have hn4 : ¬ 4096 < n := by omega
  clear hl hcell hI
  go_enter Tryz.func98, Tryz.ntmps98
  go_wp2
  go_loopg [4, 5] m (fun g s4 s5 wr => ∃ k : Nat, k + g = m ∧ s5 = .int .i64 (8 * (k : Int)) ∧ wr.ownsRow w.heap.size 5 1 s4 k (((packB l).take k).map (Value.int .u8)) ∧ Below w.heap.size w wr ∧ Hid (Ones (l.take (8 * k))))
  case atStart => exact ⟨0, by omega, rfl, World.ownsRow_nil _ _ _ _, Below.refl _ _, Lib.hid (by intro x hx; simp at hx)⟩
  case round =>
    obtain ⟨k, hk, rfl, hrow, hB, ho⟩ := hrel
    cases gk with
    | zero =>
      obtain rfl : k = m := by omega
      have hlt : ¬ 8 * (k : Int) < n := by omega
      have hp : packOk l = true := by
        have := ho.out
        rw [List.take_of_length_le (by rw [HL.out]; omega)] at this
        unfold packOk; rw [HL.out]; simp [this]; omega
      have HOK := Lib.hid hp
      obtain ⟨ad, cap', rfl, hown, hcap⟩ := ownK_row (by rw [List.length_take, HP.out]; omega) hrow
      have HR := Lib.hid hrow; clear hrow hp
      go_wp2
      go_ret2
      unfold PackR packV packE
      rw [HOK.out]
      simp only [if_true]
      have hr := HR.out
      rw [List.take_of_length_le (by rw [HP.out]; omega)] at hr
      exact ⟨ad, cap', by rw [HP.out]; rfl, by rw [HP.out]; exact hr, hB⟩
    | succ g =>
      obtain ⟨I, hI⟩ : ∃ I : Nat, 8 * k = I := ⟨_, rfl⟩
      have hI2 : 8 * (k : Int) = (I : Int) := by omega
      have hgk := HG.out k (by omega)
      rw [hI2]
      rw [hI] at ho hgk
      have hlt : (I : Int) < n := by omega
      have HI := Lib.hid hI
      have HI2 := Lib.hid hI2
      have hIn : I < n := by omega
      have HGK := Lib.hid hgk
      have HR := Lib.hid hrow
      have hW := hB.size
      have HB1 := Lib.hid hB
      obtain ⟨W1, hw1⟩ : ∃ W1, wr = W1 := ⟨_, rfl⟩
      rw [hw1] at HR HB1 hW ⊢
      clear hI hI2 hgk hrow hB hw1
      go_wp2
      go_loopg [6, 7] 8 (fun g2 s6 s7 wx => ∃ j : Nat, j + g2 = 8 ∧ s7 = .int .i64 ((I : Int) + j) ∧ s6 = .int .i64 (partN l I j) ∧ wx = W1 ∧ Hid (Ones (l.take (I + j))))
      case atStart => exact ⟨0, by omega, by simp, by simp [partN, num], rfl, ho⟩
      case round =>
        obtain ⟨j, hj, rfl, rfl, rfl, ho2⟩ := hrel
        have hpb := partN_bound ho2.out (by omega)
        have hpw := pow8 j (by omega)
        obtain ⟨y, hy⟩ : ∃ y, partN l I j = y := ⟨_, rfl⟩
        rw [hy] at hpb ⊢
        have y0 : 0 ≤ y := hpb.1
        have y1 : y ≤ 255 := by have := hpb.2; omega
        have HY := Lib.hid hy
        have j0 : (0 : Int) ≤ j := Int.natCast_nonneg _
        have j8 : (j : Int) ≤ 8 := by omega
        clear hpb hpw hy
        cases gk with
        | zero =>
          obtain rfl : j = 8 := by omega
          rw [show ((8 : Nat) : Int) = 8 from rfl]
          have htk := take_next (packB l) k (by rw [HP.out]; omega)
          rw [HGK.out, ← partN_all, HY.out] at htk
          have HTK := Lib.hid (show ((packB l).take k).map (Value.int .u8) ++ [.int .u8 y] = ((packB l).take (k + 1)).map (Value.int .u8) by rw [← htk]; simp)
          clear htk j0 j8
          go_wp2_with (at_builtin; refine wpList_append_own _ rfl _ _ 43 rfl w.heap.size 5 i0 (.int .u8 0) 1 1 Tryz.underlying43 hi hz0 hz1 hz2 rfl (by decide) _ k _ rfl (HR.out.alloc _) ⟨wr.heap.size, 0, none⟩ 1 1 [.int .u8 y] rfl rfl (cell_one_new _ _ _) (by simp [Value.oneCell']) (by unfold maxLen; omega) (by omega) (by simp; omega) ?_; intro v' w4 hown' hgrow _; have HO := Lib.hid hown'; have hB4 := ((HB1.out.alloc hW _).grown hgrow (by simp; omega) (fun j ej => (HR.out.lt j ej).1)); clear hown' hgrow)
          go_roundg g
          case measure => omega
          case rel =>
            have hr := HO.out
            rw [HTK.out] at hr
            exact ⟨k + 1, by omega, by have := HI2.out; go_num, hr, hB4, Lib.hid (by rw [show 8 * (k + 1) = I + 8 by have := HI.out; omega]; exact ho2.out)⟩
        | succ g2 =>
          have hlt2 : (I : Int) + j < (I : Int) + 8 := by omega
          obtain ⟨K, hK⟩ : ∃ K : Nat, I + j = K := ⟨_, rfl⟩
          have hK2 : (I : Int) + j = (K : Int) := by omega
          rw [hK2] at hlt2 ⊢
          have hK0 : (0 : Int) ≤ K := Int.natCast_nonneg _
          have hK9 : (K : Int) ≤ 5000 := by omega
          have HK := Lib.hid hK
          have HK2 := Lib.hid hK2
          by_cases hKn : K < n
          · have hKn2 : (K : Int) < n := by omega
            have hc := cell_later HB1.out (HS.out K hKn)
            have hmr := partN_more (l := l) (i := I) (k := j) (by rw [HL.out]; omega)
            rw [HY.out, hK] at hmr
            have hnx := take_next l K (by rw [HL.out]; omega)
            obtain ⟨x, hx⟩ : ∃ x, l.getD K 0 = x := ⟨_, rfl⟩
            rw [hx] at hc hmr hnx
            have hxm : x ∈ l := by rw [← hx, List.getD_eq_getElem?_getD, List.getElem?_eq_getElem (by rw [HL.out]; omega)]; exact List.getElem_mem _
            have HM := Lib.hid hmr
            have HX := Lib.hid hnx
            have HXM := Lib.hid hxm
            clear hmr hnx hx hxm hK hK2
            by_cases hx0 : x = 0
            · subst hx0
              go_wp2
              go_roundg g2
              case measure => omega
              case rel => exact ⟨j + 1, by omega, by have := HK2.out; go_num, by have := HM.out; go_num, rfl, Lib.hid (by rw [show I + (j + 1) = K + 1 by have := HK.out; omega, ← HX.out]; exact ones_snoc (by rw [← HK.out]; exact ho2.out) (.inl rfl))⟩
            · by_cases hx1 : x = 1
              · subst hx1
                clear hx0
                go_wp2
                go_roundg g2
                case measure => omega
                case rel => exact ⟨j + 1, by omega, by have := HK2.out; go_num, by have := HM.out; go_num, rfl, Lib.hid (by rw [show I + (j + 1) = K + 1 by have := HK.out; omega, ← HX.out]; exact ones_snoc (by rw [← HK.out]; exact ho2.out) (.inr rfl))⟩
              · have k0 : (x != 0) = true := by simpa using hx0
                have k1 : (x != 1) = true := by simpa using hx1
                have hp : packOk l = false := by
                  unfold packOk
                  have : ¬ Ones l := fun e => by rcases e x HXM.out with e | e; exact hx0 e; exact hx1 e
                  simp [this]
                have HOK := Lib.hid hp
                clear hp hx0 hx1
                go_wp2
                go_ret2
                unfold PackR packV packE
                rw [HOK.out]
                exact ⟨none, 0, rfl, World.ownsRow_nil _ _ _ _, HB1.out⟩
          · have hKn2 : ¬ (K : Int) < n := by omega
            have hen := partN_end (l := l) (i := I) (k := j) (by rw [HL.out]; omega)
            rw [HY.out] at hen
            have HM := Lib.hid hen
            clear hen hK hK2
            go_wp2
            go_roundg g2
            case measure => omega
            case rel => exact ⟨j + 1, by omega, by have := HK2.out; go_num, by have := HM.out; go_num, rfl, Lib.hid (by have := ho2.out; rw [List.take_of_length_le (by rw [HL.out]; have := HK.out; omega)] at this ⊢; exact this)⟩
theorem refPack_any (a : Option Addr) (n cap : Nat) (l : List Int) (w : World) (hn : n ≤ 9223372036854775807) (hI : ∀ x ∈ l, -9223372036854775808 ≤ x ∧ x ≤ 9223372036854775807) (h : SlK .i64 w a n l) :
    Calls Tryz.prog 98 #[.slice a n cap] w (PackR l w) := by
  by_cases h0 : n < 1 ∨ 4096 < n
  · exact refPack_no1 a n cap l w h.1 hn h0
  · obtain ⟨m, hm, hm1, hm2⟩ := bytesV_len (n := n) (by omega) (by omega)
    rcases h.2 with h1 | ⟨b, o, rfl, hs⟩
    · omega
    · exact refPack_yes b o n m cap l w h.1 hs hI (by omega) (by omega) hm1 hm2
end Bt
end Go.Proofs.YtmnhiagppicegaaGreat

/- A row from its end on, over any memory, of bits. Condition: numbers fit their kinds. -/
namespace Go.Proofs.YtmnhiagppicegaaGreat
open Go.RowKit Go.Shelf
set_option linter.unusedVariables false
namespace Bt
end Bt
end Go.Proofs.YtmnhiagppicegaaGreat

/- Rows of bits: what is packed is unpacked as it was, what runs is unrun as it was. Plain facts; no condition. -/
namespace Go.Proofs.YtmnhiagppicegaaGreat
open Go.RowKit
set_option linter.unusedVariables false
namespace Bt
theorem eight_num (a b c d e f g h : Int) (ha : a = 0 ∨ a = 1) (hb : b = 0 ∨ b = 1) (hc : c = 0 ∨ c = 1) (hd : d = 0 ∨ d = 1) (he : e = 0 ∨ e = 1) (hf : f = 0 ∨ f = 1) (hg : g = 0 ∨ g = 1) (hh : h = 0 ∨ h = 1) :
    eight (num [a, b, c, d, e, f, g, h] 0) = [a, b, c, d, e, f, g, h] := by
  have B : ∀ x : Int, x = 0 ∨ x = 1 → 0 ≤ x ∧ x ≤ 1 := fun x h => by omega
  obtain ⟨a0, a1⟩ := B a ha
  obtain ⟨b0, b1⟩ := B b hb
  obtain ⟨c0, c1⟩ := B c hc
  obtain ⟨d0, d1⟩ := B d hd
  obtain ⟨e0, e1⟩ := B e he
  obtain ⟨f0, f1⟩ := B f hf
  obtain ⟨g0, g1⟩ := B g hg
  obtain ⟨h0, h1⟩ := B h hh
  clear B ha hb hc hd he hf hg hh
  simp only [num, eight, List.cons.injEq, and_true]
  refine ⟨?_, ?_, ?_, ?_, ?_, ?_, ?_, ?_⟩ <;> omega
theorem eight_num8 (l : List Int) (hl : l.length = 8) (ho : Ones l) : eight (num l 0) = l := by
  obtain ⟨a, b, c, d, e, f, g, h, rfl⟩ := list8 l hl
  exact eight_num a b c d e f g h (ho a (by simp)) (ho b (by simp)) (ho c (by simp)) (ho d (by simp)) (ho e (by simp)) (ho f (by simp)) (ho g (by simp)) (ho h (by simp))
theorem bits_pack : ∀ (m : Nat) (l : List Int), l.length ≤ 8 * m → 8 * m < l.length + 8 → Ones l → bitsOf (packB l) = l ++ List.replicate (8 * m - l.length) 0
  | 0, l, h, _, _ => by
    have : l = [] := List.eq_nil_of_length_eq_zero (by omega)
    subst this; simp [packB_nil, bitsOf]
  | m + 1, l, h, k, ho => by
    have hne : l ≠ [] := by intro e; subst e; simp at k; omega
    have hpo := pad_01 (pt := l.take 8) (fun x hx => ho x (List.mem_of_mem_take hx))
    rw [packB_more hne, bitsOf, eight_num8 _ (pad_len _ (List.length_take_le _ _)) hpo]
    by_cases h8 : 8 ≤ l.length
    · rw [bits_pack m (l.drop 8) (by simp; omega) (by simp; omega) (fun x hx => ho x (List.mem_of_mem_drop hx))]
      have e : pad (l.take 8) = l.take 8 := by unfold pad; rw [List.length_take, Nat.min_eq_left h8]; simp
      rw [e, ← List.append_assoc, List.take_append_drop, List.length_drop]
      congr 2; omega
    · have hm : m = 0 := by omega
      subst hm
      have e : l.drop 8 = [] := List.drop_eq_nil_of_le (by omega)
      rw [e, packB_nil, bitsOf, List.append_nil, List.take_of_length_le (by omega)]
      rfl
theorem packB_byte (l : List Int) (ho : Ones l) : ∀ z ∈ packB l, 0 ≤ z ∧ z ≤ 255 := by
  intro z hz
  obtain ⟨k, hk, rfl⟩ := List.getElem_of_mem hz
  have hk8 : 8 * k < l.length := by
    rcases Nat.lt_or_ge (8 * k) l.length with h | h
    · exact h
    · have := packB_len ((l.length + 7) / 8) l (by omega) (by omega)
      omega
  have hg := packB_get k l hk8
  rw [List.getD_eq_getElem?_getD, List.getElem?_eq_getElem hk] at hg
  simp only [Option.getD_some] at hg
  rw [hg]
  have hpo := pad_01 (pt := (l.drop (8 * k)).take 8) (fun x hx => ho x (List.mem_of_mem_drop (List.mem_of_mem_take hx)))
  have hb := num_bound _ 0 hpo (by omega)
  rw [pad_len _ (List.length_take_le _ _)] at hb
  have : (0 + 1 : Int) * 2 ^ 8 = 256 := by decide
  omega
end Bt
end Go.Proofs.YtmnhiagppicegaaGreat

/- A head's bytes, by head and by the document, over any memory. Condition: numbers fit their kinds. -/
namespace Go.Proofs.YtmnhiagppicegaaGreat
open Go.RowKit
set_option linter.unusedVariables false

/-- the first part of a head's bytes -/
def Hj.pre (h : Hd.H) : List Int := [80] ++ Nu.decV h.kd ++ [10] ++ Nu.decV h.w ++ [32] ++ Nu.decV h.h ++ [10]
theorem Hj.pre_str (h : Hd.H) : (⟨#[80]⟩ : ByteArray) ++ strOfNums (Nu.decV h.kd) ++ ⟨#[10]⟩ ++ strOfNums (Nu.decV h.w) ++ ⟨#[32]⟩ ++ strOfNums (Nu.decV h.h) ++ ⟨#[10]⟩ = strOfNums (Hj.pre h) := by
  unfold Hj.pre
  simp only [strOfNums_append]
  rfl
theorem Hj.bytes_bits {h : Hd.H} (hb : Hd.bits h.kd = true) : Hd.bytes h = Hj.pre h := by unfold Hd.bytes Hj.pre; rw [if_pos hb, List.append_nil]
theorem Hj.bytes_more {h : Hd.H} (hb : Hd.bits h.kd = false) : Hd.bytes h = Hj.pre h ++ (Nu.decV h.m ++ [10]) := by unfold Hd.bytes Hj.pre; rw [if_neg (by rw [hb]; simp)]
theorem Hj.pre_size {h : Hd.H} (hf : Hj.Fit h) : (strOfNums (Hj.pre h)).size ≤ 204 := by
  have a := Nu.decV_len hf.1
  have b := Nu.decV_len hf.2.1
  have c := Nu.decV_len hf.2.2.1
  rw [strOfNums_size]
  unfold Hj.pre
  simp only [List.length_append, List.length_cons, List.length_nil]
  omega
/-- what Write hands back -/
def Hj.wr (h : Hd.H) : Value := if Hd.May h then .tuple #[.string (strOfNums (Hd.bytes h)), .int .i64 0] else .tuple #[.string ⟨#[]⟩, .int .i64 1]
set_option maxRecDepth 100000 in
set_option maxHeartbeats 4000000 in
theorem hwrite_any (h : Hd.H) (hf : Hj.Fit h) (w : World) :
    Calls Tryz.prog 50 #[agH h] w fun e w' => e = .returned (Hj.wr h) ∧ Below w.heap.size w w' := by
  have HM := Lib.hid (hmay_any h hf)
  have HT := Lib.hid (tells_any h.kd)
  by_cases hm : Hd.May h
  · rw [decide_eq_true hm] at HM
    have X0 : Hid (Hj.wr h = .tuple #[.string (strOfNums (Hd.bytes h)), .int .i64 0]) := if_pos hm
    have XP := Lib.hid (Hj.pre_str h)
    have XS := Lib.hid (Hj.pre_size hf)
    have XB := Lib.hid (@Hj.bytes_bits h)
    have XM := Lib.hid (@Hj.bytes_more h)
    obtain ⟨kd, ww, hh, m⟩ := h
    have HD1 := Lib.hid (decimal_any kd hf.1)
    have HD2 := Lib.hid (decimal_any ww hf.2.1)
    have HD3 := Lib.hid (decimal_any hh hf.2.2.1)
    have HD4 := Lib.hid (decimal_any m hf.2.2.2)
    have s1 : (strOfNums (Nu.decV kd)).size ≤ 66 := by rw [strOfNums_size]; exact Nu.decV_len hf.1
    have s2 : (strOfNums (Nu.decV ww)).size ≤ 66 := by rw [strOfNums_size]; exact Nu.decV_len hf.2.1
    have s3 : (strOfNums (Nu.decV hh)).size ≤ 66 := by rw [strOfNums_size]; exact Nu.decV_len hf.2.2.1
    have s4 : (strOfNums (Nu.decV m)).size ≤ 66 := by rw [strOfNums_size]; exact Nu.decV_len hf.2.2.2
    obtain ⟨g, hg⟩ : ∃ g, Hd.bits kd = g := ⟨_, rfl⟩
    simp only at XP XB XM HT
    rw [hg] at HT
    obtain ⟨D1, hD1⟩ : ∃ D, strOfNums (Nu.decV kd) = D := ⟨_, rfl⟩
    obtain ⟨D2, hD2⟩ : ∃ D, strOfNums (Nu.decV ww) = D := ⟨_, rfl⟩
    obtain ⟨D3, hD3⟩ : ∃ D, strOfNums (Nu.decV hh) = D := ⟨_, rfl⟩
    obtain ⟨D4, hD4⟩ : ∃ D, strOfNums (Nu.decV m) = D := ⟨_, rfl⟩
    rw [hD1] at HD1 s1 XP
    rw [hD2] at HD2 s2 XP
    rw [hD3] at HD3 s3 XP
    rw [hD4] at HD4 s4
    have L1 : ¬ 9223372036854775807 < 1 + D1.size := by omega
    have L2 : ¬ 9223372036854775807 < 1 + D1.size + 1 := by omega
    have L3 : ¬ 9223372036854775807 < 1 + D1.size + 1 + D2.size := by omega
    have L4 : ¬ 9223372036854775807 < 1 + D1.size + 1 + D2.size + 1 := by omega
    have L5 : ¬ 9223372036854775807 < 1 + D1.size + 1 + D2.size + 1 + D3.size := by omega
    have L6 : ¬ 9223372036854775807 < 1 + D1.size + 1 + D2.size + 1 + D3.size + 1 := by omega
    have HG := Lib.hid hg
    have HD4S := Lib.hid hD4
    have S4 := Lib.hid s4
    clear hm hf s1 s2 s3 s4 hD1 hD2 hD3 hD4 hg
    unfold agH at HM ⊢
    go_enter Tryz.func50, Tryz.ntmps50
    go_wp2_with fail
    refine (HM.out _).mono ?_
    rintro e w9 ⟨rfl, hb9⟩
    obtain ⟨n0, n1, n2, n3⟩ := ((Hb.new w 49 ⟨kd, ww, hh, m⟩).later hb9).cells
    have HBz : Hid (Below w.heap.size w w9) := ((Below.refl _ w).alloc (Nat.le_refl _) (.cells #[.int .i64 kd, .int .i64 ww, .int .i64 hh, .int .i64 m] 49)).trans (hb9.mono (by simp))
    have hBr : Below w9.heap.size w9 w9 := .refl _ _
    clear hb9
    go_wp2_with fail
    go_cut [4] (fun s4 wx => s4 = .string ((⟨#[80]⟩ : ByteArray) ++ D1 ++ ⟨#[10]⟩ ++ D2 ++ ⟨#[32]⟩ ++ D3 ++ ⟨#[10]⟩) ∧ Below w9.heap.size w9 wx)
    case first =>
      go_region_held3 (fun w' => w'.cell? ⟨w.heap.size, 0, none⟩ = some (.int .i64 kd) ∧ w'.cell? ⟨w.heap.size, 1, none⟩ = some (.int .i64 ww) ∧ w'.cell? ⟨w.heap.size, 2, none⟩ = some (.int .i64 hh))
        (first | exact ⟨n0, n1, n2⟩ | exact ⟨cell_later hBr n0, cell_later hBr n1, cell_later hBr n2⟩)
        (first
          | (go_at_call 87; with_reducible refine (HD1.out _).mono ?_; rintro e w8 ⟨rfl, hb8⟩; replace hBr := bel_step (w := w9) (by first | exact hBr | exact hBr.drew) hb8)
          | (go_at_call 87; with_reducible refine (HD2.out _).mono ?_; rintro e w8 ⟨rfl, hb8⟩; replace hBr := bel_step (w := w9) (by first | exact hBr | exact hBr.drew) hb8)
          | (go_at_call 87; with_reducible refine (HD3.out _).mono ?_; rintro e w8 ⟨rfl, hb8⟩; replace hBr := bel_step (w := w9) (by first | exact hBr | exact hBr.drew) hb8))
      all_goals
        go_wp2_with fail
        go_meet
        case rel => exact ⟨rfl, hBr⟩
    case rest =>
      obtain ⟨rfl, hBx⟩ := hcut
      have m0 := cell_later hBx n0
      have m3 := cell_later hBx n3
      have HBy := Lib.hid (HBz.out.trans (hBx.mono HBz.out.size))
      clear n0 n1 n2 n3 hBr hBx L1 L2 L3 L4 L5 L6
      rw [XP.out]
      obtain ⟨T, hT⟩ : ∃ T, strOfNums (Hj.pre ⟨kd, ww, hh, m⟩) = T := ⟨_, rfl⟩
      rw [hT] at XS ⊢
      have s4 := S4.out
      have sT := XS.out
      have M1 : ¬ 9223372036854775807 < D4.size + 1 := by omega
      have M2 : ¬ 9223372036854775807 < T.size + (D4.size + 1) := by omega
      have M3 : ¬ 9223372036854775807 < T.size + D4.size := by omega
      have M4 : ¬ 9223372036854775807 < T.size + D4.size + 1 := by omega
      have HTT := Lib.hid hT
      clear hT s4 sT
      cases g with
      | true =>
        go_wp2_with (go_at_call 88; refine (HT.out _).mono ?_; rintro e w7 ⟨rfl, rfl⟩)
        go_ret2
        exact ⟨by rw [X0.out, XB.out HG.out, HTT.out]; rfl, HBy.out⟩
      | false =>
        have XF : Hid (strOfNums (Hd.bytes ⟨kd, ww, hh, m⟩) = T ++ (D4 ++ ⟨#[10]⟩)) := by
          show _ = _
          rw [XM.out HG.out, strOfNums_append, strOfNums_append, HTT.out, HD4S.out]; rfl
        go_wp2_with (first
          | (go_at_call 88; refine (HT.out _).mono ?_; rintro e w7 ⟨rfl, rfl⟩)
          | (go_at_call 87; with_reducible refine (HD4.out _).mono ?_; rintro e w6 ⟨rfl, hb6⟩))
        go_ret2
        exact ⟨by rw [X0.out, XF.out]; rfl, HBy.out.trans (hb6.mono HBy.out.size)⟩
  · rw [decide_eq_false hm] at HM
    have X0 : Hid (Hj.wr h = .tuple #[.string ⟨#[]⟩, .int .i64 1]) := if_neg hm
    obtain ⟨kd, ww, hh, m⟩ := h
    clear hm HT
    unfold agH at HM ⊢
    go_enter Tryz.func50, Tryz.ntmps50
    go_wp2_with fail
    refine (HM.out _).mono ?_
    rintro e w9 ⟨rfl, hb9⟩
    go_wp2
    go_ret2
    exact ⟨by rw [X0.out]; rfl, ((Below.refl _ w).alloc (Nat.le_refl _) _).trans (hb9.mono (by simp))⟩
set_option maxRecDepth 100000 in
set_option maxHeartbeats 4000000 in
theorem refWrite_any (h : Hd.H) (hf : Hj.Fit h) (w : World) :
    Calls Tryz.prog 53 #[agH h] w fun e w' => e = .returned (Hj.wr h) ∧ Below w.heap.size w w' := by
  have HM := Lib.hid (refMay_any h hf)
  have HT := Lib.hid (bits_any h.kd)
  by_cases hm : Hd.May h
  · rw [decide_eq_true hm] at HM
    have X0 : Hid (Hj.wr h = .tuple #[.string (strOfNums (Hd.bytes h)), .int .i64 0]) := if_pos hm
    have XP := Lib.hid (Hj.pre_str h)
    have XS := Lib.hid (Hj.pre_size hf)
    have XB := Lib.hid (@Hj.bytes_bits h)
    have XM := Lib.hid (@Hj.bytes_more h)
    obtain ⟨kd, ww, hh, m⟩ := h
    have HD1 := Lib.hid (refDecimal_any kd hf.1)
    have HD2 := Lib.hid (refDecimal_any ww hf.2.1)
    have HD3 := Lib.hid (refDecimal_any hh hf.2.2.1)
    have HD4 := Lib.hid (refDecimal_any m hf.2.2.2)
    have s1 : (strOfNums (Nu.decV kd)).size ≤ 66 := by rw [strOfNums_size]; exact Nu.decV_len hf.1
    have s2 : (strOfNums (Nu.decV ww)).size ≤ 66 := by rw [strOfNums_size]; exact Nu.decV_len hf.2.1
    have s3 : (strOfNums (Nu.decV hh)).size ≤ 66 := by rw [strOfNums_size]; exact Nu.decV_len hf.2.2.1
    have s4 : (strOfNums (Nu.decV m)).size ≤ 66 := by rw [strOfNums_size]; exact Nu.decV_len hf.2.2.2
    obtain ⟨g, hg⟩ : ∃ g, Hd.bits kd = g := ⟨_, rfl⟩
    simp only at XP XB XM HT
    rw [hg] at HT
    obtain ⟨D1, hD1⟩ : ∃ D, strOfNums (Nu.decV kd) = D := ⟨_, rfl⟩
    obtain ⟨D2, hD2⟩ : ∃ D, strOfNums (Nu.decV ww) = D := ⟨_, rfl⟩
    obtain ⟨D3, hD3⟩ : ∃ D, strOfNums (Nu.decV hh) = D := ⟨_, rfl⟩
    obtain ⟨D4, hD4⟩ : ∃ D, strOfNums (Nu.decV m) = D := ⟨_, rfl⟩
    rw [hD1] at HD1 s1 XP
    rw [hD2] at HD2 s2 XP
    rw [hD3] at HD3 s3 XP
    rw [hD4] at HD4 s4
    have L1 : ¬ 9223372036854775807 < 1 + D1.size := by omega
    have L2 : ¬ 9223372036854775807 < 1 + D1.size + 1 := by omega
    have L3 : ¬ 9223372036854775807 < 1 + D1.size + 1 + D2.size := by omega
    have L4 : ¬ 9223372036854775807 < 1 + D1.size + 1 + D2.size + 1 := by omega
    have L5 : ¬ 9223372036854775807 < 1 + D1.size + 1 + D2.size + 1 + D3.size := by omega
    have L6 : ¬ 9223372036854775807 < 1 + D1.size + 1 + D2.size + 1 + D3.size + 1 := by omega
    have HG := Lib.hid hg
    have HD4S := Lib.hid hD4
    have S4 := Lib.hid s4
    clear hm hf s1 s2 s3 s4 hD1 hD2 hD3 hD4 hg
    unfold agH at HM ⊢
    go_enter Tryz.func53, Tryz.ntmps53
    go_wp2_with fail
    refine (HM.out _).mono ?_
    rintro e w9 ⟨rfl, hb9⟩
    obtain ⟨n0, n1, n2, n3⟩ := ((Hb.new w 112 ⟨kd, ww, hh, m⟩).later hb9).cells
    have HBz : Hid (Below w.heap.size w w9) := ((Below.refl _ w).alloc (Nat.le_refl _) (.cells #[.int .i64 kd, .int .i64 ww, .int .i64 hh, .int .i64 m] 112)).trans (hb9.mono (by simp))
    have hBr : Below w9.heap.size w9 w9 := .refl _ _
    clear hb9
    go_wp2_with fail
    go_cut [5] (fun s4 wx => s4 = .string ((⟨#[80]⟩ : ByteArray) ++ D1 ++ ⟨#[10]⟩ ++ D2 ++ ⟨#[32]⟩ ++ D3 ++ ⟨#[10]⟩) ∧ Below w9.heap.size w9 wx)
    case first =>
      go_region_held3 (fun w' => w'.cell? ⟨w.heap.size, 0, none⟩ = some (.int .i64 kd) ∧ w'.cell? ⟨w.heap.size, 1, none⟩ = some (.int .i64 ww) ∧ w'.cell? ⟨w.heap.size, 2, none⟩ = some (.int .i64 hh))
        (first | exact ⟨n0, n1, n2⟩ | exact ⟨cell_later hBr n0, cell_later hBr n1, cell_later hBr n2⟩)
        (first
          | (go_at_call 94; with_reducible refine (HD1.out _).mono ?_; rintro e w8 ⟨rfl, hb8⟩; replace hBr := bel_step (w := w9) (by first | exact hBr | exact hBr.drew) hb8)
          | (go_at_call 94; with_reducible refine (HD2.out _).mono ?_; rintro e w8 ⟨rfl, hb8⟩; replace hBr := bel_step (w := w9) (by first | exact hBr | exact hBr.drew) hb8)
          | (go_at_call 94; with_reducible refine (HD3.out _).mono ?_; rintro e w8 ⟨rfl, hb8⟩; replace hBr := bel_step (w := w9) (by first | exact hBr | exact hBr.drew) hb8))
      all_goals
        go_wp2_with fail
        go_meet
        case rel => exact ⟨rfl, hBr⟩
    case rest =>
      obtain ⟨rfl, hBx⟩ := hcut
      have m0 := cell_later hBx n0
      have m3 := cell_later hBx n3
      have HBy := Lib.hid (HBz.out.trans (hBx.mono HBz.out.size))
      clear n0 n1 n2 n3 hBr hBx L1 L2 L3 L4 L5 L6
      rw [XP.out]
      obtain ⟨T, hT⟩ : ∃ T, strOfNums (Hj.pre ⟨kd, ww, hh, m⟩) = T := ⟨_, rfl⟩
      rw [hT] at XS ⊢
      have s4 := S4.out
      have sT := XS.out
      have M1 : ¬ 9223372036854775807 < D4.size + 1 := by omega
      have M2 : ¬ 9223372036854775807 < T.size + (D4.size + 1) := by omega
      have M3 : ¬ 9223372036854775807 < T.size + D4.size := by omega
      have M4 : ¬ 9223372036854775807 < T.size + D4.size + 1 := by omega
      have HTT := Lib.hid hT
      clear hT s4 sT
      cases g with
      | true =>
        go_wp2_with (go_at_call 95; refine (HT.out _).mono ?_; rintro e w7 ⟨rfl, rfl⟩)
        go_ret2
        exact ⟨by rw [X0.out, XB.out HG.out, HTT.out]; rfl, HBy.out⟩
      | false =>
        have XF : Hid (strOfNums (Hd.bytes ⟨kd, ww, hh, m⟩) = T ++ (D4 ++ ⟨#[10]⟩)) := by
          show _ = _
          rw [XM.out HG.out, strOfNums_append, strOfNums_append, HTT.out, HD4S.out]; rfl
        go_wp2_with (first
          | (go_at_call 95; refine (HT.out _).mono ?_; rintro e w7 ⟨rfl, rfl⟩)
          | (go_at_call 94; with_reducible refine (HD4.out _).mono ?_; rintro e w6 ⟨rfl, hb6⟩))
        go_ret2
        exact ⟨by rw [X0.out, XF.out, ← ByteArray.append_assoc]; rfl, HBy.out.trans (hb6.mono HBy.out.size)⟩
  · rw [decide_eq_false hm] at HM
    have X0 : Hid (Hj.wr h = .tuple #[.string ⟨#[]⟩, .int .i64 1]) := if_neg hm
    obtain ⟨kd, ww, hh, m⟩ := h
    clear hm HT
    unfold agH at HM ⊢
    go_enter Tryz.func53, Tryz.ntmps53
    go_wp2_with fail
    refine (HM.out _).mono ?_
    rintro e w9 ⟨rfl, hb9⟩
    go_wp2
    go_ret2
    exact ⟨by rw [X0.out]; rfl, ((Below.refl _ w).alloc (Nat.le_refl _) _).trans (hb9.mono (by simp))⟩
end Go.Proofs.YtmnhiagppicegaaGreat

/- A head's text, and what is parsed of it: plain facts. No condition. -/
namespace Go.Proofs.YtmnhiagppicegaaGreat
open Go.RowKit
set_option linter.unusedVariables false
namespace Hj
/-- a head's text -/
def text (h : Hd.H) : ByteArray := strOfNums (Hd.bytes h)
theorem wr_may {h : Hd.H} (hm : Hd.May h) : wr h = .tuple #[.string (text h), .int .i64 0] := if_pos hm
theorem bytes_fit (h : Hd.H) : ∀ x ∈ Hd.bytes h, 0 ≤ x ∧ x ≤ 255 := by
  intro x hx
  unfold Hd.bytes at hx
  have hd := Nu.decV_bytes
  simp only [List.mem_append] at hx
  rcases hx with ((((((h | h) | h) | h) | h) | h) | h) | h
  · rw [List.mem_singleton.1 h]; omega
  · exact hd _ x h
  · rw [List.mem_singleton.1 h]; omega
  · exact hd _ x h
  · rw [List.mem_singleton.1 h]; omega
  · exact hd _ x h
  · rw [List.mem_singleton.1 h]; omega
  · split at h
    · cases h
    · rcases List.mem_append.1 h with h | h
      · exact hd _ x h
      · rw [List.mem_singleton.1 h]; omega
theorem text_bytes (h : Hd.H) : bytesOf (text h) = Hd.bytes h := bytesOf_strOfNums (bytes_fit h)
theorem text_len (h : Hd.H) : (text h).size = (Hd.bytes h).length := strOfNums_size _
theorem may_fit {h : Hd.H} (hm : Hd.May h) : Fit h := by
  obtain ⟨a, b, c, d, _⟩ := hm
  refine ⟨⟨?_, ?_⟩, ⟨?_, ?_⟩, ⟨?_, ?_⟩, ⟨?_, ?_⟩⟩ <;> omega
theorem text_size {h : Hd.H} (hf : Fit h) : (text h).size ≤ 271 := by
  rw [text_len]
  have a := Nu.decV_len hf.1
  have b := Nu.decV_len hf.2.1
  have c := Nu.decV_len hf.2.2.1
  have d := Nu.decV_len hf.2.2.2
  unfold Hd.bytes
  simp only [List.length_append, List.length_cons, List.length_nil]
  split <;> simp only [List.length_append, List.length_cons, List.length_nil] <;> omega
theorem lim_id {n hi : Int} (h1 : 1 ≤ n) (h2 : n ≤ hi) : Hd.lim n hi = n := (Hd.lim_self (by omega)).2 ⟨h1, h2⟩
theorem limits_id {a b c : Int} (a1 : 1 ≤ a) (a2 : a ≤ 4096) (b1 : 1 ≤ b) (b2 : b ≤ 65536) (c1 : 1 ≤ c) (c2 : c ≤ 65535) : Hd.limits a b c = ⟨a, b, c⟩ := by
  unfold Hd.limits; rw [lim_id a1 a2, lim_id b1 b2, lim_id c1 c2]
end Hj
end Go.Proofs.YtmnhiagppicegaaGreat

/- Where an image is in another one: of image and of the document, over any memory. Condition: both may be. -/
namespace Go.Proofs.YtmnhiagppicegaaGreat
open Go.RowKit
set_option linter.unusedVariables false
/-- what an image that may be is, as a matrix -/
theorem Im.good_ok {c m gw gh : Int} {l : List Int} {n : Nat} {W H : Int} (hw : 1 ≤ W ∧ W ≤ 9) (hh : 1 ≤ H ∧ H ≤ 9) (hl : l.length = W.toNat * H.toNat) : Rc.Ok W H l := by
  refine ⟨hw.1, by omega, hh.1, by omega, ?_, by rw [hl, Nat.mul_comm]⟩
  have : W * H ≤ 9 * 9 := Int.mul_le_mul hw.2 hh.2 (by omega) (by omega)
  omega
end Go.Proofs.YtmnhiagppicegaaGreat

/- What is left of a slice of integers from a place on; what Good makes is a pixel of its format. No condition. -/
namespace Go.Proofs.YtmnhiagppicegaaGreat
open Go.RowKit
set_option linter.unusedVariables false

/-- what is left of a slice of integers from its s-th one on -/
def cutA (a : Option Addr) (cap s : Nat) : Option Addr := if cap = s then a else a.map (·.add s)
theorem run_cut (a : Option Addr) (len cap s : Nat) (hs : s ≤ len) (W : World) :
    (Instr.slice 22 (.slice a len cap) (some (.int .i64 s)) none none).run Tryz.prog W = .ok (.slice (cutA a cap s) (len - s) (cap - s)) W := by
  rw [run_slice_l W 22 a len cap (by kernel_rfl) .i64 s (by omega) (by omega)]
  have hz : (sizeOf (Tryz.prog.elem 22)).run Tryz.prog W = .ok 1 W := by kernel_rfl
  rw [hz]
  simp [Result.andThen, sliced, cutA]
end Go.Proofs.YtmnhiagppicegaaGreat

/- An image as the document has it, and as the program does: the same value. No condition. -/
namespace Go.Proofs.YtmnhiagppicegaaGreat
open Go.RowKit
set_option linter.unusedVariables false
set_option maxHeartbeats 2000000 in
theorem imAs_any (c m W H : Int) (a : Option Addr) (n cap : Nat) (w : World) : Calls Tryz.prog 21 #[agI c m W H (.slice a n cap)] w fun e w' => e = .returned (agI c m W H (.slice a n cap)) ∧ Below w.heap.size w w' := by
  have hB := box2 w (.cells #[.int .i64 c, .int .i64 m, .int .i64 W, .int .i64 H, .slice a n cap] 40) (.cells #[.int .i64 0, .int .i64 0, .int .i64 0, .int .i64 0, .slice none 0 0] 33)
  have X := (Ib.new w 40 c m W H (.slice a n cap)).later (box1 _ (.cells #[.int .i64 0, .int .i64 0, .int .i64 0, .int .i64 0, .slice none 0 0] 33))
  have Z := Ib.new (w.alloc (.cells #[.int .i64 c, .int .i64 m, .int .i64 W, .int .i64 H, .slice a n cap] 40)) 33 0 0 0 0 (.slice none 0 0)
  rw [show (w.alloc (.cells #[.int .i64 c, .int .i64 m, .int .i64 W, .int .i64 H, .slice a n cap] 40)).heap.size = w.heap.size + 1 by simp] at Z
  obtain ⟨W0, hW⟩ : ∃ W0, (w.alloc (.cells #[.int .i64 c, .int .i64 m, .int .i64 W, .int .i64 H, .slice a n cap] 40)).alloc (.cells #[.int .i64 0, .int .i64 0, .int .i64 0, .int .i64 0, .slice none 0 0] 33) = W0 := ⟨_, rfl⟩
  unfold agI
  go_enter Tryz.func21, Tryz.ntmps21
  go_upto_region 1 with fail
  rw [hW] at hB X Z
  try rw [hW]
  clear hW
  have HZ := Lib.hid Z
  obtain ⟨x0, x1, x2, x3, x4⟩ := X.cells
  obtain ⟨z0, z1, z2, z3, z4⟩ := Z.cells
  obtain ⟨f0, f1, f2, f3, f4⟩ := Z.fr
  clear Z X
  go_wp2
  (try simp only [Exit.inBlock, Exit.then])
  refine bodyPost_ret (Hj.ret1 Tryz.results21 _ _ _ _ rfl (load_ri (HZ.out.put c m W H (.slice a n cap)))) rfl ?_
  exact ⟨rfl, ((((hB.setCell (by simp) _).setCell (by simp) _).setCell (by simp) _).setCell (by simp) _).setCell (by simp) _⟩
set_option maxHeartbeats 2000000 in
theorem imOf_any (c m W H : Int) (a : Option Addr) (n cap : Nat) (w : World) : Calls Tryz.prog 13 #[agI c m W H (.slice a n cap)] w fun e w' => e = .returned (agI c m W H (.slice a n cap)) ∧ Below w.heap.size w w' := by
  have hB := box2 w (.cells #[.int .i64 c, .int .i64 m, .int .i64 W, .int .i64 H, .slice a n cap] 33) (.cells #[.int .i64 0, .int .i64 0, .int .i64 0, .int .i64 0, .slice none 0 0] 40)
  have X := (Ib.new w 33 c m W H (.slice a n cap)).later (box1 _ (.cells #[.int .i64 0, .int .i64 0, .int .i64 0, .int .i64 0, .slice none 0 0] 40))
  have Z := Ib.new (w.alloc (.cells #[.int .i64 c, .int .i64 m, .int .i64 W, .int .i64 H, .slice a n cap] 33)) 40 0 0 0 0 (.slice none 0 0)
  rw [show (w.alloc (.cells #[.int .i64 c, .int .i64 m, .int .i64 W, .int .i64 H, .slice a n cap] 33)).heap.size = w.heap.size + 1 by simp] at Z
  obtain ⟨W0, hW⟩ : ∃ W0, (w.alloc (.cells #[.int .i64 c, .int .i64 m, .int .i64 W, .int .i64 H, .slice a n cap] 33)).alloc (.cells #[.int .i64 0, .int .i64 0, .int .i64 0, .int .i64 0, .slice none 0 0] 40) = W0 := ⟨_, rfl⟩
  unfold agI
  go_enter Tryz.func13, Tryz.ntmps13
  go_upto_region 1 with fail
  rw [hW] at hB X Z
  try rw [hW]
  clear hW
  have HZ := Lib.hid Z
  obtain ⟨x0, x1, x2, x3, x4⟩ := X.cells
  obtain ⟨z0, z1, z2, z3, z4⟩ := Z.cells
  obtain ⟨f0, f1, f2, f3, f4⟩ := Z.fr
  clear Z X
  go_wp2
  (try simp only [Exit.inBlock, Exit.then])
  refine bodyPost_ret (Hj.ret1 Tryz.results13 _ _ _ _ rfl (load_im (HZ.out.put c m W H (.slice a n cap)))) rfl ?_
  exact ⟨rfl, ((((hB.setCell (by simp) _).setCell (by simp) _).setCell (by simp) _).setCell (by simp) _).setCell (by simp) _⟩
end Go.Proofs.YtmnhiagppicegaaGreat
