/- Whether all numbers of a matrix are pixels of a format, by rect and by the document, over any memory. Condition: numbers fit their kinds. -/
import Derived.Test.YteonfgphihacgaaQPixF
import Derived.Test.YteonfgphihacgaaRecL
import Derived.Deep.DeepCutAuto
namespace Go.Proofs.Yteonfgphihacgaa
open Go.RowKit
set_option linter.unusedVariables false

/-- whether all numbers are pixels of a format -/
def fitL (c m : Int) (L : List Int) : Bool := L.all fun p => Pq.Px.fitsV p c m
theorem fitL_cut {c m : Int} {L : List Int} {k : Nat} (hk : k < L.length) (h : fitL c m (L.take k) = true) (e : Pq.Px.fitsV (L.getD k 0) c m = true) : fitL c m (L.take (k + 1)) = true := by
  unfold fitL at *
  rw [List.take_succ_eq_append_getElem hk, List.all_append, h]
  rw [List.getD_eq_getElem?_getD, List.getElem?_eq_getElem hk] at e
  simpa using e
theorem fitL_no {c m : Int} {L : List Int} {k : Nat} (hk : k < L.length) (e : Pq.Px.fitsV (L.getD k 0) c m = false) : fitL c m L = false := by
  unfold fitL
  rw [List.getD_eq_getElem?_getD, List.getElem?_eq_getElem hk] at e
  have e' : Pq.Px.fitsV L[k] c m = false := e
  rw [List.all_eq_false]
  exact ⟨L[k], List.getElem_mem hk, by simp [e']⟩
set_option maxHeartbeats 1000000 in
theorem unfit_any (p c m : Int) (b : Nat) (hU : Pq.Px.U p) (w : World) (h0 : w.cell? ⟨b, 0, none⟩ = some (.int .i64 c)) (h1 : w.cell? ⟨b, 1, none⟩ = some (.int .i64 m)) :
    Calls Try.prog 75 #[.int .u64 p, .pointer (some ⟨b, 0, none⟩)] w fun e w' => e = .returned (.bool (!Pq.Px.fitsV p c m)) ∧ Below w.heap.size w w' := by
  have HF := Lib.hid (Pq.fits_any p c m hU)
  generalize Pq.Px.fitsV p c m = r at HF ⊢
  go_enter Try.func75, Try.ntmps75
  go_wp2_with (go_at_call 76; refine (HF.out _).mono ?_; rintro e w1 ⟨rfl, hb⟩)
  go_ret
  exact ⟨rfl, hb⟩
def AtR (c m : Int) (L : List Int) (w : World) (e : Ending) (w' : World) : Prop := ∃ j : Int, e = .returned (.int .i64 j) ∧ decide (0 ≤ j) = (!fitL c m L) ∧ Below w.heap.size w w'
set_option maxRecDepth 100000 in
set_option maxHeartbeats 4000000 in
theorem indexP_any (a : Option Addr) (n cap b : Nat) (c m : Int) (L : List Int) (hn : n ≤ 9223372036854775807) (hU : ∀ x ∈ L, Pq.Px.U x) (w : World) (hs : SlK .u64 w a n L) (h0 : w.cell? ⟨b, 0, none⟩ = some (.int .i64 c)) (h1 : w.cell? ⟨b, 1, none⟩ = some (.int .i64 m)) :
    Calls Try.prog 93 #[.slice a n cap, .func (.func 75) #[] #[.pointer (some ⟨b, 0, none⟩)]] w (AtR c m L w) := by
  obtain ⟨hl, hs⟩ := hs
  have HL := Lib.hid hl
  have HU := Lib.hid hU
  have HS := Lib.hid hs
  have H0 := Lib.hid h0
  have H1 := Lib.hid h1
  have en := enters_of Try.func75 (by kernel_rfl) rfl
  clear hl hs h0 h1 hU
  go_enter Try.func93, Try.ntmps93
  go_wp2
  go_loopw [8] (fun s8 wr => ∃ j : Nat, j ≤ n ∧ s8 = .int .i64 j ∧ Below w.heap.size w wr ∧ Hid (fitL c m (L.take j) = true)) (fun s8 _ => n - (intOf s8).toNat)
  case atStart => exact ⟨0, Nat.zero_le _, rfl, Below.refl _ _, rfl⟩
  case round =>
    obtain ⟨j, hj, rfl, hB, hA⟩ := hrel
    by_cases hlt : j < n
    · have hltI : (j : Int) < (n : Int) := by omega
      obtain ⟨blk, off, ha, hcell⟩ : ∃ blk off, a = some ⟨blk, off, none⟩ ∧ w.cell? ⟨blk, off + j, none⟩ = some (.int .u64 (L.getD j 0)) := by
        rcases HS.out with h | ⟨blk, off, h, hc⟩
        · omega
        · exact ⟨blk, off, h, hc j hlt⟩
      have hjl : j < L.length := by rw [HL.out]; exact hlt
      have hxm : L.getD j 0 ∈ L := by rw [List.getD_eq_getElem?_getD, List.getElem?_eq_getElem hjl]; exact List.getElem_mem _
      have hxU := HU.out _ hxm
      have hcl := unfit_any (L.getD j 0) c m b hxU wr (cell_later hB H0.out) (cell_later hB H1.out)
      have hcw := cell_later hB hcell
      obtain ⟨r, hr⟩ : ∃ r, Pq.Px.fitsV (L.getD j 0) c m = r := ⟨_, rfl⟩
      rw [hr] at hcl
      have HR := Lib.hid hr
      obtain ⟨x, hx⟩ : ∃ x, L.getD j 0 = x := ⟨_, rfl⟩
      rw [hx] at hcl hcw
      have HC := Lib.hid hcl
      clear hcl hr hx hcell hxm hxU
      cases r with
      | true =>
        have HN := Lib.hid (fitL_cut hjl hA.out HR.out)
        subst ha
        go_wp2_with fail
        refine HC.out.mono ?_
        rintro e w9 ⟨rfl, hb9⟩
        have hB9 := hB.trans (hb9.mono hB.size)
        go_wp2
        go_roundw
        case rel => exact ⟨j + 1, by omega, by go_num, hB9, HN.out⟩
        case measure => simp [intOf]; omega
      | false =>
        have HN := Lib.hid (fitL_no hjl HR.out)
        subst ha
        go_wp2_with fail
        refine HC.out.mono ?_
        rintro e w9 ⟨rfl, hb9⟩
        have hB9 := hB.trans (hb9.mono hB.size)
        go_wp2
        go_ret
        exact ⟨j, rfl, by rw [HN.out]; simp, hB9⟩
    · have hltI : ¬ (j : Int) < (n : Int) := by omega
      have HN : Hid (fitL c m L = true) := by
        show _ = _
        have h := hA.out
        rwa [List.take_of_length_le (by rw [HL.out]; omega)] at h
      go_wp2
      go_ret
      exact ⟨-1, rfl, by rw [HN.out]; decide, hB⟩

set_option maxHeartbeats 1000000 in
theorem containsP_any (a : Option Addr) (n cap b : Nat) (c m : Int) (L : List Int) (hn : n ≤ 9223372036854775807) (hU : ∀ x ∈ L, Pq.Px.U x) (w : World) (hs : SlK .u64 w a n L) (h0 : w.cell? ⟨b, 0, none⟩ = some (.int .i64 c)) (h1 : w.cell? ⟨b, 1, none⟩ = some (.int .i64 m)) :
    Calls Try.prog 77 #[.slice a n cap, .func (.func 75) #[] #[.pointer (some ⟨b, 0, none⟩)]] w fun e w' => e = .returned (.bool (!fitL c m L)) ∧ Below w.heap.size w w' := by
  have HC := Lib.hid (indexP_any a n cap b c m L hn hU w hs h0 h1)
  clear hU hs h0 h1
  go_enter Try.func77, Try.ntmps77
  go_wp2_with fail
  refine HC.out.mono ?_
  rintro e w1 ⟨j, rfl, hj, hb⟩
  have HJ := Lib.hid hj
  clear hj
  go_wp2
  go_ret
  exact ⟨ret_b HJ.out, hb⟩
set_option maxHeartbeats 2000000 in
theorem fitsM_any (W H : Int) (a : Option Addr) (n cap : Nat) (c m : Int) (L : List Int) (hn : n ≤ 9223372036854775807) (hU : ∀ x ∈ L, Pq.Px.U x) (w : World) (hs : SlK .u64 w a n L) :
    Calls Try.prog 52 #[.agg #[.int .i64 W, .int .i64 H, .slice a n cap], .agg #[.int .i64 c, .int .i64 m]] w fun e w' => e = .returned (.bool (Rc.mayV W H n && fitL c m L)) ∧ Below w.heap.size w w' := by
  have B1 := box1 w (.cells #[.int .i64 W, .int .i64 H, .slice a n cap] 54)
  obtain ⟨W1, hW1⟩ : ∃ W1, w.alloc (.cells #[.int .i64 W, .int .i64 H, .slice a n cap] 54) = W1 := ⟨_, rfl⟩
  have B2 := box1 W1 (.cells #[.int .i64 c, .int .i64 m] 74)
  have hz1 : W1.heap.size = w.heap.size + 1 := by rw [← hW1]; simp
  have X := Sb.new w 54 (.int .i64 W) (.int .i64 H) (.slice a n cap)
  rw [hW1] at B1 X
  have X2 := X.later B2
  have c0 : (W1.alloc (.cells #[.int .i64 c, .int .i64 m] 74)).cell? ⟨W1.heap.size, 0, none⟩ = some (.int .i64 c) := by simp [go_sem]
  have c1 : (W1.alloc (.cells #[.int .i64 c, .int .i64 m] 74)).cell? ⟨W1.heap.size, 1, none⟩ = some (.int .i64 m) := by simp [go_sem]
  have HS := Lib.hid ((hs.below B1).below B2)
  have HB := Lib.hid (B1.trans (B2.mono B1.size))
  have HU := Lib.hid hU
  have HW1 := Lib.hid hW1
  obtain ⟨W2, hW2⟩ : ∃ W2, W1.alloc (.cells #[.int .i64 c, .int .i64 m] 74) = W2 := ⟨_, rfl⟩
  rw [hW2] at c0 c1 HS HB X2
  rw [hz1] at c0 c1
  have HW2 := Lib.hid hW2
  have HX := Lib.hid X2
  have HC0 := Lib.hid c0
  have HC1 := Lib.hid c1
  clear hs B1 B2 X X2 hU c0 c1 hW1 hW2 hz1
  obtain ⟨r, hr⟩ : ∃ r, Rc.mayV W H n = r := ⟨_, rfl⟩
  have HM := may_any W H a n cap hn
  rw [hr] at HM ⊢
  have HM' := Lib.hid HM
  clear HM hr
  go_enter Try.func52, Try.ntmps52
  go_upto_region 2 with (fail)
  rw [HW1.out, HW2.out]
  obtain ⟨x0, x1, x2⟩ := HX.out.cells
  cases r with
  | true =>
    go_wp2_with fail
    refine (HM'.out _).mono ?_
    rintro e w3 ⟨rfl, hb3⟩
    have HB3 := Lib.hid (HB.out.trans (hb3.mono HB.out.size))
    have HC := Lib.hid (containsP_any a n cap (w.heap.size + 1) c m L hn HU.out w3 (HS.out.below hb3) (cell_later hb3 HC0.out) (cell_later hb3 HC1.out))
    obtain ⟨y0, y1, y2⟩ := (HX.out.later hb3).cells
    clear x0 x1 x2 hb3
    go_wp2_with fail
    refine HC.out.mono ?_
    rintro e w4 ⟨rfl, hb4⟩
    have HB4 := Lib.hid (HB3.out.trans (hb4.mono HB3.out.size))
    clear hb4
    go_wp2
    go_ret
    exact ⟨ret_b (by simp), HB4.out⟩
  | false =>
    go_wp2_with (go_at_call 41; refine (HM'.out _).mono ?_; rintro e w3 ⟨rfl, hb3⟩; have HB3 := Lib.hid (HB.out.trans (hb3.mono HB.out.size)); clear hb3)
    go_ret
    exact ⟨ret_b (by simp), HB3.out⟩
end Go.Proofs.Yteonfgphihacgaa
