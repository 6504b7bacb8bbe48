/- Whether all numbers of a matrix are pixels of a format, by rect and by the document, over any memory. Condition: numbers fit their kinds. -/
import Derived.Test.YtmnhiagppicegaaGreatZQPixF
import Derived.Test.YtmnhiagppicegaaGreatZgAA
import Derived.Deep.DeepCutAuto
import Derived.Test.YtmnhiagppicegaaGreatZQPixD
import Derived.Test.YtmnhiagppicegaaGreatZRecO
import Derived.Test.YtmnhiagppicegaaGreatZHedN
import Derived.Test.YtmnhiagppicegaaGreatZHedK
import Derived.Test.YtmnhiagppicegaaGreatZgAB
import Derived.Test.YtmnhiagppicegaaGreatZgAC
import Derived.Deep.RegionHeld3
import Derived.BigQuiet
import Derived.Deep.QuietTactic
import Derived.Laws.EntriesVeiled
import Derived.Deep.AppendLies
import Derived.Deep.RegionLaw
namespace Go.Proofs.YtmnhiagppicegaaGreat
open Go.RowKit
set_option linter.unusedVariables false

/-- whether all numbers are pixels of a format -/
def fitL (c m : Int) (L : List Int) : Bool := L.all fun p => Pq.Px.fitsV p c m
theorem fitL_cut {c m : Int} {L : List Int} {k : Nat} (hk : k < L.length) (h : fitL c m (L.take k) = true) (e : Pq.Px.fitsV (L.getD k 0) c m = true) : fitL c m (L.take (k + 1)) = true := by
  unfold fitL at *
  rw [List.take_succ_eq_append_getElem hk, List.all_append, h]
  rw [List.getD_eq_getElem?_getD, List.getElem?_eq_getElem hk] at e
  simpa using e
theorem fitL_no {c m : Int} {L : List Int} {k : Nat} (hk : k < L.length) (e : Pq.Px.fitsV (L.getD k 0) c m = false) : fitL c m L = false := by
  unfold fitL
  rw [List.getD_eq_getElem?_getD, List.getElem?_eq_getElem hk] at e
  have e' : Pq.Px.fitsV L[k] c m = false := e
  rw [List.all_eq_false]
  exact ⟨L[k], List.getElem_mem hk, by simp [e']⟩
set_option maxHeartbeats 1000000 in
theorem unfit_any (p c m : Int) (b : Nat) (hU : Pq.Px.U p) (w : World) (h0 : w.cell? ⟨b, 0, none⟩ = some (.int .i64 c)) (h1 : w.cell? ⟨b, 1, none⟩ = some (.int .i64 m)) :
    Calls Tryz.prog 81 #[.int .u64 p, .pointer (some ⟨b, 0, none⟩)] w fun e w' => e = .returned (.bool (!Pq.Px.fitsV p c m)) ∧ Below w.heap.size w w' := by
  have HF := Lib.hid (Pq.fits_any p c m hU)
  generalize Pq.Px.fitsV p c m = r at HF ⊢
  go_enter Tryz.func81, Tryz.ntmps81
  go_wp2_with (go_at_call 82; refine (HF.out _).mono ?_; rintro e w1 ⟨rfl, hb⟩)
  go_ret
  exact ⟨rfl, hb⟩
def AtFit (c m : Int) (L : List Int) (w : World) (e : Ending) (w' : World) : Prop := ∃ j : Int, e = .returned (.int .i64 j) ∧ decide (0 ≤ j) = (!fitL c m L) ∧ Below w.heap.size w w'
set_option maxRecDepth 100000 in
set_option maxHeartbeats 4000000 in
theorem indexP_any (a : Option Addr) (n cap b : Nat) (c m : Int) (L : List Int) (hn : n ≤ 9223372036854775807) (hU : ∀ x ∈ L, Pq.Px.U x) (w : World) (hs : SlK .u64 w a n L) (h0 : w.cell? ⟨b, 0, none⟩ = some (.int .i64 c)) (h1 : w.cell? ⟨b, 1, none⟩ = some (.int .i64 m)) :
    Calls Tryz.prog 130 #[.slice a n cap, .func (.func 81) #[] #[.pointer (some ⟨b, 0, none⟩)]] w (AtFit c m L w) := by
  obtain ⟨hl, hs⟩ := hs
  have HL := Lib.hid hl
  have HU := Lib.hid hU
  have HS := Lib.hid hs
  have H0 := Lib.hid h0
  have H1 := Lib.hid h1
  have en := enters_of Tryz.func81 (by kernel_rfl) rfl
  clear hl hs h0 h1 hU
  go_enter Tryz.func130, Tryz.ntmps130
  go_wp2
  go_loopw [8] (fun s8 wr => ∃ j : Nat, j ≤ n ∧ s8 = .int .i64 j ∧ Below w.heap.size w wr ∧ Hid (fitL c m (L.take j) = true)) (fun s8 _ => n - (intOf s8).toNat)
  case atStart => exact ⟨0, Nat.zero_le _, rfl, Below.refl _ _, rfl⟩
  case round =>
    obtain ⟨j, hj, rfl, hB, hA⟩ := hrel
    by_cases hlt : j < n
    · have hltI : (j : Int) < (n : Int) := by omega
      obtain ⟨blk, off, ha, hcell⟩ : ∃ blk off, a = some ⟨blk, off, none⟩ ∧ w.cell? ⟨blk, off + j, none⟩ = some (.int .u64 (L.getD j 0)) := by
        rcases HS.out with h | ⟨blk, off, h, hc⟩
        · omega
        · exact ⟨blk, off, h, hc j hlt⟩
      have hjl : j < L.length := by rw [HL.out]; exact hlt
      have hxm : L.getD j 0 ∈ L := by rw [List.getD_eq_getElem?_getD, List.getElem?_eq_getElem hjl]; exact List.getElem_mem _
      have hxU := HU.out _ hxm
      have hcl := unfit_any (L.getD j 0) c m b hxU wr (cell_later hB H0.out) (cell_later hB H1.out)
      have hcw := cell_later hB hcell
      obtain ⟨r, hr⟩ : ∃ r, Pq.Px.fitsV (L.getD j 0) c m = r := ⟨_, rfl⟩
      rw [hr] at hcl
      have HR := Lib.hid hr
      obtain ⟨x, hx⟩ : ∃ x, L.getD j 0 = x := ⟨_, rfl⟩
      rw [hx] at hcl hcw
      have HC := Lib.hid hcl
      clear hcl hr hx hcell hxm hxU
      cases r with
      | true =>
        have HN := Lib.hid (fitL_cut hjl hA.out HR.out)
        subst ha
        go_wp2_with fail
        refine HC.out.mono ?_
        rintro e w9 ⟨rfl, hb9⟩
        have hB9 := hB.trans (hb9.mono hB.size)
        go_wp2
        go_roundw
        case rel => exact ⟨j + 1, by omega, by go_num, hB9, HN.out⟩
        case measure => simp [intOf]; omega
      | false =>
        have HN := Lib.hid (fitL_no hjl HR.out)
        subst ha
        go_wp2_with fail
        refine HC.out.mono ?_
        rintro e w9 ⟨rfl, hb9⟩
        have hB9 := hB.trans (hb9.mono hB.size)
        go_wp2
        go_ret
        exact ⟨j, rfl, by rw [HN.out]; simp, hB9⟩
    · have hltI : ¬ (j : Int) < (n : Int) := by omega
      have HN : Hid (fitL c m L = true) := by
        show _ = _
        have h := hA.out
        rwa [List.take_of_length_le (by rw [HL.out]; omega)] at h
      go_wp2
      go_ret
      exact ⟨-1, rfl, by rw [HN.out]; decide, hB⟩

set_option maxHeartbeats 1000000 in
theorem containsP_any (a : Option Addr) (n cap b : Nat) (c m : Int) (L : List Int) (hn : n ≤ 9223372036854775807) (hU : ∀ x ∈ L, Pq.Px.U x) (w : World) (hs : SlK .u64 w a n L) (h0 : w.cell? ⟨b, 0, none⟩ = some (.int .i64 c)) (h1 : w.cell? ⟨b, 1, none⟩ = some (.int .i64 m)) :
    Calls Tryz.prog 84 #[.slice a n cap, .func (.func 81) #[] #[.pointer (some ⟨b, 0, none⟩)]] w fun e w' => e = .returned (.bool (!fitL c m L)) ∧ Below w.heap.size w w' := by
  have HC := Lib.hid (indexP_any a n cap b c m L hn hU w hs h0 h1)
  clear hU hs h0 h1
  go_enter Tryz.func84, Tryz.ntmps84
  go_wp2_with fail
  refine HC.out.mono ?_
  rintro e w1 ⟨j, rfl, hj, hb⟩
  have HJ := Lib.hid hj
  clear hj
  go_wp2
  go_ret
  exact ⟨ret_bR HJ.out, hb⟩
set_option maxHeartbeats 2000000 in
theorem fitsM_any (W H : Int) (a : Option Addr) (n cap : Nat) (c m : Int) (L : List Int) (hn : n ≤ 9223372036854775807) (hU : ∀ x ∈ L, Pq.Px.U x) (w : World) (hs : SlK .u64 w a n L) :
    Calls Tryz.prog 48 #[.agg #[.int .i64 W, .int .i64 H, .slice a n cap], .agg #[.int .i64 c, .int .i64 m]] w fun e w' => e = .returned (.bool (Rc.mayV W H n && fitL c m L)) ∧ Below w.heap.size w w' := by
  have B1 := box1 w (.cells #[.int .i64 W, .int .i64 H, .slice a n cap] 38)
  obtain ⟨W1, hW1⟩ : ∃ W1, w.alloc (.cells #[.int .i64 W, .int .i64 H, .slice a n cap] 38) = W1 := ⟨_, rfl⟩
  have B2 := box1 W1 (.cells #[.int .i64 c, .int .i64 m] 28)
  have hz1 : W1.heap.size = w.heap.size + 1 := by rw [← hW1]; simp
  have X := Sb.new w 38 (.int .i64 W) (.int .i64 H) (.slice a n cap)
  rw [hW1] at B1 X
  have X2 := X.later B2
  have c0 : (W1.alloc (.cells #[.int .i64 c, .int .i64 m] 28)).cell? ⟨W1.heap.size, 0, none⟩ = some (.int .i64 c) := by simp [go_sem]
  have c1 : (W1.alloc (.cells #[.int .i64 c, .int .i64 m] 28)).cell? ⟨W1.heap.size, 1, none⟩ = some (.int .i64 m) := by simp [go_sem]
  have HS := Lib.hid ((hs.below B1).below B2)
  have HB := Lib.hid (B1.trans (B2.mono B1.size))
  have HU := Lib.hid hU
  have HW1 := Lib.hid hW1
  obtain ⟨W2, hW2⟩ : ∃ W2, W1.alloc (.cells #[.int .i64 c, .int .i64 m] 28) = W2 := ⟨_, rfl⟩
  rw [hW2] at c0 c1 HS HB X2
  rw [hz1] at c0 c1
  have HW2 := Lib.hid hW2
  have HX := Lib.hid X2
  have HC0 := Lib.hid c0
  have HC1 := Lib.hid c1
  clear hs B1 B2 X X2 hU c0 c1 hW1 hW2 hz1
  obtain ⟨r, hr⟩ : ∃ r, Rc.mayV W H n = r := ⟨_, rfl⟩
  have HM := may_any W H a n cap hn
  rw [hr] at HM ⊢
  have HM' := Lib.hid HM
  clear HM hr
  go_enter Tryz.func48, Tryz.ntmps48
  go_upto_region 2 with (fail)
  rw [HW1.out, HW2.out]
  obtain ⟨x0, x1, x2⟩ := HX.out.cells
  cases r with
  | true =>
    go_wp2_with fail
    refine (HM'.out _).mono ?_
    rintro e w3 ⟨rfl, hb3⟩
    have HB3 := Lib.hid (HB.out.trans (hb3.mono HB.out.size))
    have HC := Lib.hid (containsP_any a n cap (w.heap.size + 1) c m L hn HU.out w3 (HS.out.below hb3) (cell_later hb3 HC0.out) (cell_later hb3 HC1.out))
    obtain ⟨y0, y1, y2⟩ := (HX.out.later hb3).cells
    clear x0 x1 x2 hb3
    go_wp2_with fail
    refine HC.out.mono ?_
    rintro e w4 ⟨rfl, hb4⟩
    have HB4 := Lib.hid (HB3.out.trans (hb4.mono HB3.out.size))
    clear hb4
    go_wp2
    go_ret
    exact ⟨ret_bR (by simp), HB4.out⟩
  | false =>
    go_wp2_with (go_at_call 83; refine (HM'.out _).mono ?_; rintro e w3 ⟨rfl, hb3⟩; have HB3 := Lib.hid (HB.out.trans (hb3.mono HB.out.size)); clear hb3)
    go_ret
    exact ⟨ret_bR (by simp), HB3.out⟩
end Go.Proofs.YtmnhiagppicegaaGreat

/- Whether all numbers of a matrix are pixels of a format, by the document, over any memory. Condition: numbers fit their kinds. -/
namespace Go.Proofs.YtmnhiagppicegaaGreat
open Go.RowKit
set_option linter.unusedVariables false

end Go.Proofs.YtmnhiagppicegaaGreat

/- An image in five cells of a block; whether it may be, whether two are the same, where one is in another one: of image and of the document, over any memory. Condition: the rows are no longer than the pixels told. -/
namespace Go.Proofs.YtmnhiagppicegaaGreat
open Go.RowKit
set_option linter.unusedVariables false

/-- an image, as a value -/
def agI (c m W H : Int) (v : Value) : Value := .agg #[.int .i64 c, .int .i64 m, .int .i64 W, .int .i64 H, v]
/-- five cells in a block of the call's own -/
def Ib (w : World) (b : Nat) (t : TypeId) (c m W H : Int) (v : Value) : Prop := w.heap[b]? = some (.cells #[.int .i64 c, .int .i64 m, .int .i64 W, .int .i64 H, v] t (0, 0))
section
variable {w w' : World} {b : Nat} {t : TypeId} {c m W H : Int} {v : Value}
theorem Ib.lt (hh : Ib w b t c m W H v) : b < w.heap.size := (Array.getElem?_eq_some_iff.1 hh).1
theorem Ib.later (hh : Ib w b t c m W H v) (hb : Below w.heap.size w w') : Ib w' b t c m W H v := (hb.block b hh.lt).trans hh
theorem Ib.sep {Z : Nat → Prop} (hh : Ib w b t c m W H v) (hs : Sep Z w w') (hz : ¬ Z b) : Ib w' b t c m W H v := (hs.block b hh.lt hz).trans hh
theorem Ib.cells (hh : Ib w b t c m W H v) : w.cell? ⟨b, 0, none⟩ = some (.int .i64 c) ∧ w.cell? ⟨b, 1, none⟩ = some (.int .i64 m) ∧ w.cell? ⟨b, 2, none⟩ = some (.int .i64 W) ∧ w.cell? ⟨b, 3, none⟩ = some (.int .i64 H) ∧ w.cell? ⟨b, 4, none⟩ = some v := by
  have h' : w.heap[b]? = _ := hh
  refine ⟨?_, ?_, ?_, ?_, ?_⟩ <;> simp [World.cell?, h']
theorem Ib.fr (hh : Ib w b t c m W H v) : w.frozen? ⟨b, 0, none⟩ = false ∧ w.frozen? ⟨b, 1, none⟩ = false ∧ w.frozen? ⟨b, 2, none⟩ = false ∧ w.frozen? ⟨b, 3, none⟩ = false ∧ w.frozen? ⟨b, 4, none⟩ = false := by
  have h' : w.heap[b]? = _ := hh
  refine ⟨?_, ?_, ?_, ?_, ?_⟩ <;> simp [World.frozen?, h']
theorem Ib.new (w : World) (t : TypeId) (c m W H : Int) (v : Value) : Ib (w.alloc (.cells #[.int .i64 c, .int .i64 m, .int .i64 W, .int .i64 H, v] t)) w.heap.size t c m W H v := World.alloc_heap_new w _
theorem Ib.put (hh : Ib w b t c m W H v) (c' m' W' H' : Int) (v' : Value) : Ib (((((w.setCell ⟨b, 0, none⟩ (.int .i64 c')).setCell ⟨b, 1, none⟩ (.int .i64 m')).setCell ⟨b, 2, none⟩ (.int .i64 W')).setCell ⟨b, 3, none⟩ (.int .i64 H')).setCell ⟨b, 4, none⟩ v') b t c' m' W' H' v' := by
  have h' : w.heap[b]? = _ := hh
  have h1 := Go.heap_setCell_same w b 0 _ _ (.int .i64 c') h'
  have h2 := Go.heap_setCell_same _ b 1 _ _ (.int .i64 m') h1
  have h3 := Go.heap_setCell_same _ b 2 _ _ (.int .i64 W') h2
  have h4 := Go.heap_setCell_same _ b 3 _ _ (.int .i64 H') h3
  have h5 := Go.heap_setCell_same _ b 4 _ _ v' h4
  simpa [Ib] using h5
end
theorem load_im {w : World} {b : Nat} {t : TypeId} {c m W H : Int} {v : Value} (hh : Ib w b t c m W H v) : (loadVar 40 ⟨b, 0, none⟩).run Tryz.prog w = .ok (agI c m W H v) w := by
  obtain ⟨h0, h1, h2, h3, h4⟩ := hh.cells
  simp [go_sem, h0, h1, h2, h3, h4, agI]
theorem load_ri {w : World} {b : Nat} {t : TypeId} {c m W H : Int} {v : Value} (hh : Ib w b t c m W H v) : (loadVar 33 ⟨b, 0, none⟩).run Tryz.prog w = .ok (agI c m W H v) w := by
  obtain ⟨h0, h1, h2, h3, h4⟩ := hh.cells
  simp [go_sem, h0, h1, h2, h3, h4, agI]
theorem fneq_run (a b x y : Int) (w : World) : (binOp .neq 28 (.agg #[.int .i64 a, .int .i64 b]) (.agg #[.int .i64 x, .int .i64 y])).run Tryz.prog w = .ok (.bool (!Hj.same2 a b x y)) w := by
  rw [run_neq_struct]
  unfold Hj.same2
  cases h1 : (a == x) <;> cases h2 : (b == y) <;> simp [go_sem, h1, h2]
theorem fneq_guard (a b : Operand) (xs ys : Array Value) (w : World) : (eqGuard .neq 28 a b (.agg xs) (.agg ys)).run Tryz.prog w = .ok () w := run_eqGuard_agg _ _ _ _ _ _ _ (by kernel_rfl)
/-- may it be -/
def Im.mayV (c m W H : Int) (n : Nat) (L : List Int) : Bool := Rc.mayV W H n && fitL c m L
theorem imMay_any (c m W H : Int) (a : Option Addr) (n cap : Nat) (L : List Int) (hn : n ≤ 9223372036854775807) (hU : ∀ x ∈ L, Pq.Px.U x) (w : World) (hs : SlK .u64 w a n L) :
    Calls Tryz.prog 12 #[agI c m W H (.slice a n cap)] w fun e w' => e = .returned (.bool (Im.mayV c m W H n L)) ∧ Below w.heap.size w w' := by
  have B := box1 w (.cells #[.int .i64 c, .int .i64 m, .int .i64 W, .int .i64 H, .slice a n cap] 40)
  have HF := Lib.hid (fitsM_any W H a n cap c m L hn hU _ (hs.below B))
  unfold agI Im.mayV
  go_enter Tryz.func12, Tryz.ntmps12
  go_wp2_with (go_at_call 48; refine HF.out.mono ?_; rintro e w1 ⟨rfl, hb⟩; replace B := bel_step B hb)
  go_ret
  exact ⟨rfl, B⟩
/-- are two the same -/
def Im.sameV (c m W H : Int) (L : List Int) (c' m' W' H' : Int) (M : List Int) : Bool := Hj.same2 c m c' m' && (decide (W = W') && (decide (H = H') && decide (L = M)))
theorem Im.same_self (c m W H : Int) (L : List Int) : Im.sameV c m W H L c m W H L = true := by simp [Im.sameV, Hj.same2_self]
theorem refImSame_any (c m W H c' m' W' H' : Int) (a a2 : Option Addr) (n k cap cap2 : Nat) (L M : List Int) (w : World) (hn : n ≤ 9223372036854775807) (ha : SlK .u64 w a n L) (hb : SlK .u64 w a2 k M) :
    Calls Tryz.prog 20 #[agI c m W H (.slice a n cap), agI c' m' W' H' (.slice a2 k cap2)] w fun e w' => e = .returned (.bool (Im.sameV c m W H L c' m' W' H' M)) ∧ Below w.heap.size w w' := by
  have B := box2 w (.cells #[.int .i64 c, .int .i64 m, .int .i64 W, .int .i64 H, .slice a n cap] 33) (.cells #[.int .i64 c', .int .i64 m', .int .i64 W', .int .i64 H', .slice a2 k cap2] 33)
  have HF := Lib.hid (refSame_any W H W' H' a a2 n k cap cap2 L M _ hn (ha.below B) (hb.below B))
  have E := feq_run c m c' m'
  have G := feq_guard
  have X1 := (Ib.new w 33 c m W H (.slice a n cap)).later (box1 _ (.cells #[.int .i64 c', .int .i64 m', .int .i64 W', .int .i64 H', .slice a2 k cap2] 33))
  have X2 := Ib.new (w.alloc (.cells #[.int .i64 c, .int .i64 m, .int .i64 W, .int .i64 H, .slice a n cap] 33)) 33 c' m' W' H' (.slice a2 k cap2)
  rw [show (w.alloc (.cells #[.int .i64 c, .int .i64 m, .int .i64 W, .int .i64 H, .slice a n cap] 33)).heap.size = w.heap.size + 1 by simp] at X2
  have HX1 := Lib.hid X1
  have HX2 := Lib.hid X2
  unfold agI Im.sameV
  clear ha hb X1 X2
  obtain ⟨q, hq⟩ : ∃ q, Hj.same2 c m c' m' = q := ⟨_, rfl⟩
  rw [hq] at E ⊢
  obtain ⟨r, hr⟩ : ∃ r, (decide (W = W') && (decide (H = H') && decide (L = M))) = r := ⟨_, rfl⟩
  rw [hr] at HF ⊢
  cases r with
  | true =>
    go_enter Tryz.func20, Tryz.ntmps20
    go_wp2_with (go_at_call 60; refine HF.out.mono ?_; rintro e w1 ⟨rfl, hb⟩; replace B := bel_step B hb; obtain ⟨x0, x1, _⟩ := (HX1.out.later hb).cells; obtain ⟨y0, y1, _⟩ := (HX2.out.later hb).cells)
    go_ret
    exact ⟨by simp, B⟩
  | false =>
    go_enter Tryz.func20, Tryz.ntmps20
    go_wp2_with (go_at_call 60; refine HF.out.mono ?_; rintro e w1 ⟨rfl, hb⟩; replace B := bel_step B hb; obtain ⟨x0, x1, _⟩ := (HX1.out.later hb).cells; obtain ⟨y0, y1, _⟩ := (HX2.out.later hb).cells)
    go_ret
    exact ⟨by simp, B⟩
end Go.Proofs.YtmnhiagppicegaaGreat

/- Five cells of any kind in a block of the call's own; what is not in a block that is stored into. No condition. -/
namespace Go.Proofs.YtmnhiagppicegaaGreat
open Go.RowKit
set_option linter.unusedVariables false
theorem Im.imp {P Q : Prop} (h : P) (f : P → Q) : Q := f h
def Fv (w : World) (b : Nat) (t : TypeId) (v0 v1 v2 v3 v4 : Value) : Prop := w.heap[b]? = some (.cells #[v0, v1, v2, v3, v4] t (0, 0))
section
variable {w w' : World} {b : Nat} {t : TypeId} {v0 v1 v2 v3 v4 : Value}
theorem Fv.lt (hh : Fv w b t v0 v1 v2 v3 v4) : b < w.heap.size := (Array.getElem?_eq_some_iff.1 hh).1
theorem Fv.later (hh : Fv w b t v0 v1 v2 v3 v4) (hb : Below w.heap.size w w') : Fv w' b t v0 v1 v2 v3 v4 := (hb.block b hh.lt).trans hh
theorem Fv.cells (hh : Fv w b t v0 v1 v2 v3 v4) : w.cell? ⟨b, 0, none⟩ = some v0 ∧ w.cell? ⟨b, 1, none⟩ = some v1 ∧ w.cell? ⟨b, 2, none⟩ = some v2 ∧ w.cell? ⟨b, 3, none⟩ = some v3 ∧ w.cell? ⟨b, 4, none⟩ = some v4 := by
  have h' : w.heap[b]? = _ := hh
  refine ⟨?_, ?_, ?_, ?_, ?_⟩ <;> simp [World.cell?, h']
theorem Fv.fr (hh : Fv w b t v0 v1 v2 v3 v4) : w.frozen? ⟨b, 0, none⟩ = false ∧ w.frozen? ⟨b, 1, none⟩ = false ∧ w.frozen? ⟨b, 2, none⟩ = false ∧ w.frozen? ⟨b, 3, none⟩ = false ∧ w.frozen? ⟨b, 4, none⟩ = false := by
  have h' : w.heap[b]? = _ := hh
  refine ⟨?_, ?_, ?_, ?_, ?_⟩ <;> simp [World.frozen?, h']
theorem Fv.new (w : World) (t : TypeId) (v0 v1 v2 v3 v4 : Value) : Fv (w.alloc (.cells #[v0, v1, v2, v3, v4] t)) w.heap.size t v0 v1 v2 v3 v4 := World.alloc_heap_new w _
theorem Fv.set0 (hh : Fv w b t v0 v1 v2 v3 v4) (v : Value) : Fv (w.setCell ⟨b, 0, none⟩ v) b t v v1 v2 v3 v4 := by
  have h' : w.heap[b]? = _ := hh
  simpa [Fv] using Go.heap_setCell_same w b 0 _ _ v h'
theorem Fv.set1 (hh : Fv w b t v0 v1 v2 v3 v4) (v : Value) : Fv (w.setCell ⟨b, 1, none⟩ v) b t v0 v v2 v3 v4 := by
  have h' : w.heap[b]? = _ := hh
  simpa [Fv] using Go.heap_setCell_same w b 1 _ _ v h'
theorem heap_far {w : World} {a : Addr} {v : Value} {b : Nat} (h : a.block ≠ b) : (w.setCell a v).heap[b]? = w.heap[b]? := by
  simp [World.setCell, h, Array.getElem?_modify]
theorem Fv.far (hh : Fv w b t v0 v1 v2 v3 v4) {a : Addr} (h : a.block ≠ b) (v : Value) : Fv (w.setCell a v) b t v0 v1 v2 v3 v4 := (heap_far h).trans hh
theorem Ib.far {c m W H : Int} {v : Value} (hh : Ib w b t c m W H v) {a : Addr} (h : a.block ≠ b) (x : Value) : Ib (w.setCell a x) b t c m W H v := (heap_far h).trans hh
end
end Go.Proofs.YtmnhiagppicegaaGreat

/- Where an image is in another one: of image and of the document, over any memory. Condition: both may be. -/
namespace Go.Proofs.YtmnhiagppicegaaGreat
open Go.RowKit
set_option linter.unusedVariables false
def Im.findV (c m W H : Int) (L : List Int) (c' m' W' H' : Int) (M : List Int) : List (Int × Int) := if Hj.same2 c m c' m' = true then Rc.findV W H L W' H' M else []
def ImFindR (F : List (Int × Int)) (w : World) (e : Ending) (w' : World) : Prop := ∃ v, e = .returned v ∧ w'.ownsRow w.heap.size 174 2 v F.length (pairs F) ∧ Below w.heap.size w w'
theorem imFind_any (c m W H c' m' W' H' : Int) (a a2 : Option Addr) (cap cap2 : Nat) (L M : List Int) (hL : Rc.Ok W H L) (hM : Rc.Ok W' H' M) (hc : L.length ≤ cap) (hcm : cap ≤ 9223372036854775807) (hd : M.length ≤ cap2) (hdm : cap2 ≤ 9223372036854775807) (w : World) (ha : SlK .u64 w a L.length L) (hb : SlK .u64 w a2 M.length M) :
    Calls Tryz.prog 26 #[agI c m W H (.slice a L.length cap), agI c' m' W' H' (.slice a2 M.length cap2)] w (ImFindR (Im.findV c m W H L c' m' W' H' M) w) := by
  have B := box2 w (.cells #[.int .i64 c, .int .i64 m, .int .i64 W, .int .i64 H, .slice a L.length cap] 40) (.cells #[.int .i64 c', .int .i64 m', .int .i64 W', .int .i64 H', .slice a2 M.length cap2] 40)
  have HF := Lib.hid (find_any W H W' H' a a2 cap cap2 L M hL hM hc hcm hd hdm _ (ha.below B) (hb.below B))
  have E := fneq_run c m c' m'
  have G := fneq_guard
  obtain ⟨n, hn⟩ : ∃ n, L.length = n := ⟨_, rfl⟩
  obtain ⟨k, hk⟩ : ∃ k, M.length = k := ⟨_, rfl⟩
  rw [hn] at B HF ⊢
  rw [hk] at B HF ⊢
  unfold agI Im.findV ImFindR
  clear ha hb hL hM hc hcm hd hdm hn hk
  obtain ⟨q, hq⟩ : ∃ q, Hj.same2 c m c' m' = q := ⟨_, rfl⟩
  rw [hq] at E ⊢
  obtain ⟨F, hF⟩ : ∃ F, Rc.findV W H L W' H' M = F := ⟨_, rfl⟩
  rw [hF] at HF ⊢
  clear hq hF
  cases q with
  | true =>
    go_enter Tryz.func26, Tryz.ntmps26
    go_wp2_with (go_at_call 66; refine HF.out.mono ?_; rintro e w1 ⟨v, rfl, ho, hb⟩; have HO := Lib.hid ho; replace B := bel_step B hb; clear ho)
    go_ret
    exact ⟨_, rfl, ownsRow_base HO.out (by simp; omega), B⟩
  | false =>
    go_enter Tryz.func26, Tryz.ntmps26
    go_wp2_with fail
    go_ret
    exact ⟨_, rfl, World.ownsRow_nil _ _ _ _, B⟩
theorem refImFind_any (c m W H c' m' W' H' : Int) (a a2 : Option Addr) (cap cap2 : Nat) (L M : List Int) (hL : Rc.Ok W H L) (hM : Rc.Ok W' H' M) (hc : L.length ≤ cap) (hcm : cap ≤ 9223372036854775807) (hd : M.length ≤ cap2) (hdm : cap2 ≤ 9223372036854775807) (w : World) (ha : SlK .u64 w a L.length L) (hb : SlK .u64 w a2 M.length M) :
    Calls Tryz.prog 27 #[agI c m W H (.slice a L.length cap), agI c' m' W' H' (.slice a2 M.length cap2)] w (ImFindR (Im.findV c m W H L c' m' W' H' M) w) := by
  have B := box2 w (.cells #[.int .i64 c, .int .i64 m, .int .i64 W, .int .i64 H, .slice a L.length cap] 33) (.cells #[.int .i64 c', .int .i64 m', .int .i64 W', .int .i64 H', .slice a2 M.length cap2] 33)
  have HF := Lib.hid (refFind_any W H W' H' a a2 cap cap2 L M hL hM hc hcm hd hdm _ (ha.below B) (hb.below B))
  have E := fneq_run c m c' m'
  have G := fneq_guard
  obtain ⟨n, hn⟩ : ∃ n, L.length = n := ⟨_, rfl⟩
  obtain ⟨k, hk⟩ : ∃ k, M.length = k := ⟨_, rfl⟩
  rw [hn] at B HF ⊢
  rw [hk] at B HF ⊢
  unfold agI Im.findV ImFindR
  clear ha hb hL hM hc hcm hd hdm hn hk
  obtain ⟨q, hq⟩ : ∃ q, Hj.same2 c m c' m' = q := ⟨_, rfl⟩
  rw [hq] at E ⊢
  obtain ⟨F, hF⟩ : ∃ F, Rc.findV W H L W' H' M = F := ⟨_, rfl⟩
  rw [hF] at HF ⊢
  clear hq hF
  cases q with
  | true =>
    go_enter Tryz.func27, Tryz.ntmps27
    go_wp2_with (go_at_call 67; refine HF.out.mono ?_; rintro e w1 ⟨v, rfl, ho, hb⟩; have HO := Lib.hid ho; replace B := bel_step B hb; clear ho)
    go_ret
    exact ⟨_, rfl, ownsRow_base HO.out (by simp; omega), B⟩
  | false =>
    go_enter Tryz.func27, Tryz.ntmps27
    go_wp2_with fail
    go_ret
    exact ⟨_, rfl, World.ownsRow_nil _ _ _ _, B⟩
/-- what an image that may be is, as a matrix -/
theorem Im.good_ok {c m gw gh : Int} {l : List Int} {n : Nat} {W H : Int} (hw : 1 ≤ W ∧ W ≤ 9) (hh : 1 ≤ H ∧ H ≤ 9) (hl : l.length = W.toNat * H.toNat) : Rc.Ok W H l := by
  refine ⟨hw.1, by omega, hh.1, by omega, ?_, by rw [hl, Nat.mul_comm]⟩
  have : W * H ≤ 9 * 9 := Int.mul_le_mul hw.2 hh.2 (by omega) (by omega)
  omega
end Go.Proofs.YtmnhiagppicegaaGreat

/- Which kinds may tell images of a format: of image and of the document, over any memory. Condition: the numbers fit. -/
namespace Go.Proofs.YtmnhiagppicegaaGreat
open Go.RowKit
set_option linter.unusedVariables false

/-- may a head tell pixels of a format -/
def Im.tellsV (h : Hd.H) (c m : Int) : Bool := decide (Hd.May h) && Hj.same2 (Hj.chan h) h.m c m
/-- may a kind -/
def Im.tellK (c m k : Int) : Bool := Im.tellsV ⟨k, 1, 1, m⟩ c m
set_option maxHeartbeats 1000000 in
theorem imTells_any (h : Hd.H) (hf : Hj.Fit h) (c m : Int) (w : World) :
    Calls Tryz.prog 56 #[agH h, .agg #[.int .i64 c, .int .i64 m]] w fun e w' => e = .returned (.bool (Im.tellsV h c m)) ∧ Below w.heap.size w w' := by
  have HM := Lib.hid (hmay_any h hf)
  have E := feq_run (Hj.chan h) h.m c m
  have G := feq_guard
  have HFm : Hid (Hd.May h → ∀ W, Calls Tryz.prog 59 #[agH h] W fun e w' => e = .returned (Hj.fm h) ∧ Below W.heap.size W w') := Lib.hid fun hm W => hformat_any h hm W
  unfold Im.tellsV
  obtain ⟨q, hq⟩ : ∃ q, Hj.same2 (Hj.chan h) h.m c m = q := ⟨_, rfl⟩
  rw [hq] at E ⊢
  unfold Hj.fm at HFm
  obtain ⟨ch, hch⟩ : ∃ ch, Hj.chan h = ch := ⟨_, rfl⟩
  rw [hch] at E HFm
  obtain ⟨mm, hmm⟩ : ∃ mm, decide (Hd.May h) = mm := ⟨_, rfl⟩
  have HMM : Hid (mm = true → Hd.May h) := Lib.hid fun e => by rw [← hmm] at e; exact of_decide_eq_true e
  rw [hmm] at HM ⊢
  clear hmm
  obtain ⟨kd, ww, hh, mx⟩ := h
  unfold agH at HM HFm ⊢
  simp only at E HM HFm ⊢
  have hB0 : Below w.heap.size w ((w.alloc (.cells #[.int .i64 kd, .int .i64 ww, .int .i64 hh, .int .i64 mx] 49)).alloc (.cells #[.int .i64 c, .int .i64 m] 28)) := box2 w _ _
  have X := (Hb.new w 49 ⟨kd, ww, hh, mx⟩).alloc (.cells #[.int .i64 c, .int .i64 m] 28)
  obtain ⟨n0, n1, n2, n3⟩ := X.cells
  simp only at n0 n1 n2 n3
  clear X hq hch hf
  go_enter Tryz.func56, Tryz.ntmps56
  go_upto_region 1 with fail
  obtain ⟨W, hW⟩ : ∃ W, (w.alloc (.cells #[.int .i64 kd, .int .i64 ww, .int .i64 hh, .int .i64 mx] 49)).alloc (.cells #[.int .i64 c, .int .i64 m] 28) = W := ⟨_, rfl⟩
  have l0 : W.cell? ⟨w.heap.size + 1, 0, none⟩ = some (.int .i64 c) := by rw [← hW]; simp [go_sem]
  have l1 : W.cell? ⟨w.heap.size + 1, 1, none⟩ = some (.int .i64 m) := by rw [← hW]; simp [go_sem]
  try rw [hW]
  rw [hW] at hB0 n0 n1 n2 n3
  clear hW
  have hBr : Below W.heap.size W W := .refl _ _
  cases mm with
  | true =>
    have HF' := Lib.hid (HFm.out (HMM.out rfl))
    clear HFm HMM
    go_region_held3 (fun w' => w'.cell? ⟨w.heap.size, 0, none⟩ = some (.int .i64 kd) ∧ w'.cell? ⟨w.heap.size, 1, none⟩ = some (.int .i64 ww) ∧ w'.cell? ⟨w.heap.size, 2, none⟩ = some (.int .i64 hh) ∧ w'.cell? ⟨w.heap.size, 3, none⟩ = some (.int .i64 mx) ∧ w'.cell? ⟨w.heap.size + 1, 0, none⟩ = some (.int .i64 c) ∧ w'.cell? ⟨w.heap.size + 1, 1, none⟩ = some (.int .i64 m))
      (first | exact ⟨n0, n1, n2, n3, l0, l1⟩ | exact ⟨cell_later hBr n0, cell_later hBr n1, cell_later hBr n2, cell_later hBr n3, cell_later hBr l0, cell_later hBr l1⟩)
      (first
        | (go_at_call 86; refine (HM.out _).mono ?_; rintro e w9 ⟨rfl, hb9⟩; replace hBr := bel_step (w := W) (by first | exact hBr | exact hBr.drew) hb9)
        | (go_at_call 59; refine (HF'.out _).mono ?_; rintro e w9 ⟨rfl, hb9⟩; replace hBr := bel_step (w := W) (by first | exact hBr | exact hBr.drew) hb9))
    all_goals
      go_wp2
      go_ret
      exact ⟨by simp, hB0.trans (hBr.mono hB0.size)⟩
  | false =>
    clear HFm E HMM
    go_region_with (first | (go_at_call 86; refine (HM.out _).mono ?_; rintro e w9 ⟨rfl, hb9⟩; replace hBr := bel_step (w := W) (by first | exact hBr | exact hBr.drew) hb9))
    all_goals
      go_wp2
      go_ret
      exact ⟨by first | rfl | simp, hB0.trans (hBr.mono hB0.size)⟩
end Go.Proofs.YtmnhiagppicegaaGreat

/- The kinds that may tell images of a format, and whether one may tell an image, by the document; where an image is in another one, of both; over any memory. Condition: the numbers fit. -/
namespace Go.Proofs.YtmnhiagppicegaaGreat
open Go.RowKit
set_option linter.unusedVariables false
end Go.Proofs.YtmnhiagppicegaaGreat

/- Whether a kind may tell an image, by the document; an image's head, by the code; over any memory. Condition: the numbers fit, the rows are no longer than the pixels told. -/
namespace Go.Proofs.YtmnhiagppicegaaGreat
open Go.RowKit
set_option linter.unusedVariables false
theorem Im.tells_may {c m W H k : Int} {n : Nat} {L : List Int} (h : Im.mayV c m W H n L = true) : Im.tellsV ⟨k, W, H, m⟩ c m = Im.tellK c m k := by
  unfold Im.mayV at h
  rw [Bool.and_eq_true, Rc.mayV_iff] at h
  obtain ⟨⟨h1, h2, h3, h4, h5⟩, _⟩ := h.1
  rw [Bool.eq_iff_iff]
  simp only [Im.tellK, Im.tellsV, Bool.and_eq_true, decide_eq_true_eq]
  unfold Hd.May Hj.chan
  simp only
  constructor
  · rintro ⟨⟨a, b, d, e⟩, f⟩
    exact ⟨⟨a, ⟨by omega, by omega⟩, ⟨by omega, by omega⟩, e⟩, f⟩
  · rintro ⟨⟨a, b, d, e⟩, f⟩
    exact ⟨⟨a, ⟨h1, h2⟩, ⟨h3, h4⟩, e⟩, f⟩
/-- may a kind tell an image -/
def Im.tellV (c m W H : Int) (n : Nat) (L : List Int) (k : Int) : Bool := Im.tellK c m k && Im.mayV c m W H n L
/-- an image's head, or ErrArg -/
def Im.headV (c m W H : Int) (n : Nat) (L : List Int) (k : Int) : Hd.H × Int := if Im.tellV c m W H n L k = true then (⟨k, W, H, m⟩, 0) else (Hd.none, 1)
def ImHeadR (t : Hd.H × Int) (w : World) (e : Ending) (w' : World) : Prop := e = .returned (.tuple #[agH t.1, .int .i64 t.2]) ∧ Below w.heap.size w w'
set_option maxRecDepth 100000 in
set_option maxHeartbeats 2000000 in
theorem imHead_any (c m W H : Int) (hc : Nu.I c) (hm : Nu.I m) (hW : Nu.I W) (hH : Nu.I H) (a : Option Addr) (n cap : Nat) (L : List Int) (hn : n ≤ 9223372036854775807) (hU : ∀ x ∈ L, Pq.Px.U x) (kd : Int) (hk : Nu.I kd) (w : World) (hs : SlK .u64 w a n L) :
    Calls Tryz.prog 17 #[agI c m W H (.slice a n cap), .int .i64 kd] w (ImHeadR (Im.headV c m W H n L kd) w) := by
  have HMy : Hid (∀ W9, Below w.heap.size w W9 → Calls Tryz.prog 12 #[agI c m W H (.slice a n cap)] W9 fun e w' => e = .returned (.bool (Im.mayV c m W H n L)) ∧ Below W9.heap.size W9 w') := Lib.hid fun W9 hb => imMay_any c m W H a n cap L hn hU W9 (hs.below hb)
  have HT := Lib.hid (imTells_any ⟨kd, W, H, m⟩ ⟨hk, hW, hH, hm⟩ c m)
  obtain ⟨T, hT⟩ : ∃ T, Im.headV c m W H n L kd = T := ⟨_, rfl⟩
  have HTT : Hid (T = if Im.tellV c m W H n L kd = true then (⟨kd, W, H, m⟩, 0) else (Hd.none, 1)) := Lib.hid (by rw [← hT]; rfl)
  rw [hT]
  unfold Im.tellV at HTT
  obtain ⟨r, hr⟩ : ∃ r, Im.mayV c m W H n L = r := ⟨_, rfl⟩
  obtain ⟨q, hq⟩ : ∃ q, Im.tellsV ⟨kd, W, H, m⟩ c m = q := ⟨_, rfl⟩
  have HRQ : Hid (r = true → Im.tellK c m kd = q) := Lib.hid fun h => by rw [← hq]; exact (Im.tells_may (by rw [hr]; exact h)).symm
  rw [hr] at HMy HTT
  rw [hq] at HT
  unfold ImHeadR
  have X := (Ib.new w 40 c m W H (.slice a n cap)).later (box1 _ (.cells #[.int .i64 0, .int .i64 0, .int .i64 0, .int .i64 0] 49))
  have hbx := box2 w (.cells #[.int .i64 c, .int .i64 m, .int .i64 W, .int .i64 H, .slice a n cap] 40) (.cells #[.int .i64 0, .int .i64 0, .int .i64 0, .int .i64 0] 49)
  have Z := Hb.new (w.alloc (.cells #[.int .i64 c, .int .i64 m, .int .i64 W, .int .i64 H, .slice a n cap] 40)) 49 Hd.none
  rw [show (w.alloc (.cells #[.int .i64 c, .int .i64 m, .int .i64 W, .int .i64 H, .slice a n cap] 40)).heap.size = w.heap.size + 1 by simp] at Z
  have Z : Hb ((w.alloc (.cells #[.int .i64 c, .int .i64 m, .int .i64 W, .int .i64 H, .slice a n cap] 40)).alloc (.cells #[.int .i64 0, .int .i64 0, .int .i64 0, .int .i64 0] 49)) (w.heap.size + 1) 49 Hd.none := Z
  obtain ⟨W0, hW0⟩ : ∃ W0, (w.alloc (.cells #[.int .i64 c, .int .i64 m, .int .i64 W, .int .i64 H, .slice a n cap] 40)).alloc (.cells #[.int .i64 0, .int .i64 0, .int .i64 0, .int .i64 0] 49) = W0 := ⟨_, rfl⟩
  have hsz : W0.heap.size = w.heap.size + 2 := by rw [← hW0]; simp
  unfold agI at HMy ⊢
  unfold agH at HT
  simp only at HT
  go_enter Tryz.func17, Tryz.ntmps17
  go_upto_region 1 with fail
  rw [hW0] at X hbx Z
  try rw [hW0]
  clear hW0 hT hr hq hs hU
  obtain ⟨n0, n1, n2, n3, n4⟩ := X.cells
  go_upto_region 2 with fail
  have Y := Hb.new W0 49 ⟨kd, W, H, m⟩
  have hb1 := box1 W0 (.cells #[.int .i64 kd, .int .i64 W, .int .i64 H, .int .i64 m] 49)
  simp only at Y
  rw [hsz] at Y
  obtain ⟨W1, hW1⟩ : ∃ W1, W0.alloc (.cells #[.int .i64 kd, .int .i64 W, .int .i64 H, .int .i64 m] 49) = W1 := ⟨_, rfl⟩
  rw [hW1] at Y hb1
  try rw [hW1]
  try rw [hsz]
  clear hW1 n0 n1 n2 n3 n4
  replace X := X.later hb1
  replace Z := Z.later hb1
  replace hbx := hbx.trans (hb1.mono hbx.size)
  clear hb1 hsz
  have hld := load_im X
  unfold agI at hld
  obtain ⟨n0, n1, n2, n3, n4⟩ := X.cells
  cases r with
  | false =>
    go_wp2_with (go_at_call 12; refine (HMy.out _ hbx).mono ?_; rintro e w3 ⟨rfl, hb3⟩; replace Z := Z.later hb3; replace hbx := hbx.trans (hb3.mono hbx.size); obtain ⟨z0, z1, z2, z3⟩ := Z.cells; obtain ⟨f0, f1, f2, f3⟩ := Z.fr)
    (try simp only [Exit.inBlock, Exit.then])
    refine bodyPost_ret (ret_cell2 Tryz.results17 _ _ _ _ rfl (load_hd (Z.put Hd.none))) rfl ?_
    refine ⟨by rw [HTT.out, if_neg (by simp)]; rfl, (((hbx.setCell (by simp) _).setCell (by simp) _).setCell (by simp) _).setCell (by simp) _⟩
  | true =>
    have HRQ := Lib.hid (HRQ.out rfl)
    cases q with
    | false =>
      go_wp2_with (first | (go_at_call 12; refine (HMy.out _ hbx).mono ?_; rintro e w3 ⟨rfl, hb3⟩; replace X := X.later hb3; replace Y := Y.later hb3; replace Z := Z.later hb3; replace hbx := hbx.trans (hb3.mono hbx.size); obtain ⟨n0, n1, n2, n3, n4⟩ := X.cells; obtain ⟨y0, y1, y2, y3⟩ := Y.cells; simp only at y0 y1 y2 y3) | (go_at_call 56; refine (HT.out _).mono ?_; rintro e w3 ⟨rfl, hb3⟩; replace Z := Z.later hb3; replace hbx := hbx.trans (hb3.mono hbx.size); obtain ⟨z0, z1, z2, z3⟩ := Z.cells; obtain ⟨f0, f1, f2, f3⟩ := Z.fr))
      (try simp only [Exit.inBlock, Exit.then])
      refine bodyPost_ret (ret_cell2 Tryz.results17 _ _ _ _ rfl (load_hd (Z.put Hd.none))) rfl ?_
      refine ⟨by rw [HTT.out, HRQ.out, if_neg (by simp)] <;> first | rfl | trivial, (((hbx.setCell (by simp) _).setCell (by simp) _).setCell (by simp) _).setCell (by simp) _⟩
    | true =>
      go_wp2_with (first | (go_at_call 12; refine (HMy.out _ hbx).mono ?_; rintro e w3 ⟨rfl, hb3⟩; replace X := X.later hb3; replace Y := Y.later hb3; replace Z := Z.later hb3; replace hbx := hbx.trans (hb3.mono hbx.size); obtain ⟨n0, n1, n2, n3, n4⟩ := X.cells; obtain ⟨y0, y1, y2, y3⟩ := Y.cells; simp only at y0 y1 y2 y3) | (go_at_call 56; refine (HT.out _).mono ?_; rintro e w3 ⟨rfl, hb3⟩; replace Y := Y.later hb3; replace Z := Z.later hb3; replace hbx := hbx.trans (hb3.mono hbx.size); obtain ⟨z0, z1, z2, z3⟩ := Z.cells; obtain ⟨f0, f1, f2, f3⟩ := Z.fr; obtain ⟨y0, y1, y2, y3⟩ := Y.cells; simp only at y0 y1 y2 y3))
      (try simp only [Exit.inBlock, Exit.then])
      refine bodyPost_ret (ret_cell2 Tryz.results17 _ _ _ _ rfl (load_hd (Z.put ⟨kd, W, H, m⟩))) rfl ?_
      refine ⟨by rw [HTT.out, HRQ.out, if_pos (by simp)] <;> first | rfl | trivial, (((hbx.setCell (by simp) _).setCell (by simp) _).setCell (by simp) _).setCell (by simp) _⟩
end Go.Proofs.YtmnhiagppicegaaGreat

/- A reader of digits in a block of its own, over any memory: what it is made of, and what its small parts do. Condition: its head may be. -/
namespace Go.Proofs.YtmnhiagppicegaaGreat
open Go.RowKit
set_option linter.unusedVariables false

/-- the eleven cells of a reader -/
def PlC (w : World) (b : Nat) (h : Hd.H) (n : Int) (sv rv : Value) (rows t f : Int) (x : Value) : Prop :=
  w.heap[b]? = some (.cells #[.int .i64 h.kd, .int .i64 h.w, .int .i64 h.h, .int .i64 h.m, .int .i64 n, sv, rv, .int .i64 rows, .int .i64 t, .int .i64 f, x] 194 (0, 0))
section
variable {w w' : World} {b : Nat} {h : Hd.H} {n : Int} {sv rv : Value} {rows t f : Int} {x : Value}
theorem PlC.lt (H : PlC w b h n sv rv rows t f x) : b < w.heap.size := (Array.getElem?_eq_some_iff.1 H).1
theorem PlC.later (H : PlC w b h n sv rv rows t f x) (hb : Below w.heap.size w w') : PlC w' b h n sv rv rows t f x := (hb.block b H.lt).trans H
theorem PlC.kept {row : Option Nat} (H : PlC w b h n sv rv rows t f x) (hg : w.grownBy w' row) (hne : some b ≠ row) : PlC w' b h n sv rv rows t f x := (hg.block b H.lt hne).trans H
theorem PlC.sep {Z : Nat → Prop} (H : PlC w b h n sv rv rows t f x) (hs : Sep Z w w') (hz : ¬ Z b) : PlC w' b h n sv rv rows t f x := (hs.block b H.lt hz).trans H
theorem PlC.drewN (H : PlC w b h n sv rv rows t f x) (k : Nat) : PlC (w.drewN k) b h n sv rv rows t f x := H
theorem PlC.drew (H : PlC w b h n sv rv rows t f x) : PlC w.drew b h n sv rv rows t f x := H
theorem PlC.alloc (H : PlC w b h n sv rv rows t f x) (o : Obj) : PlC (w.alloc o) b h n sv rv rows t f x := H.kept (World.grownBy_alloc w o none) (by simp)
theorem PlC.fr (H : PlC w b h n sv rv rows t f x) (o : Nat) : w.frozen? ⟨b, o, none⟩ = false := by have h' : w.heap[b]? = _ := H; simp [World.frozen?, h']
theorem PlC.c0 (H : PlC w b h n sv rv rows t f x) : w.cell? ⟨b, 0, none⟩ = some (.int .i64 h.kd) := by have h' : w.heap[b]? = _ := H; simp [World.cell?, h']
theorem PlC.c1 (H : PlC w b h n sv rv rows t f x) : w.cell? ⟨b, 1, none⟩ = some (.int .i64 h.w) := by have h' : w.heap[b]? = _ := H; simp [World.cell?, h']
theorem PlC.c2 (H : PlC w b h n sv rv rows t f x) : w.cell? ⟨b, 2, none⟩ = some (.int .i64 h.h) := by have h' : w.heap[b]? = _ := H; simp [World.cell?, h']
theorem PlC.c3 (H : PlC w b h n sv rv rows t f x) : w.cell? ⟨b, 3, none⟩ = some (.int .i64 h.m) := by have h' : w.heap[b]? = _ := H; simp [World.cell?, h']
theorem PlC.c4 (H : PlC w b h n sv rv rows t f x) : w.cell? ⟨b, 4, none⟩ = some (.int .i64 n) := by have h' : w.heap[b]? = _ := H; simp [World.cell?, h']
theorem PlC.c5 (H : PlC w b h n sv rv rows t f x) : w.cell? ⟨b, 5, none⟩ = some (sv) := by have h' : w.heap[b]? = _ := H; simp [World.cell?, h']
theorem PlC.c6 (H : PlC w b h n sv rv rows t f x) : w.cell? ⟨b, 6, none⟩ = some (rv) := by have h' : w.heap[b]? = _ := H; simp [World.cell?, h']
theorem PlC.c7 (H : PlC w b h n sv rv rows t f x) : w.cell? ⟨b, 7, none⟩ = some (.int .i64 rows) := by have h' : w.heap[b]? = _ := H; simp [World.cell?, h']
theorem PlC.c8 (H : PlC w b h n sv rv rows t f x) : w.cell? ⟨b, 8, none⟩ = some (.int .i64 t) := by have h' : w.heap[b]? = _ := H; simp [World.cell?, h']
theorem PlC.c9 (H : PlC w b h n sv rv rows t f x) : w.cell? ⟨b, 9, none⟩ = some (.int .i64 f) := by have h' : w.heap[b]? = _ := H; simp [World.cell?, h']
theorem PlC.c10 (H : PlC w b h n sv rv rows t f x) : w.cell? ⟨b, 10, none⟩ = some (x) := by have h' : w.heap[b]? = _ := H; simp [World.cell?, h']
theorem PlC.put4 (H : PlC w b h n sv rv rows t f x) (y : Int) : PlC (w.setCell ⟨b, 4, none⟩ (.int .i64 y)) b h y sv rv rows t f x := by
  have h' : w.heap[b]? = _ := H
  simpa [PlC] using Go.heap_setCell_same w b 4 _ _ (.int .i64 y) h'
theorem PlC.put5 (H : PlC w b h n sv rv rows t f x) (y : Value) : PlC (w.setCell ⟨b, 5, none⟩ y) b h n y rv rows t f x := by
  have h' : w.heap[b]? = _ := H
  simpa [PlC] using Go.heap_setCell_same w b 5 _ _ y h'
theorem PlC.put6 (H : PlC w b h n sv rv rows t f x) (y : Value) : PlC (w.setCell ⟨b, 6, none⟩ y) b h n sv y rows t f x := by
  have h' : w.heap[b]? = _ := H
  simpa [PlC] using Go.heap_setCell_same w b 6 _ _ y h'
theorem PlC.put7 (H : PlC w b h n sv rv rows t f x) (y : Int) : PlC (w.setCell ⟨b, 7, none⟩ (.int .i64 y)) b h n sv rv y t f x := by
  have h' : w.heap[b]? = _ := H
  simpa [PlC] using Go.heap_setCell_same w b 7 _ _ (.int .i64 y) h'
theorem PlC.put8 (H : PlC w b h n sv rv rows t f x) (y : Int) : PlC (w.setCell ⟨b, 8, none⟩ (.int .i64 y)) b h n sv rv rows y f x := by
  have h' : w.heap[b]? = _ := H
  simpa [PlC] using Go.heap_setCell_same w b 8 _ _ (.int .i64 y) h'
theorem PlC.put9 (H : PlC w b h n sv rv rows t f x) (y : Int) : PlC (w.setCell ⟨b, 9, none⟩ (.int .i64 y)) b h n sv rv rows t y x := by
  have h' : w.heap[b]? = _ := H
  simpa [PlC] using Go.heap_setCell_same w b 9 _ _ (.int .i64 y) h'
theorem PlC.put10 (H : PlC w b h n sv rv rows t f x) (y : Value) : PlC (w.setCell ⟨b, 10, none⟩ y) b h n sv rv rows t f y := by
  have h' : w.heap[b]? = _ := H
  simpa [PlC] using Go.heap_setCell_same w b 10 _ _ y h'
end
theorem plain_cells (w : World) (h : Hd.H) (sv rv : Value) (n rows t f : Int) (x : Value) : PlC (w.alloc (.cells #[.int .i64 h.kd, .int .i64 h.w, .int .i64 h.h, .int .i64 h.m, .int .i64 n, sv, rv, .int .i64 rows, .int .i64 t, .int .i64 f, x] 194)) w.heap.size h n sv rv rows t f x := World.alloc_heap_new w _
def stA : Value := .func (.func 176) #[] #[]
def stD : Value := .func (.func 195) #[] #[]
def stB : Value := .func (.func 177) #[] #[]
theorem enPA : ∀ args w, (callFunc 176 args).run Tryz.prog w = .ok (.enter 176 args) w := enters_of Tryz.func176 (by kernel_rfl) rfl
theorem enPD : ∀ args w, (callFunc 195 args).run Tryz.prog w = .ok (.enter 195 args) w := enters_of Tryz.func195 (by kernel_rfl) rfl
theorem enPB : ∀ args w, (callFunc 177 args).run Tryz.prog w = .ok (.enter 177 args) w := enters_of Tryz.func177 (by kernel_rfl) rfl
section
variable (w : World) (b : Nat) (h : Hd.H) (n : Int) (sv rv : Value) (rows t f : Int) (x : Value) (H : PlC w b h n sv rv rows t f x)
include H
set_option maxHeartbeats 1000000 in
/-- it is made wrong -/
theorem plWrong_any (er : Int) :
    Calls Tryz.prog 125 #[.pointer (some ⟨b, 0, none⟩), .int .i64 er] w fun e w' => e = .returned (.tuple #[]) ∧ PlC w' b h n sv rv rows 2 er x ∧ w.grownBy w' (some b) := by
  have hc8 := H.c8
  have hc9 := H.c9
  have f8 := H.fr 8
  have f9 := H.fr 9
  go_enter Tryz.func125, Tryz.ntmps125
  go_wp2
  go_end0
  exact ⟨rfl, (H.put8 _).put9 _, (grown_set _ _ _ _).trans (grown_set _ _ _ _)⟩
set_option maxHeartbeats 1000000 in
theorem plError_any :
    Calls Tryz.prog 147 #[.pointer (some ⟨b, 0, none⟩)] w fun e w' => e = .returned (.int .i64 f) ∧ w = w' := by
  have hc9 := H.c9
  go_enter Tryz.func147, Tryz.ntmps147
  go_wp2
  go_ret
  exact ⟨rfl, rfl⟩
end
section
variable (w : World) (b : Nat) (h : Hd.H) (n : Int) (sv rv : Value) (rows t f : Int) (x : Value) (H : PlC w b h n sv rv rows t f x) (n0 : 0 ≤ n) (n1 : n ≤ h.m) (m1 : h.m ≤ 65535) (c : Int) (c0 : 0 ≤ c) (c1 : c ≤ 255) (k er : Int) (hs : Nu.stepV n c h.m = (k, er))
include H n0 n1 m1 c0 c1 hs
set_option maxHeartbeats 1000000 in
theorem plDigit_range (he : er = 4) :
    Calls Tryz.prog 196 #[.pointer (some ⟨b, 0, none⟩), .int .u8 c] w fun e w' => e = .returned (.int .i64 5) ∧ PlC w' b h n sv rv rows t f x ∧ w.grownBy w' (some b) := by
  have hc3 := H.c3
  have hc4 := H.c4
  have HS : Hid (∀ W, Calls Tryz.prog 205 #[.int .i64 n, .int .u8 c, .int .i64 h.m] W fun r w' => r = .returned (.tuple #[.int .i64 k, .int .i64 er]) ∧ W = w') := fun W => step_two n c h.m n0 n1 (by omega) c0 c1 k er hs W
  subst he
  clear hs
  go_enter Tryz.func196, Tryz.ntmps196
  go_wp2_with (go_quiet ((go_at_call 205; exact Calls.quiet_of_same ((HS.out _).mono fun e w' hh => ⟨hh.1, hh.2.symm⟩))))
  go_ret
  exact ⟨rfl, H.drewN _, grown_drew _ _ _⟩
set_option maxHeartbeats 1000000 in
theorem plDigit_any (he : er ≠ 4) :
    Calls Tryz.prog 196 #[.pointer (some ⟨b, 0, none⟩), .int .u8 c] w fun e w' => e = .returned (.int .i64 er) ∧ PlC w' b h k sv rv rows t f x ∧ w.grownBy w' (some b) := by
  have hc3 := H.c3
  have hc4 := H.c4
  have f4 := H.fr 4
  have HS : Hid (∀ W, Calls Tryz.prog 205 #[.int .i64 n, .int .u8 c, .int .i64 h.m] W fun r w' => r = .returned (.tuple #[.int .i64 k, .int .i64 er]) ∧ W = w') := fun W => step_two n c h.m n0 n1 (by omega) c0 c1 k er hs W
  have ke : (er == 4) = false := by simpa using he
  clear hs he
  go_enter Tryz.func196, Tryz.ntmps196
  go_wp2_with (go_quiet ((go_at_call 205; exact Calls.quiet_of_same ((HS.out _).mono fun e w' hh => ⟨hh.1, hh.2.symm⟩))))
  go_ret
  exact ⟨rfl, (H.drewN _).put4 _, (grown_drew _ _ _).trans (grown_set _ _ _ _)⟩
end
/-- what a part of a reader hands back, and what its block holds then -/
def StR (w : World) (b : Nat) (h : Hd.H) (k : Int) (sv rv : Value) (rows : Int) (x : Value) (d : Bool) (er : Int) (e : Ending) (w' : World) : Prop :=
  e = .returned (.tuple #[.bool d, .int .i64 er]) ∧ PlC w' b h k sv rv rows 0 0 x ∧ w.grownBy w' (some b)
section
variable (w : World) (b : Nat) (h : Hd.H) (n : Int) (sv rv : Value) (rows : Int) (c : Int) (c0 : 0 ≤ c) (c1 : c ≤ 255)
include c0 c1
set_option maxHeartbeats 1000000 in
theorem plAhead_blank (hb : Tk.blank c = true) (H : PlC w b h n sv rv rows 0 0 stA) :
    Calls Tryz.prog 176 #[.pointer (some ⟨b, 0, none⟩), .int .u8 c] w (StR w b h n sv rv rows stA false 0) := by
  have HB : Hid (∀ W, Calls Tryz.prog 122 #[.int .u8 c] W fun e w' => e = .returned (.bool true) ∧ W = w') := fun W => by have := blank_any c c0 c1 W; rw [hb] at this; exact this
  clear hb
  go_enter Tryz.func176, Tryz.ntmps176
  go_wp2_with (go_at_call 122; refine (HB.out _).mono ?_; rintro e w1 ⟨rfl, rfl⟩)
  go_ret2
  exact ⟨rfl, H, .refl _ _⟩
set_option maxHeartbeats 1000000 in
theorem plAhead_digit (hb : Tk.blank c = false) (H : PlC w b h n sv rv rows 0 0 stA) (k er : Int)
    (hd : ∀ W, PlC W b h n sv rv rows 0 0 stD → Calls Tryz.prog 196 #[.pointer (some ⟨b, 0, none⟩), .int .u8 c] W fun e w' => e = .returned (.int .i64 er) ∧ PlC w' b h k sv rv rows 0 0 stD ∧ W.grownBy w' (some b)) :
    Calls Tryz.prog 176 #[.pointer (some ⟨b, 0, none⟩), .int .u8 c] w (StR w b h k sv rv rows stD false er) := by
  have HB : Hid (∀ W, Calls Tryz.prog 122 #[.int .u8 c] W fun e w' => e = .returned (.bool false) ∧ W = w') := fun W => by have := blank_any c c0 c1 W; rw [hb] at this; exact this
  have HD := Lib.hid hd
  have hc10 := H.c10
  have f10 := H.fr 10
  clear hb hd
  go_enter Tryz.func176, Tryz.ntmps176
  go_wp2_with (first | (go_at_call 122; refine (HB.out _).mono ?_; rintro e w1 ⟨rfl, rfl⟩) | (go_at_call 196; refine (HD.out _ (H.put10 _)).mono ?_; rintro e w2 ⟨rfl, h2, hg2⟩))
  go_ret2
  exact ⟨rfl, h2, (grown_set _ _ _ _).trans hg2⟩
set_option maxHeartbeats 1000000 in
theorem plBehind_digit (hb : Tk.blank c = false) (H : PlC w b h n sv rv rows 0 0 stD) (k er : Int)
    (hd : ∀ W, PlC W b h n sv rv rows 0 0 stD → Calls Tryz.prog 196 #[.pointer (some ⟨b, 0, none⟩), .int .u8 c] W fun e w' => e = .returned (.int .i64 er) ∧ PlC w' b h k sv rv rows 0 0 stD ∧ W.grownBy w' (some b)) :
    Calls Tryz.prog 195 #[.pointer (some ⟨b, 0, none⟩), .int .u8 c] w (StR w b h k sv rv rows stD false er) := by
  have HB : Hid (∀ W, Calls Tryz.prog 122 #[.int .u8 c] W fun e w' => e = .returned (.bool false) ∧ W = w') := fun W => by have := blank_any c c0 c1 W; rw [hb] at this; exact this
  have HD := Lib.hid hd
  clear hb hd
  go_enter Tryz.func195, Tryz.ntmps195
  go_wp2_with (first | (go_at_call 122; refine (HB.out _).mono ?_; rintro e w1 ⟨rfl, rfl⟩) | (go_at_call 196; refine (HD.out _ H).mono ?_; rintro e w2 ⟨rfl, h2, hg2⟩))
  go_ret2
  exact ⟨rfl, h2, hg2⟩
set_option maxHeartbeats 1000000 in
theorem plBehind_blank (hb : Tk.blank c = true) (H : PlC w b h n sv rv rows 0 0 stD) :
    Calls Tryz.prog 195 #[.pointer (some ⟨b, 0, none⟩), .int .u8 c] w (StR w b h n sv rv rows stA true 0) := by
  have HB : Hid (∀ W, Calls Tryz.prog 122 #[.int .u8 c] W fun e w' => e = .returned (.bool true) ∧ W = w') := fun W => by have := blank_any c c0 c1 W; rw [hb] at this; exact this
  have hc10 := H.c10
  have f10 := H.fr 10
  clear hb
  go_enter Tryz.func195, Tryz.ntmps195
  go_wp2_with (go_at_call 122; refine (HB.out _).mono ?_; rintro e w1 ⟨rfl, rfl⟩)
  go_ret2
  exact ⟨rfl, H.put10 _, grown_set _ _ _ _⟩
set_option maxHeartbeats 1000000 in
theorem plBit_blank (hb : Tk.blank c = true) (H : PlC w b h n sv rv rows 0 0 stB) :
    Calls Tryz.prog 177 #[.pointer (some ⟨b, 0, none⟩), .int .u8 c] w (StR w b h n sv rv rows stB false 0) := by
  have HB : Hid (∀ W, Calls Tryz.prog 122 #[.int .u8 c] W fun e w' => e = .returned (.bool true) ∧ W = w') := fun W => by have := blank_any c c0 c1 W; rw [hb] at this; exact this
  clear hb
  go_enter Tryz.func177, Tryz.ntmps177
  go_wp2_with (go_at_call 122; refine (HB.out _).mono ?_; rintro e w1 ⟨rfl, rfl⟩)
  go_ret2
  exact ⟨rfl, H, .refl _ _⟩
set_option maxHeartbeats 1000000 in
theorem plBit_no (hb : Tk.blank c = false) (h48 : c ≠ 48) (h49 : c ≠ 49) (H : PlC w b h n sv rv rows 0 0 stB) :
    Calls Tryz.prog 177 #[.pointer (some ⟨b, 0, none⟩), .int .u8 c] w (StR w b h n sv rv rows stB false 3) := by
  have HB : Hid (∀ W, Calls Tryz.prog 122 #[.int .u8 c] W fun e w' => e = .returned (.bool false) ∧ W = w') := fun W => by have := blank_any c c0 c1 W; rw [hb] at this; exact this
  have k8 : (c != 48) = true := by simpa using h48
  have k9 : (c != 49) = true := by simpa using h49
  clear hb h48 h49
  go_enter Tryz.func177, Tryz.ntmps177
  go_wp2_with (go_at_call 122; refine (HB.out _).mono ?_; rintro e w1 ⟨rfl, rfl⟩)
  go_ret2
  exact ⟨rfl, H, .refl _ _⟩
end
set_option maxHeartbeats 1000000 in
theorem plBit_yes (w : World) (b : Nat) (h : Hd.H) (n : Int) (sv rv : Value) (rows : Int) (c : Int) (hc : c = 48 ∨ c = 49) (H : PlC w b h n sv rv rows 0 0 stB) :
    Calls Tryz.prog 177 #[.pointer (some ⟨b, 0, none⟩), .int .u8 c] w (StR w b h (c - 48) sv rv rows stB true 0) := by
  have hc4 := H.c4
  have f4 := H.fr 4
  rcases hc with rfl | rfl
  · have HB : Hid (∀ W, Calls Tryz.prog 122 #[.int .u8 48] W fun e w' => e = .returned (.bool false) ∧ W = w') := fun W => blank_any 48 (by decide) (by decide) W
    go_enter Tryz.func177, Tryz.ntmps177
    go_wp2_with (go_at_call 122; refine (HB.out _).mono ?_; rintro e w1 ⟨rfl, rfl⟩)
    go_ret2
    exact ⟨rfl, H.put4 _, grown_set _ _ _ _⟩
  · have HB : Hid (∀ W, Calls Tryz.prog 122 #[.int .u8 49] W fun e w' => e = .returned (.bool false) ∧ W = w') := fun W => blank_any 49 (by decide) (by decide) W
    go_enter Tryz.func177, Tryz.ntmps177
    go_wp2_with (go_at_call 122; refine (HB.out _).mono ?_; rintro e w1 ⟨rfl, rfl⟩)
    go_ret2
    exact ⟨rfl, H.put4 _, grown_set _ _ _ _⟩
end Go.Proofs.YtmnhiagppicegaaGreat

/- A reader of digits: its samples' and its pixels' rows in memory of the call's own, and how they grow. No condition. -/
namespace Go.Proofs.YtmnhiagppicegaaGreat
open Go.RowKit
set_option linter.unusedVariables false

/-- the blocks that a reader may write into -/
def PlZ (b : Nat) (sv rv : Value) (k : Nat) : Prop := k = b ∨ sv.ownBlock = some k ∨ rv.ownBlock = some k
/-- a row lies where it lay, or in memory that was made since -/
def PlNew (W : World) (v v' : Value) : Prop := v'.ownBlock = v.ownBlock ∨ ∀ k, v'.ownBlock = some k → W.heap.size ≤ k
def ints (l : List Int) : List Value := l.map (Value.int .i64)
def pixs (l : List Int) : List Value := l.map (Value.int .u64)
theorem set_ownsRow {w : World} {base size n : Nat} {e : TypeId} {v : Value} {xs : List Value} (h : w.ownsRow base e size v n xs) {a : Addr} (ha : a.block < base) (y : Value) : (w.setCell a y).ownsRow base e size v n xs := by
  obtain ⟨h1, h2⟩ := h
  refine ⟨h1, ?_⟩
  rcases h2 with h2 | ⟨g, cap, cur, rfl, hbs, hg, r⟩
  · exact .inl h2
  · exact .inr ⟨g, cap, cur, rfl, hbs, (Below.heap_setCell w a y g (by omega)).trans hg, r⟩
theorem apart_rows {w : World} {b1 b2 s1 s2 k1 k2 : Nat} {e1 e2 : TypeId} (hne : e1 ≠ e2) {v1 v2 : Value} {x1 x2 : List Value} (h1 : w.ownsRow b1 e1 s1 v1 k1 x1) (h2 : w.ownsRow b2 e2 s2 v2 k2 x2) : v1.ownBlock = none ∨ v1.ownBlock ≠ v2.ownBlock := by
  rcases h1.2 with ⟨rfl, _⟩ | ⟨g, cap, cur, rfl, _, hg, _⟩
  · exact .inl rfl
  · right
    intro e
    rcases h2.2 with ⟨rfl, _⟩ | ⟨g2, cap2, cur2, rfl, _, hg2, _⟩
    · cases e
    · simp only [Value.ownBlock, Option.some.injEq] at e
      subst e
      rw [hg] at hg2
      simp only [Option.some.injEq, Obj.cells.injEq] at hg2
      exact hne hg2.2.1
/-- a reader that is neither wrong nor told its fault: its block and its rows, and what is so of them against the world W in which it was sv, rv -/
structure PlT (W : World) (b : Nat) (h : Hd.H) (sv0 rv0 : Value) (n : Int) (sv rv : Value) (one row : List Int) (rows t : Int) (x : Value) (w : World) : Prop where
  c : PlC w b h n sv rv rows t 0 x
  s : w.ownsRow (b + 1) 3 1 sv one.length (ints one)
  r : w.ownsRow (b + 1) 26 1 rv row.length (pixs row)
  f : Sep (PlZ b sv0 rv0) W w
  ns : PlNew W sv0 sv
  nr : PlNew W rv0 rv
theorem below_row {w w' : World} {base size k : Nat} {e : TypeId} {v : Value} {xs : List Value} (hr : w.ownsRow base e size v k xs) (hb : Below w.heap.size w w') : w'.ownsRow base e size v k xs :=
  hr.kept (row := none) ⟨hb.os, hb.tape, hb.output, hb.size, fun k hk _ => hb.block k hk⟩ (by cases hv : v.ownBlock <;> simp)
section
variable {W w : World} {b : Nat} {h : Hd.H} {sv0 rv0 : Value} {n : Int} {sv rv : Value} {one row : List Int} {rows t : Int} {x : Value}
theorem PlT.start (c : PlC w b h n sv rv rows t 0 x) (s : w.ownsRow (b + 1) 3 1 sv one.length (ints one)) (r : w.ownsRow (b + 1) 26 1 rv row.length (pixs row)) : PlT w b h sv rv n sv rv one row rows t x w :=
  ⟨c, s, r, .refl _ _, .inl rfl, .inl rfl⟩
theorem PlT.bls (T : PlT W b h sv0 rv0 n sv rv one row rows t x w) : ∀ k, sv.ownBlock = some k → b + 1 ≤ k := fun k hk => (T.s.lt k hk).1
theorem PlT.blr (T : PlT W b h sv0 rv0 n sv rv one row rows t x w) : ∀ k, rv.ownBlock = some k → b + 1 ≤ k := fun k hk => (T.r.lt k hk).1
theorem PlT.nes (T : PlT W b h sv0 rv0 n sv rv one row rows t x w) : some b ≠ sv.ownBlock := fun e => by have := T.bls b e.symm; omega
theorem PlT.ner (T : PlT W b h sv0 rv0 n sv rv one row rows t x w) : some b ≠ rv.ownBlock := fun e => by have := T.blr b e.symm; omega
theorem PlT.below (T : PlT W b h sv0 rv0 n sv rv one row rows t x w) {w' : World} (hb : Below w.heap.size w w') : PlT W b h sv0 rv0 n sv rv one row rows t x w' :=
  ⟨T.c.later hb, below_row T.s hb, below_row T.r hb, ⟨hb.os.trans T.f.os, hb.tape.trans T.f.tape, hb.output.trans T.f.output, Nat.le_trans T.f.size hb.size, fun k hk hz => (hb.block k (Nat.lt_of_lt_of_le hk T.f.size)).trans (T.f.block k hk hz)⟩, T.ns, T.nr⟩
theorem PlT.drew (T : PlT W b h sv0 rv0 n sv rv one row rows t x w) : PlT W b h sv0 rv0 n sv rv one row rows t x w.drew := ⟨T.c, T.s, T.r, T.f.trans (.drew _ _), T.ns, T.nr⟩
theorem PlT.set4 (T : PlT W b h sv0 rv0 n sv rv one row rows t x w) (y : Int) : PlT W b h sv0 rv0 y sv rv one row rows t x (w.setCell ⟨b, 4, none⟩ (.int .i64 y)) :=
  ⟨T.c.put4 y, set_ownsRow T.s (Nat.lt_succ_self b) _, set_ownsRow T.r (Nat.lt_succ_self b) _, T.f.trans (.setCell _ (.inl rfl) _), T.ns, T.nr⟩
theorem PlT.set7 (T : PlT W b h sv0 rv0 n sv rv one row rows t x w) (y : Int) : PlT W b h sv0 rv0 n sv rv one row y t x (w.setCell ⟨b, 7, none⟩ (.int .i64 y)) :=
  ⟨T.c.put7 y, set_ownsRow T.s (Nat.lt_succ_self b) _, set_ownsRow T.r (Nat.lt_succ_self b) _, T.f.trans (.setCell _ (.inl rfl) _), T.ns, T.nr⟩
theorem PlT.set8 (T : PlT W b h sv0 rv0 n sv rv one row rows t x w) (y : Int) : PlT W b h sv0 rv0 n sv rv one row rows y x (w.setCell ⟨b, 8, none⟩ (.int .i64 y)) :=
  ⟨T.c.put8 y, set_ownsRow T.s (Nat.lt_succ_self b) _, set_ownsRow T.r (Nat.lt_succ_self b) _, T.f.trans (.setCell _ (.inl rfl) _), T.ns, T.nr⟩
/-- the pixels' row is let go -/
theorem PlT.free (T : PlT W b h sv0 rv0 n sv rv one row rows t x w) : PlT W b h sv0 rv0 n sv (.slice none 0 0) one [] rows t x (w.setCell ⟨b, 6, none⟩ (.slice none 0 0)) :=
  ⟨T.c.put6 _, set_ownsRow T.s (Nat.lt_succ_self b) _, World.ownsRow_nil _ _ _ _, T.f.trans (.setCell _ (.inl rfl) _), T.ns, .inr fun k hk => by cases hk⟩
theorem ownsRow_zero {base : Nat} {e : TypeId} {size m c : Nat} {a : Option Addr} {xs : List Value} (hr : w.ownsRow base e size (.slice a m c) m xs) : w.ownsRow base e size (.slice a 0 c) 0 [] := by
  refine ⟨by simp, ?_⟩
  rcases hr.2 with ⟨hv, _⟩ | ⟨g, cap, cur, hv, hb, hg, hle, hm, hs, _⟩
  · cases hv; exact .inl ⟨rfl, rfl⟩
  · cases hv; exact .inr ⟨g, c, cur, rfl, hb, hg, Nat.zero_le _, hm, hs, by simp⟩
/-- the samples are let go, their memory is not -/
theorem PlT.clear {a : Option Addr} {m c : Nat} (T : PlT W b h sv0 rv0 n (.slice a m c) rv one row rows t x w) (hm : one.length = m) : PlT W b h sv0 rv0 n (.slice a 0 c) rv [] row rows t x (w.setCell ⟨b, 5, none⟩ (.slice a 0 c)) := by
  have hs := T.s
  rw [hm] at hs
  refine ⟨T.c.put5 _, set_ownsRow (ownsRow_zero hs) (Nat.lt_succ_self b) _, set_ownsRow T.r (Nat.lt_succ_self b) _, T.f.trans (.setCell _ (.inl rfl) _), ?_, T.nr⟩
  have e : (Value.slice a 0 c).ownBlock = (Value.slice a m c).ownBlock := by cases a <;> rfl
  unfold PlNew; rw [e]; exact T.ns
theorem new_at {W : World} {v0 v : Value} {k H : Nat} {n c : Nat} (hv : PlNew W v0 v) (hat : v.ownBlock = some k ∨ k = H) (hH : W.heap.size ≤ H) : PlNew W v0 (.slice (some ⟨k, 0, none⟩) n c) := by
  rcases hat with e | rfl
  · unfold PlNew; show some k = _ ∨ ∀ j, some k = some j → _
    rcases hv with hv | hv
    · left; rw [← hv, e]
    · right; intro j hj; cases hj; exact hv k e
  · right; intro j hj; cases hj; exact hH
theorem zone_of {W : World} {b : Nat} {v0 v z : Value} {k : Nat} (hv : PlNew W v0 v) (e : v.ownBlock = some k) (hk : k < W.heap.size) : v0.ownBlock = some k := by
  rcases hv with hv | hv
  · rw [← hv, e]
  · have := hv k e; omega
/-- a sample more -/
theorem PlT.pushS (T : PlT W b h sv0 rv0 n sv rv one row rows t x w) (hte : 3 ≠ 26) (o : Obj) (y : Int) {w5 : World} {g cc : Nat}
    (hown : w5.ownsRow (b + 1) 3 1 (.slice (some ⟨g, 0, none⟩) (one.length + 1) cc) (one.length + 1) (ints one ++ [.int .i64 y])) (hgrow : (w.alloc o).grownBy w5 sv.ownBlock) (hat : sv.ownBlock = some g ∨ g = (w.alloc o).heap.size) :
    PlC w5 b h n sv rv rows t 0 x ∧ PlT W b h sv0 rv0 n (.slice (some ⟨g, 0, none⟩) (one.length + 1) cc) rv (one ++ [y]) row rows t x (w5.setCell ⟨b, 5, none⟩ (.slice (some ⟨g, 0, none⟩) (one.length + 1) cc)) := by
  have c5 := (T.c.alloc o).kept hgrow T.nes
  have r5 := (T.r.alloc o).kept hgrow (apart_rows (Ne.symm hte) T.r T.s)
  refine ⟨c5, c5.put5 _, ?_, set_ownsRow r5 (Nat.lt_succ_self b) _, ⟨hgrow.os.trans T.f.os, hgrow.tape.trans T.f.tape, hgrow.output.trans T.f.output, ?_, ?_⟩, new_at T.ns hat (by have := T.f.size; simp; omega), T.nr⟩
  · have := set_ownsRow hown (a := ⟨b, 5, none⟩) (Nat.lt_succ_self b) (.slice (some ⟨g, 0, none⟩) (one.length + 1) cc)
    unfold ints at this ⊢
    rw [List.length_append, List.map_append]; exact this
  · have h1 := T.f.size; have h2 := hgrow.size; simp at h2 ⊢; omega
  · intro k hk hz
    have h1 := T.f.size
    rw [Below.heap_setCell _ _ _ _ (fun e => hz (.inl e)), hgrow.block k (by simp; omega) (fun e => hz (.inr (.inl (zone_of (b := b) (z := rv) T.ns e.symm hk))))]
    rw [Below.heap_alloc _ _ _ (by omega)]
    exact T.f.block k hk hz
/-- a pixel more -/
theorem PlT.pushR (T : PlT W b h sv0 rv0 n sv rv one row rows t x w) (hte : 3 ≠ 26) (o : Obj) (y : Int) {w5 : World} {g cc : Nat}
    (hown : w5.ownsRow (b + 1) 26 1 (.slice (some ⟨g, 0, none⟩) (row.length + 1) cc) (row.length + 1) (pixs row ++ [.int .u64 y])) (hgrow : (w.alloc o).grownBy w5 rv.ownBlock) (hat : rv.ownBlock = some g ∨ g = (w.alloc o).heap.size) :
    PlC w5 b h n sv rv rows t 0 x ∧ PlT W b h sv0 rv0 n sv (.slice (some ⟨g, 0, none⟩) (row.length + 1) cc) one (row ++ [y]) rows t x (w5.setCell ⟨b, 6, none⟩ (.slice (some ⟨g, 0, none⟩) (row.length + 1) cc)) := by
  have c5 := (T.c.alloc o).kept hgrow T.ner
  have s5 := (T.s.alloc o).kept hgrow (apart_rows hte T.s T.r)
  refine ⟨c5, c5.put6 _, set_ownsRow s5 (Nat.lt_succ_self b) _, ?_, ⟨hgrow.os.trans T.f.os, hgrow.tape.trans T.f.tape, hgrow.output.trans T.f.output, ?_, ?_⟩, T.ns, new_at T.nr hat (by have := T.f.size; simp; omega)⟩
  · have := set_ownsRow hown (a := ⟨b, 6, none⟩) (Nat.lt_succ_self b) (.slice (some ⟨g, 0, none⟩) (row.length + 1) cc)
    unfold pixs at this ⊢
    rw [List.length_append, List.map_append]; exact this
  · have h1 := T.f.size; have h2 := hgrow.size; simp at h2 ⊢; omega
  · intro k hk hz
    have h1 := T.f.size
    rw [Below.heap_setCell _ _ _ _ (fun e => hz (.inl e)), hgrow.block k (by simp; omega) (fun e => hz (.inr (.inr (zone_of (b := b) (z := rv) T.nr e.symm hk))))]
    rw [Below.heap_alloc _ _ _ (by omega)]
    exact T.f.block k hk hz
end
end Go.Proofs.YtmnhiagppicegaaGreat

/- A head's bytes, by head and by the document, over any memory. Condition: numbers fit their kinds. -/
namespace Go.Proofs.YtmnhiagppicegaaGreat
open Go.RowKit
set_option linter.unusedVariables false

/-- the first part of a head's bytes -/
def Hj.pre (h : Hd.H) : List Int := [80] ++ Nu.decV h.kd ++ [10] ++ Nu.decV h.w ++ [32] ++ Nu.decV h.h ++ [10]
theorem Hj.pre_str (h : Hd.H) : (⟨#[80]⟩ : ByteArray) ++ strOfNums (Nu.decV h.kd) ++ ⟨#[10]⟩ ++ strOfNums (Nu.decV h.w) ++ ⟨#[32]⟩ ++ strOfNums (Nu.decV h.h) ++ ⟨#[10]⟩ = strOfNums (Hj.pre h) := by
  unfold Hj.pre
  simp only [strOfNums_append]
  rfl
theorem Hj.bytes_bits {h : Hd.H} (hb : Hd.bits h.kd = true) : Hd.bytes h = Hj.pre h := by unfold Hd.bytes Hj.pre; rw [if_pos hb, List.append_nil]
theorem Hj.bytes_more {h : Hd.H} (hb : Hd.bits h.kd = false) : Hd.bytes h = Hj.pre h ++ (Nu.decV h.m ++ [10]) := by unfold Hd.bytes Hj.pre; rw [if_neg (by rw [hb]; simp)]
theorem Hj.pre_size {h : Hd.H} (hf : Hj.Fit h) : (strOfNums (Hj.pre h)).size ≤ 204 := by
  have a := Nu.decV_len hf.1
  have b := Nu.decV_len hf.2.1
  have c := Nu.decV_len hf.2.2.1
  rw [strOfNums_size]
  unfold Hj.pre
  simp only [List.length_append, List.length_cons, List.length_nil]
  omega
/-- what Write hands back -/
def Hj.wr (h : Hd.H) : Value := if Hd.May h then .tuple #[.string (strOfNums (Hd.bytes h)), .int .i64 0] else .tuple #[.string ⟨#[]⟩, .int .i64 1]
set_option maxRecDepth 100000 in
set_option maxHeartbeats 4000000 in
theorem hwrite_any (h : Hd.H) (hf : Hj.Fit h) (w : World) :
    Calls Tryz.prog 50 #[agH h] w fun e w' => e = .returned (Hj.wr h) ∧ Below w.heap.size w w' := by
  have HM := Lib.hid (hmay_any h hf)
  have HT := Lib.hid (tells_any h.kd)
  by_cases hm : Hd.May h
  · rw [decide_eq_true hm] at HM
    have X0 : Hid (Hj.wr h = .tuple #[.string (strOfNums (Hd.bytes h)), .int .i64 0]) := if_pos hm
    have XP := Lib.hid (Hj.pre_str h)
    have XS := Lib.hid (Hj.pre_size hf)
    have XB := Lib.hid (@Hj.bytes_bits h)
    have XM := Lib.hid (@Hj.bytes_more h)
    obtain ⟨kd, ww, hh, m⟩ := h
    have HD1 := Lib.hid (decimal_any kd hf.1)
    have HD2 := Lib.hid (decimal_any ww hf.2.1)
    have HD3 := Lib.hid (decimal_any hh hf.2.2.1)
    have HD4 := Lib.hid (decimal_any m hf.2.2.2)
    have s1 : (strOfNums (Nu.decV kd)).size ≤ 66 := by rw [strOfNums_size]; exact Nu.decV_len hf.1
    have s2 : (strOfNums (Nu.decV ww)).size ≤ 66 := by rw [strOfNums_size]; exact Nu.decV_len hf.2.1
    have s3 : (strOfNums (Nu.decV hh)).size ≤ 66 := by rw [strOfNums_size]; exact Nu.decV_len hf.2.2.1
    have s4 : (strOfNums (Nu.decV m)).size ≤ 66 := by rw [strOfNums_size]; exact Nu.decV_len hf.2.2.2
    obtain ⟨g, hg⟩ : ∃ g, Hd.bits kd = g := ⟨_, rfl⟩
    simp only at XP XB XM HT
    rw [hg] at HT
    obtain ⟨D1, hD1⟩ : ∃ D, strOfNums (Nu.decV kd) = D := ⟨_, rfl⟩
    obtain ⟨D2, hD2⟩ : ∃ D, strOfNums (Nu.decV ww) = D := ⟨_, rfl⟩
    obtain ⟨D3, hD3⟩ : ∃ D, strOfNums (Nu.decV hh) = D := ⟨_, rfl⟩
    obtain ⟨D4, hD4⟩ : ∃ D, strOfNums (Nu.decV m) = D := ⟨_, rfl⟩
    rw [hD1] at HD1 s1 XP
    rw [hD2] at HD2 s2 XP
    rw [hD3] at HD3 s3 XP
    rw [hD4] at HD4 s4
    have L1 : ¬ 9223372036854775807 < 1 + D1.size := by omega
    have L2 : ¬ 9223372036854775807 < 1 + D1.size + 1 := by omega
    have L3 : ¬ 9223372036854775807 < 1 + D1.size + 1 + D2.size := by omega
    have L4 : ¬ 9223372036854775807 < 1 + D1.size + 1 + D2.size + 1 := by omega
    have L5 : ¬ 9223372036854775807 < 1 + D1.size + 1 + D2.size + 1 + D3.size := by omega
    have L6 : ¬ 9223372036854775807 < 1 + D1.size + 1 + D2.size + 1 + D3.size + 1 := by omega
    have HG := Lib.hid hg
    have HD4S := Lib.hid hD4
    have S4 := Lib.hid s4
    clear hm hf s1 s2 s3 s4 hD1 hD2 hD3 hD4 hg
    unfold agH at HM ⊢
    go_enter Tryz.func50, Tryz.ntmps50
    go_wp2_with fail
    refine (HM.out _).mono ?_
    rintro e w9 ⟨rfl, hb9⟩
    obtain ⟨n0, n1, n2, n3⟩ := ((Hb.new w 49 ⟨kd, ww, hh, m⟩).later hb9).cells
    have HBz : Hid (Below w.heap.size w w9) := ((Below.refl _ w).alloc (Nat.le_refl _) (.cells #[.int .i64 kd, .int .i64 ww, .int .i64 hh, .int .i64 m] 49)).trans (hb9.mono (by simp))
    have hBr : Below w9.heap.size w9 w9 := .refl _ _
    clear hb9
    go_wp2_with fail
    go_cut [4] (fun s4 wx => s4 = .string ((⟨#[80]⟩ : ByteArray) ++ D1 ++ ⟨#[10]⟩ ++ D2 ++ ⟨#[32]⟩ ++ D3 ++ ⟨#[10]⟩) ∧ Below w9.heap.size w9 wx)
    case first =>
      go_region_held3 (fun w' => w'.cell? ⟨w.heap.size, 0, none⟩ = some (.int .i64 kd) ∧ w'.cell? ⟨w.heap.size, 1, none⟩ = some (.int .i64 ww) ∧ w'.cell? ⟨w.heap.size, 2, none⟩ = some (.int .i64 hh))
        (first | exact ⟨n0, n1, n2⟩ | exact ⟨cell_later hBr n0, cell_later hBr n1, cell_later hBr n2⟩)
        (first
          | (go_at_call 87; with_reducible refine (HD1.out _).mono ?_; rintro e w8 ⟨rfl, hb8⟩; replace hBr := bel_step (w := w9) (by first | exact hBr | exact hBr.drew) hb8)
          | (go_at_call 87; with_reducible refine (HD2.out _).mono ?_; rintro e w8 ⟨rfl, hb8⟩; replace hBr := bel_step (w := w9) (by first | exact hBr | exact hBr.drew) hb8)
          | (go_at_call 87; with_reducible refine (HD3.out _).mono ?_; rintro e w8 ⟨rfl, hb8⟩; replace hBr := bel_step (w := w9) (by first | exact hBr | exact hBr.drew) hb8))
      all_goals
        go_wp2_with fail
        go_meet
        case rel => exact ⟨rfl, hBr⟩
    case rest =>
      obtain ⟨rfl, hBx⟩ := hcut
      have m0 := cell_later hBx n0
      have m3 := cell_later hBx n3
      have HBy := Lib.hid (HBz.out.trans (hBx.mono HBz.out.size))
      clear n0 n1 n2 n3 hBr hBx L1 L2 L3 L4 L5 L6
      rw [XP.out]
      obtain ⟨T, hT⟩ : ∃ T, strOfNums (Hj.pre ⟨kd, ww, hh, m⟩) = T := ⟨_, rfl⟩
      rw [hT] at XS ⊢
      have s4 := S4.out
      have sT := XS.out
      have M1 : ¬ 9223372036854775807 < D4.size + 1 := by omega
      have M2 : ¬ 9223372036854775807 < T.size + (D4.size + 1) := by omega
      have M3 : ¬ 9223372036854775807 < T.size + D4.size := by omega
      have M4 : ¬ 9223372036854775807 < T.size + D4.size + 1 := by omega
      have HTT := Lib.hid hT
      clear hT s4 sT
      cases g with
      | true =>
        go_wp2_with (go_at_call 88; refine (HT.out _).mono ?_; rintro e w7 ⟨rfl, rfl⟩)
        go_ret2
        exact ⟨by rw [X0.out, XB.out HG.out, HTT.out]; rfl, HBy.out⟩
      | false =>
        have XF : Hid (strOfNums (Hd.bytes ⟨kd, ww, hh, m⟩) = T ++ (D4 ++ ⟨#[10]⟩)) := by
          show _ = _
          rw [XM.out HG.out, strOfNums_append, strOfNums_append, HTT.out, HD4S.out]; rfl
        go_wp2_with (first
          | (go_at_call 88; refine (HT.out _).mono ?_; rintro e w7 ⟨rfl, rfl⟩)
          | (go_at_call 87; with_reducible refine (HD4.out _).mono ?_; rintro e w6 ⟨rfl, hb6⟩))
        go_ret2
        exact ⟨by rw [X0.out, XF.out]; rfl, HBy.out.trans (hb6.mono HBy.out.size)⟩
  · rw [decide_eq_false hm] at HM
    have X0 : Hid (Hj.wr h = .tuple #[.string ⟨#[]⟩, .int .i64 1]) := if_neg hm
    obtain ⟨kd, ww, hh, m⟩ := h
    clear hm HT
    unfold agH at HM ⊢
    go_enter Tryz.func50, Tryz.ntmps50
    go_wp2_with fail
    refine (HM.out _).mono ?_
    rintro e w9 ⟨rfl, hb9⟩
    go_wp2
    go_ret2
    exact ⟨by rw [X0.out]; rfl, ((Below.refl _ w).alloc (Nat.le_refl _) _).trans (hb9.mono (by simp))⟩
end Go.Proofs.YtmnhiagppicegaaGreat

/- A head's text, and what is parsed of it: plain facts. No condition. -/
namespace Go.Proofs.YtmnhiagppicegaaGreat
open Go.RowKit
set_option linter.unusedVariables false
namespace Hj
/-- a head's text -/
def text (h : Hd.H) : ByteArray := strOfNums (Hd.bytes h)
theorem wr_may {h : Hd.H} (hm : Hd.May h) : wr h = .tuple #[.string (text h), .int .i64 0] := if_pos hm
theorem bytes_fit (h : Hd.H) : ∀ x ∈ Hd.bytes h, 0 ≤ x ∧ x ≤ 255 := by
  intro x hx
  unfold Hd.bytes at hx
  have hd := Nu.decV_bytes
  simp only [List.mem_append] at hx
  rcases hx with ((((((h | h) | h) | h) | h) | h) | h) | h
  · rw [List.mem_singleton.1 h]; omega
  · exact hd _ x h
  · rw [List.mem_singleton.1 h]; omega
  · exact hd _ x h
  · rw [List.mem_singleton.1 h]; omega
  · exact hd _ x h
  · rw [List.mem_singleton.1 h]; omega
  · split at h
    · cases h
    · rcases List.mem_append.1 h with h | h
      · exact hd _ x h
      · rw [List.mem_singleton.1 h]; omega
theorem text_bytes (h : Hd.H) : bytesOf (text h) = Hd.bytes h := bytesOf_strOfNums (bytes_fit h)
theorem text_len (h : Hd.H) : (text h).size = (Hd.bytes h).length := strOfNums_size _
theorem may_fit {h : Hd.H} (hm : Hd.May h) : Fit h := by
  obtain ⟨a, b, c, d, _⟩ := hm
  refine ⟨⟨?_, ?_⟩, ⟨?_, ?_⟩, ⟨?_, ?_⟩, ⟨?_, ?_⟩⟩ <;> omega
theorem text_size {h : Hd.H} (hf : Fit h) : (text h).size ≤ 271 := by
  rw [text_len]
  have a := Nu.decV_len hf.1
  have b := Nu.decV_len hf.2.1
  have c := Nu.decV_len hf.2.2.1
  have d := Nu.decV_len hf.2.2.2
  unfold Hd.bytes
  simp only [List.length_append, List.length_cons, List.length_nil]
  split <;> simp only [List.length_append, List.length_cons, List.length_nil] <;> omega
end Hj
end Go.Proofs.YtmnhiagppicegaaGreat

/- What is left of a slice of integers from a place on; what Good makes is a pixel of its format. No condition. -/
namespace Go.Proofs.YtmnhiagppicegaaGreat
open Go.RowKit
set_option linter.unusedVariables false

theorem fit_good {p c m : Int} (h : Pq.GoodP p c m) (hc : c = 1 ∨ c = 3) (m1 : 1 ≤ m) (m2 : m ≤ 65535) : Pq.Px.fitsV p c m = true := by
  have hf : Pq.Px.formatV c m = true := by
    unfold Pq.Px.formatV
    rcases hc with rfl | rfl <;> simp <;> omega
  rcases h with ⟨rfl, x, y, z, h3, a, b, d⟩ | ⟨rfl, x, h1, a⟩
  · rw [Pq.Px.fitsV3_all h3 a b d, hf]; rfl
  · rw [Pq.Px.fitsV1_all h1 a, hf]; rfl
/-- what is left of a slice of integers from its s-th one on -/
def cutA (a : Option Addr) (cap s : Nat) : Option Addr := if cap = s then a else a.map (·.add s)
theorem run_cut (a : Option Addr) (len cap s : Nat) (hs : s ≤ len) (W : World) :
    (Instr.slice 22 (.slice a len cap) (some (.int .i64 s)) none none).run Tryz.prog W = .ok (.slice (cutA a cap s) (len - s) (cap - s)) W := by
  rw [run_slice_l W 22 a len cap (by kernel_rfl) .i64 s (by omega) (by omega)]
  have hz : (sizeOf (Tryz.prog.elem 22)).run Tryz.prog W = .ok 1 W := by kernel_rfl
  rw [hz]
  simp [Result.andThen, sliced, cutA]
end Go.Proofs.YtmnhiagppicegaaGreat

/- Dark for light: what Turned comes to, over any memory, of pix and of the document's own answer. Condition: numbers fit their kinds. -/
namespace Go.Proofs.YtmnhiagppicegaaGreat
open Go.RowKit
set_option linter.unusedVariables false
namespace Pq
theorem bt {w a b : World} (h : Below w.heap.size w a) (k : Below a.heap.size a b) : Below w.heap.size w b := h.trans (k.mono h.size)
theorem turned_p3 (p a b d c m : Int) (h : Px.Is3 p a b d) (hf : Px.fitsV p c m = true) (w : World) :
    Calls Tryz.prog 62 #[.int .u64 p, .agg #[.int .i64 c, .int .i64 m]] w fun e w' => e = .returned (.tuple #[.int .u64 (Px.turnedV p c m).1, .int .i64 (Px.turnedV p c m).2]) ∧ Below w.heap.size w w' := by
  have X := Lib.hid (Px.turned3 h hf)
  obtain ⟨rfl, la, lb, ld, m0, m1⟩ := Px.fits3_get h hf
  have H := Lib.hid h
  obtain ⟨-, a0, -, b0, -, d0, -⟩ := h
  go_enter Tryz.func62, Tryz.ntmps62
  go_wp2_with fail
  refine (fits_any p _ _ (isU3 H.out) _).mono ?_
  rw [hf]
  rintro e w1 ⟨rfl, hb1⟩
  have d1 : w1.cell? ⟨w.heap.size, 1, none⟩ = some (.int .i64 m) := cell_later hb1 (by simp [go_sem])
  have hb2 := box_below w _ _ hb1
  clear hb1
  go_wp2_with fail
  refine (each_turned3 p a b d m _ H.out a0 b0 d0 la lb ld m1 _ d1).mono ?_
  rintro e w2 ⟨rfl, hb3⟩
  have hb4 := bt hb2 hb3
  clear hb3
  go_wp2_with fail
  go_ret2
  exact ⟨ret_pack X.out.symm, hb4⟩
theorem turned_p1 (p a c m : Int) (h : Px.Is1 p a) (hf : Px.fitsV p c m = true) (w : World) :
    Calls Tryz.prog 62 #[.int .u64 p, .agg #[.int .i64 c, .int .i64 m]] w fun e w' => e = .returned (.tuple #[.int .u64 (Px.turnedV p c m).1, .int .i64 (Px.turnedV p c m).2]) ∧ Below w.heap.size w w' := by
  have X := Lib.hid (Px.turned1 h hf)
  obtain ⟨rfl, la, m0, m1⟩ := Px.fits1_get h hf
  have H := Lib.hid h
  obtain ⟨-, a0, -⟩ := h
  go_enter Tryz.func62, Tryz.ntmps62
  go_wp2_with fail
  refine (fits_any p _ _ (isU1 H.out) _).mono ?_
  rw [hf]
  rintro e w1 ⟨rfl, hb1⟩
  have d1 : w1.cell? ⟨w.heap.size, 1, none⟩ = some (.int .i64 m) := cell_later hb1 (by simp [go_sem])
  have hb2 := box_below w _ _ hb1
  clear hb1
  go_wp2_with fail
  refine (each_turned1 p a m _ H.out a0 la m1 _ d1).mono ?_
  rintro e w2 ⟨rfl, hb3⟩
  have hb4 := bt hb2 hb3
  clear hb3
  go_wp2_with fail
  go_ret2
  exact ⟨ret_pack X.out.symm, hb4⟩
theorem turned_any (p c m : Int) (hU : Px.U p) (w : World) :
    Calls Tryz.prog 62 #[.int .u64 p, .agg #[.int .i64 c, .int .i64 m]] w fun e w' => e = .returned (.tuple #[.int .u64 (Px.turnedV p c m).1, .int .i64 (Px.turnedV p c m).2]) ∧ Below w.heap.size w w' := by
  cases hf : Px.fitsV p c m
  · have X := Lib.hid (Px.turned_no hf)
    go_enter Tryz.func62, Tryz.ntmps62
    go_wp2_with fail
    refine (fits_any p _ _ hU _).mono ?_
    rw [hf]
    rintro e w1 ⟨rfl, hb1⟩
    have hb2 := box_below w _ _ hb1
    clear hb1
    go_wp2_with fail
    go_ret2
    exact ⟨ret_pack X.out.symm, hb2⟩
  · rcases Px.tri hU with ⟨a, b, d, h⟩ | ⟨a, h⟩ | h
    · exact turned_p3 p a b d c m h hf w
    · exact turned_p1 p a c m h hf w
    · exact (Px.fits0_no h hf).elim

set_option maxHeartbeats 1000000 in
theorem refTurned_p3 (p a b d c m : Int) (h : Px.Is3 p a b d) (hf : Px.fitsV p c m = true) (w : World) :
    Calls Tryz.prog 25 #[.int .u64 p, .agg #[.int .i64 c, .int .i64 m]] w fun e w' => e = .returned (.tuple #[.int .u64 (Px.turnedV p c m).1, .int .i64 (Px.turnedV p c m).2]) ∧ Below w.heap.size w w' := by
  have X := Lib.hid (Px.turned3 h hf)
  obtain ⟨rfl, la, lb, ld, m0, m1⟩ := Px.fits3_get h hf
  have H := Lib.hid h
  obtain ⟨-, a0, -, b0, -, d0, -⟩ := h
  have XV := Lib.hid (show Px.packV [m - a, m - b, m - d] = (844424930131968 + (m - a) * 4294967296 + (m - b) * 65536 + (m - d), 0) from Px.packV3 (by omega) (by omega) (by omega) (by omega) (by omega) (by omega))
  go_enter Tryz.func25, Tryz.ntmps25
  go_wp2_with fail
  refine (refFits_any p _ _ (isU3 H.out) _).mono ?_
  rw [hf]
  rintro e w1 ⟨rfl, hb1⟩
  have d1 : w1.cell? ⟨w.heap.size, 1, none⟩ = some (.int .i64 m) := cell_later hb1 (by simp [go_sem])
  have hz1 : w.heap.size < w1.heap.size := by have := hb1.size; simp at this; omega
  have hb2 := box_below w _ _ hb1
  clear hb1
  go_wp2_with fail
  refine (refUnpack3 p a b d H.out _).mono ?_
  rintro e w2 ⟨g, cap, rfl, ⟨hg0, hg1, c0, c1, c2, f0, f1, f2⟩, hb3⟩
  have d2 : w2.cell? ⟨w.heap.size, 1, none⟩ = some (.int .i64 m) := cell_later hb3 d1
  have hb4 := bt hb2 hb3
  have hne : w.heap.size < g := by omega
  have hne2 : w.heap.size ≠ g := by omega
  have hne3 : g ≠ w.heap.size := by omega
  clear hb3 hb2 d1
  go_wp2
  refine wp_loop_rounds 4 ?_
  rw [rounds_succ]
  go_wp2
  go_region
  go_wp2
  rw [rounds_succ]
  go_wp2
  go_region
  go_wp2
  rw [rounds_succ]
  go_wp2
  go_region
  go_wp2
  rw [rounds_succ]
  go_wp2_with (go_at_call 65; refine (refPack_any _ _ _ [m - a, m - b, m - d] _ (by omega) ?_).mono ?_; (exact sl3 (by simp [go_sem, c0]) (by simp [go_sem, c1]) (by simp [go_sem, c2])); rw [XV.out]; rintro e w9 ⟨rfl, rfl⟩)
  go_ret2
  exact ⟨ret_pack X.out.symm, by repeat (first | exact hb4 | apply Below.drew | refine Below.setCell ?_ (Nat.le_of_lt hne) _)⟩
set_option maxHeartbeats 1000000 in
theorem refTurned_p1 (p a c m : Int) (h : Px.Is1 p a) (hf : Px.fitsV p c m = true) (w : World) :
    Calls Tryz.prog 25 #[.int .u64 p, .agg #[.int .i64 c, .int .i64 m]] w fun e w' => e = .returned (.tuple #[.int .u64 (Px.turnedV p c m).1, .int .i64 (Px.turnedV p c m).2]) ∧ Below w.heap.size w w' := by
  have X := Lib.hid (Px.turned1 h hf)
  obtain ⟨rfl, la, m0, m1⟩ := Px.fits1_get h hf
  have H := Lib.hid h
  obtain ⟨-, a0, -⟩ := h
  have XV := Lib.hid (show Px.packV [m - a] = (281474976710656 + (m - a), 0) from Px.packV1 (by omega) (by omega))
  go_enter Tryz.func25, Tryz.ntmps25
  go_wp2_with fail
  refine (refFits_any p _ _ (isU1 H.out) _).mono ?_
  rw [hf]
  rintro e w1 ⟨rfl, hb1⟩
  have d1 : w1.cell? ⟨w.heap.size, 1, none⟩ = some (.int .i64 m) := cell_later hb1 (by simp [go_sem])
  have hz1 : w.heap.size < w1.heap.size := by have := hb1.size; simp at this; omega
  have hb2 := box_below w _ _ hb1
  clear hb1
  go_wp2_with fail
  refine (refUnpack1 p a H.out _).mono ?_
  rintro e w2 ⟨g, cap, rfl, ⟨hg0, hg1, c0, f0⟩, hb3⟩
  have d2 : w2.cell? ⟨w.heap.size, 1, none⟩ = some (.int .i64 m) := cell_later hb3 d1
  have hb4 := bt hb2 hb3
  have hne : w.heap.size < g := by omega
  have hne2 : w.heap.size ≠ g := by omega
  have hne3 : g ≠ w.heap.size := by omega
  clear hb3 hb2 d1
  go_wp2
  refine wp_loop_rounds 2 ?_
  rw [rounds_succ]
  go_wp2
  go_region
  go_wp2
  rw [rounds_succ]
  go_wp2_with (go_at_call 65; refine (refPack_any _ _ _ [m - a] _ (by omega) ?_).mono ?_; (exact sl1 (by simp [go_sem, c0])); rw [XV.out]; rintro e w9 ⟨rfl, rfl⟩)
  go_ret2
  exact ⟨ret_pack X.out.symm, by repeat (first | exact hb4 | apply Below.drew | refine Below.setCell ?_ (Nat.le_of_lt hne) _)⟩
theorem refTurned_any (p c m : Int) (hU : Px.U p) (w : World) :
    Calls Tryz.prog 25 #[.int .u64 p, .agg #[.int .i64 c, .int .i64 m]] w fun e w' => e = .returned (.tuple #[.int .u64 (Px.turnedV p c m).1, .int .i64 (Px.turnedV p c m).2]) ∧ Below w.heap.size w w' := by
  cases hf : Px.fitsV p c m
  · have X := Lib.hid (Px.turned_no hf)
    go_enter Tryz.func25, Tryz.ntmps25
    go_wp2_with fail
    refine (refFits_any p _ _ hU _).mono ?_
    rw [hf]
    rintro e w1 ⟨rfl, hb1⟩
    have hb2 := box_below w _ _ hb1
    clear hb1
    go_wp2_with fail
    go_ret2
    exact ⟨ret_pack X.out.symm, hb2⟩
  · rcases Px.tri hU with ⟨a, b, d, h⟩ | ⟨a, h⟩ | h
    · exact refTurned_p3 p a b d c m h hf w
    · exact refTurned_p1 p a c m h hf w
    · exact (Px.fits0_no h hf).elim
end Pq
end Go.Proofs.YtmnhiagppicegaaGreat

/- An image as the document has it, and as the program does: the same value. No condition. -/
namespace Go.Proofs.YtmnhiagppicegaaGreat
open Go.RowKit
set_option linter.unusedVariables false
set_option maxHeartbeats 2000000 in
theorem imAs_any (c m W H : Int) (a : Option Addr) (n cap : Nat) (w : World) : Calls Tryz.prog 21 #[agI c m W H (.slice a n cap)] w fun e w' => e = .returned (agI c m W H (.slice a n cap)) ∧ Below w.heap.size w w' := by
  have hB := box2 w (.cells #[.int .i64 c, .int .i64 m, .int .i64 W, .int .i64 H, .slice a n cap] 40) (.cells #[.int .i64 0, .int .i64 0, .int .i64 0, .int .i64 0, .slice none 0 0] 33)
  have X := (Ib.new w 40 c m W H (.slice a n cap)).later (box1 _ (.cells #[.int .i64 0, .int .i64 0, .int .i64 0, .int .i64 0, .slice none 0 0] 33))
  have Z := Ib.new (w.alloc (.cells #[.int .i64 c, .int .i64 m, .int .i64 W, .int .i64 H, .slice a n cap] 40)) 33 0 0 0 0 (.slice none 0 0)
  rw [show (w.alloc (.cells #[.int .i64 c, .int .i64 m, .int .i64 W, .int .i64 H, .slice a n cap] 40)).heap.size = w.heap.size + 1 by simp] at Z
  obtain ⟨W0, hW⟩ : ∃ W0, (w.alloc (.cells #[.int .i64 c, .int .i64 m, .int .i64 W, .int .i64 H, .slice a n cap] 40)).alloc (.cells #[.int .i64 0, .int .i64 0, .int .i64 0, .int .i64 0, .slice none 0 0] 33) = W0 := ⟨_, rfl⟩
  unfold agI
  go_enter Tryz.func21, Tryz.ntmps21
  go_upto_region 1 with fail
  rw [hW] at hB X Z
  try rw [hW]
  clear hW
  have HZ := Lib.hid Z
  obtain ⟨x0, x1, x2, x3, x4⟩ := X.cells
  obtain ⟨z0, z1, z2, z3, z4⟩ := Z.cells
  obtain ⟨f0, f1, f2, f3, f4⟩ := Z.fr
  clear Z X
  go_wp2
  (try simp only [Exit.inBlock, Exit.then])
  refine bodyPost_ret (Hj.ret1 Tryz.results21 _ _ _ _ rfl (load_ri (HZ.out.put c m W H (.slice a n cap)))) rfl ?_
  exact ⟨rfl, ((((hB.setCell (by simp) _).setCell (by simp) _).setCell (by simp) _).setCell (by simp) _).setCell (by simp) _⟩
set_option maxHeartbeats 2000000 in
theorem imOf_any (c m W H : Int) (a : Option Addr) (n cap : Nat) (w : World) : Calls Tryz.prog 13 #[agI c m W H (.slice a n cap)] w fun e w' => e = .returned (agI c m W H (.slice a n cap)) ∧ Below w.heap.size w w' := by
  have hB := box2 w (.cells #[.int .i64 c, .int .i64 m, .int .i64 W, .int .i64 H, .slice a n cap] 33) (.cells #[.int .i64 0, .int .i64 0, .int .i64 0, .int .i64 0, .slice none 0 0] 40)
  have X := (Ib.new w 33 c m W H (.slice a n cap)).later (box1 _ (.cells #[.int .i64 0, .int .i64 0, .int .i64 0, .int .i64 0, .slice none 0 0] 40))
  have Z := Ib.new (w.alloc (.cells #[.int .i64 c, .int .i64 m, .int .i64 W, .int .i64 H, .slice a n cap] 33)) 40 0 0 0 0 (.slice none 0 0)
  rw [show (w.alloc (.cells #[.int .i64 c, .int .i64 m, .int .i64 W, .int .i64 H, .slice a n cap] 33)).heap.size = w.heap.size + 1 by simp] at Z
  obtain ⟨W0, hW⟩ : ∃ W0, (w.alloc (.cells #[.int .i64 c, .int .i64 m, .int .i64 W, .int .i64 H, .slice a n cap] 33)).alloc (.cells #[.int .i64 0, .int .i64 0, .int .i64 0, .int .i64 0, .slice none 0 0] 40) = W0 := ⟨_, rfl⟩
  unfold agI
  go_enter Tryz.func13, Tryz.ntmps13
  go_upto_region 1 with fail
  rw [hW] at hB X Z
  try rw [hW]
  clear hW
  have HZ := Lib.hid Z
  obtain ⟨x0, x1, x2, x3, x4⟩ := X.cells
  obtain ⟨z0, z1, z2, z3, z4⟩ := Z.cells
  obtain ⟨f0, f1, f2, f3, f4⟩ := Z.fr
  clear Z X
  go_wp2
  (try simp only [Exit.inBlock, Exit.then])
  refine bodyPost_ret (Hj.ret1 Tryz.results13 _ _ _ _ rfl (load_im (HZ.out.put c m W H (.slice a n cap)))) rfl ?_
  exact ⟨rfl, ((((hB.setCell (by simp) _).setCell (by simp) _).setCell (by simp) _).setCell (by simp) _).setCell (by simp) _⟩
end Go.Proofs.YtmnhiagppicegaaGreat
