/- Whether all numbers of a matrix are pixels of a format, by rect and by the document, over any memory. Condition: numbers fit their kinds. -/
import Derived.Test.YtooilemglmndeaaGreatZQPixF
import Derived.Test.YtooilemglmndeaaGreatZgAB
import Derived.Deep.DeepCutAuto
import Derived.Test.YtooilemglmndeaaGreatZQPixD
import Derived.Test.YtooilemglmndeaaGreatZRecO
import Derived.Test.YtooilemglmndeaaGreatZgAA
import Derived.Test.YtooilemglmndeaaGreatZHedQ
import Derived.Test.YtooilemglmndeaaGreatZHedD
import Derived.Test.YtooilemglmndeaaGreatZBtK
import Derived.Laws.Append
import Derived.Deep.AppendSrc
import Derived.Laws.IdiomCopy
import Derived.Room.Entries
import Derived.Test.YtooilemglmndeaaGreatZQPixG
namespace Go.Proofs.YtooilemglmndeaaGreat
open Go.RowKit
set_option linter.unusedVariables false

/-- whether all numbers are pixels of a format -/
def fitL (c m : Int) (L : List Int) : Bool := L.all fun p => Pq.Px.fitsV p c m
theorem fitL_cut {c m : Int} {L : List Int} {k : Nat} (hk : k < L.length) (h : fitL c m (L.take k) = true) (e : Pq.Px.fitsV (L.getD k 0) c m = true) : fitL c m (L.take (k + 1)) = true := by
  unfold fitL at *
  rw [List.take_succ_eq_append_getElem hk, List.all_append, h]
  rw [List.getD_eq_getElem?_getD, List.getElem?_eq_getElem hk] at e
  simpa using e
theorem fitL_no {c m : Int} {L : List Int} {k : Nat} (hk : k < L.length) (e : Pq.Px.fitsV (L.getD k 0) c m = false) : fitL c m L = false := by
  unfold fitL
  rw [List.getD_eq_getElem?_getD, List.getElem?_eq_getElem hk] at e
  have e' : Pq.Px.fitsV L[k] c m = false := e
  rw [List.all_eq_false]
  exact ⟨L[k], List.getElem_mem hk, by simp [e']⟩
set_option maxHeartbeats 1000000 in
theorem unfit_any (p c m : Int) (b : Nat) (hU : Pq.Px.U p) (w : World) (h0 : w.cell? ⟨b, 0, none⟩ = some (.int .i64 c)) (h1 : w.cell? ⟨b, 1, none⟩ = some (.int .i64 m)) :
    Calls Tryz.prog 115 #[.int .u64 p, .pointer (some ⟨b, 0, none⟩)] w fun e w' => e = .returned (.bool (!Pq.Px.fitsV p c m)) ∧ Below w.heap.size w w' := by
  have HF := Lib.hid (Pq.fits_any p c m hU)
  generalize Pq.Px.fitsV p c m = r at HF ⊢
  go_enter Tryz.func115, Tryz.ntmps115
  go_wp2_with (go_at_call 116; refine (HF.out _).mono ?_; rintro e w1 ⟨rfl, hb⟩)
  go_ret
  exact ⟨rfl, hb⟩
def AtFit (c m : Int) (L : List Int) (w : World) (e : Ending) (w' : World) : Prop := ∃ j : Int, e = .returned (.int .i64 j) ∧ decide (0 ≤ j) = (!fitL c m L) ∧ Below w.heap.size w w'
set_option maxRecDepth 100000 in
set_option maxHeartbeats 4000000 in
theorem indexP_any (a : Option Addr) (n cap b : Nat) (c m : Int) (L : List Int) (hn : n ≤ 9223372036854775807) (hU : ∀ x ∈ L, Pq.Px.U x) (w : World) (hs : SlK .u64 w a n L) (h0 : w.cell? ⟨b, 0, none⟩ = some (.int .i64 c)) (h1 : w.cell? ⟨b, 1, none⟩ = some (.int .i64 m)) :
    Calls Tryz.prog 154 #[.slice a n cap, .func (.func 115) #[] #[.pointer (some ⟨b, 0, none⟩)]] w (AtFit c m L w) := by
  obtain ⟨hl, hs⟩ := hs
  have HL := Lib.hid hl
  have HU := Lib.hid hU
  have HS := Lib.hid hs
  have H0 := Lib.hid h0
  have H1 := Lib.hid h1
  have en := enters_of Tryz.func115 (by kernel_rfl) rfl
  clear hl hs h0 h1 hU
  go_enter Tryz.func154, Tryz.ntmps154
  go_wp2
  go_loopw [8] (fun s8 wr => ∃ j : Nat, j ≤ n ∧ s8 = .int .i64 j ∧ Below w.heap.size w wr ∧ Hid (fitL c m (L.take j) = true)) (fun s8 _ => n - (intOf s8).toNat)
  case atStart => exact ⟨0, Nat.zero_le _, rfl, Below.refl _ _, rfl⟩
  case round =>
    obtain ⟨j, hj, rfl, hB, hA⟩ := hrel
    by_cases hlt : j < n
    · have hltI : (j : Int) < (n : Int) := by omega
      obtain ⟨blk, off, ha, hcell⟩ : ∃ blk off, a = some ⟨blk, off, none⟩ ∧ w.cell? ⟨blk, off + j, none⟩ = some (.int .u64 (L.getD j 0)) := by
        rcases HS.out with h | ⟨blk, off, h, hc⟩
        · omega
        · exact ⟨blk, off, h, hc j hlt⟩
      have hjl : j < L.length := by rw [HL.out]; exact hlt
      have hxm : L.getD j 0 ∈ L := by rw [List.getD_eq_getElem?_getD, List.getElem?_eq_getElem hjl]; exact List.getElem_mem _
      have hxU := HU.out _ hxm
      have hcl := unfit_any (L.getD j 0) c m b hxU wr (cell_later hB H0.out) (cell_later hB H1.out)
      have hcw := cell_later hB hcell
      obtain ⟨r, hr⟩ : ∃ r, Pq.Px.fitsV (L.getD j 0) c m = r := ⟨_, rfl⟩
      rw [hr] at hcl
      have HR := Lib.hid hr
      obtain ⟨x, hx⟩ : ∃ x, L.getD j 0 = x := ⟨_, rfl⟩
      rw [hx] at hcl hcw
      have HC := Lib.hid hcl
      clear hcl hr hx hcell hxm hxU
      cases r with
      | true =>
        have HN := Lib.hid (fitL_cut hjl hA.out HR.out)
        subst ha
        go_wp2_with fail
        refine HC.out.mono ?_
        rintro e w9 ⟨rfl, hb9⟩
        have hB9 := hB.trans (hb9.mono hB.size)
        go_wp2
        go_roundw
        case rel => exact ⟨j + 1, by omega, by go_num, hB9, HN.out⟩
        case measure => simp [intOf]; omega
      | false =>
        have HN := Lib.hid (fitL_no hjl HR.out)
        subst ha
        go_wp2_with fail
        refine HC.out.mono ?_
        rintro e w9 ⟨rfl, hb9⟩
        have hB9 := hB.trans (hb9.mono hB.size)
        go_wp2
        go_ret
        exact ⟨j, rfl, by rw [HN.out]; simp, hB9⟩
    · have hltI : ¬ (j : Int) < (n : Int) := by omega
      have HN : Hid (fitL c m L = true) := by
        show _ = _
        have h := hA.out
        rwa [List.take_of_length_le (by rw [HL.out]; omega)] at h
      go_wp2
      go_ret
      exact ⟨-1, rfl, by rw [HN.out]; decide, hB⟩

set_option maxHeartbeats 1000000 in
theorem containsP_any (a : Option Addr) (n cap b : Nat) (c m : Int) (L : List Int) (hn : n ≤ 9223372036854775807) (hU : ∀ x ∈ L, Pq.Px.U x) (w : World) (hs : SlK .u64 w a n L) (h0 : w.cell? ⟨b, 0, none⟩ = some (.int .i64 c)) (h1 : w.cell? ⟨b, 1, none⟩ = some (.int .i64 m)) :
    Calls Tryz.prog 118 #[.slice a n cap, .func (.func 115) #[] #[.pointer (some ⟨b, 0, none⟩)]] w fun e w' => e = .returned (.bool (!fitL c m L)) ∧ Below w.heap.size w w' := by
  have HC := Lib.hid (indexP_any a n cap b c m L hn hU w hs h0 h1)
  clear hU hs h0 h1
  go_enter Tryz.func118, Tryz.ntmps118
  go_wp2_with fail
  refine HC.out.mono ?_
  rintro e w1 ⟨j, rfl, hj, hb⟩
  have HJ := Lib.hid hj
  clear hj
  go_wp2
  go_ret
  exact ⟨ret_bR HJ.out, hb⟩
set_option maxHeartbeats 2000000 in
theorem fitsM_any (W H : Int) (a : Option Addr) (n cap : Nat) (c m : Int) (L : List Int) (hn : n ≤ 9223372036854775807) (hU : ∀ x ∈ L, Pq.Px.U x) (w : World) (hs : SlK .u64 w a n L) :
    Calls Tryz.prog 71 #[.agg #[.int .i64 W, .int .i64 H, .slice a n cap], .agg #[.int .i64 c, .int .i64 m]] w fun e w' => e = .returned (.bool (Rc.mayV W H n && fitL c m L)) ∧ Below w.heap.size w w' := by
  have B1 := box1 w (.cells #[.int .i64 W, .int .i64 H, .slice a n cap] 44)
  obtain ⟨W1, hW1⟩ : ∃ W1, w.alloc (.cells #[.int .i64 W, .int .i64 H, .slice a n cap] 44) = W1 := ⟨_, rfl⟩
  have B2 := box1 W1 (.cells #[.int .i64 c, .int .i64 m] 29)
  have hz1 : W1.heap.size = w.heap.size + 1 := by rw [← hW1]; simp
  have X := Sb.new w 44 (.int .i64 W) (.int .i64 H) (.slice a n cap)
  rw [hW1] at B1 X
  have X2 := X.later B2
  have c0 : (W1.alloc (.cells #[.int .i64 c, .int .i64 m] 29)).cell? ⟨W1.heap.size, 0, none⟩ = some (.int .i64 c) := by simp [go_sem]
  have c1 : (W1.alloc (.cells #[.int .i64 c, .int .i64 m] 29)).cell? ⟨W1.heap.size, 1, none⟩ = some (.int .i64 m) := by simp [go_sem]
  have HS := Lib.hid ((hs.below B1).below B2)
  have HB := Lib.hid (B1.trans (B2.mono B1.size))
  have HU := Lib.hid hU
  have HW1 := Lib.hid hW1
  obtain ⟨W2, hW2⟩ : ∃ W2, W1.alloc (.cells #[.int .i64 c, .int .i64 m] 29) = W2 := ⟨_, rfl⟩
  rw [hW2] at c0 c1 HS HB X2
  rw [hz1] at c0 c1
  have HW2 := Lib.hid hW2
  have HX := Lib.hid X2
  have HC0 := Lib.hid c0
  have HC1 := Lib.hid c1
  clear hs B1 B2 X X2 hU c0 c1 hW1 hW2 hz1
  obtain ⟨r, hr⟩ : ∃ r, Rc.mayV W H n = r := ⟨_, rfl⟩
  have HM := may_any W H a n cap hn
  rw [hr] at HM ⊢
  have HM' := Lib.hid HM
  clear HM hr
  go_enter Tryz.func71, Tryz.ntmps71
  go_upto_region 2 with (fail)
  rw [HW1.out, HW2.out]
  obtain ⟨x0, x1, x2⟩ := HX.out.cells
  cases r with
  | true =>
    go_wp2_with fail
    refine (HM'.out _).mono ?_
    rintro e w3 ⟨rfl, hb3⟩
    have HB3 := Lib.hid (HB.out.trans (hb3.mono HB.out.size))
    have HC := Lib.hid (containsP_any a n cap (w.heap.size + 1) c m L hn HU.out w3 (HS.out.below hb3) (cell_later hb3 HC0.out) (cell_later hb3 HC1.out))
    obtain ⟨y0, y1, y2⟩ := (HX.out.later hb3).cells
    clear x0 x1 x2 hb3
    go_wp2_with fail
    refine HC.out.mono ?_
    rintro e w4 ⟨rfl, hb4⟩
    have HB4 := Lib.hid (HB3.out.trans (hb4.mono HB3.out.size))
    clear hb4
    go_wp2
    go_ret
    exact ⟨ret_bR (by simp), HB4.out⟩
  | false =>
    go_wp2_with (go_at_call 117; refine (HM'.out _).mono ?_; rintro e w3 ⟨rfl, hb3⟩; have HB3 := Lib.hid (HB.out.trans (hb3.mono HB.out.size)); clear hb3)
    go_ret
    exact ⟨ret_bR (by simp), HB3.out⟩
end Go.Proofs.YtooilemglmndeaaGreat

/- Whether all numbers of a matrix are pixels of a format, by the document, over any memory. Condition: numbers fit their kinds. -/
namespace Go.Proofs.YtooilemglmndeaaGreat
open Go.RowKit
end Go.Proofs.YtooilemglmndeaaGreat

/- An image in five cells of a block; whether it may be, whether two are the same, where one is in another one: of image and of the document, over any memory. Condition: the rows are no longer than the pixels told. -/
namespace Go.Proofs.YtooilemglmndeaaGreat
open Go.RowKit
set_option linter.unusedVariables false

/-- an image, as a value -/
def agI (c m W H : Int) (v : Value) : Value := .agg #[.int .i64 c, .int .i64 m, .int .i64 W, .int .i64 H, v]
/-- five cells in a block of the call's own -/
def Ib (w : World) (b : Nat) (t : TypeId) (c m W H : Int) (v : Value) : Prop := w.heap[b]? = some (.cells #[.int .i64 c, .int .i64 m, .int .i64 W, .int .i64 H, v] t (0, 0))
section
variable {w w' : World} {b : Nat} {t : TypeId} {c m W H : Int} {v : Value}
theorem Ib.lt (hh : Ib w b t c m W H v) : b < w.heap.size := (Array.getElem?_eq_some_iff.1 hh).1
theorem Ib.later (hh : Ib w b t c m W H v) (hb : Below w.heap.size w w') : Ib w' b t c m W H v := (hb.block b hh.lt).trans hh
theorem Ib.sep {Z : Nat → Prop} (hh : Ib w b t c m W H v) (hs : Sep Z w w') (hz : ¬ Z b) : Ib w' b t c m W H v := (hs.block b hh.lt hz).trans hh
theorem Ib.cells (hh : Ib w b t c m W H v) : w.cell? ⟨b, 0, none⟩ = some (.int .i64 c) ∧ w.cell? ⟨b, 1, none⟩ = some (.int .i64 m) ∧ w.cell? ⟨b, 2, none⟩ = some (.int .i64 W) ∧ w.cell? ⟨b, 3, none⟩ = some (.int .i64 H) ∧ w.cell? ⟨b, 4, none⟩ = some v := by
  have h' : w.heap[b]? = _ := hh
  refine ⟨?_, ?_, ?_, ?_, ?_⟩ <;> simp [World.cell?, h']
theorem Ib.fr (hh : Ib w b t c m W H v) : w.frozen? ⟨b, 0, none⟩ = false ∧ w.frozen? ⟨b, 1, none⟩ = false ∧ w.frozen? ⟨b, 2, none⟩ = false ∧ w.frozen? ⟨b, 3, none⟩ = false ∧ w.frozen? ⟨b, 4, none⟩ = false := by
  have h' : w.heap[b]? = _ := hh
  refine ⟨?_, ?_, ?_, ?_, ?_⟩ <;> simp [World.frozen?, h']
theorem Ib.new (w : World) (t : TypeId) (c m W H : Int) (v : Value) : Ib (w.alloc (.cells #[.int .i64 c, .int .i64 m, .int .i64 W, .int .i64 H, v] t)) w.heap.size t c m W H v := World.alloc_heap_new w _
theorem Ib.put (hh : Ib w b t c m W H v) (c' m' W' H' : Int) (v' : Value) : Ib (((((w.setCell ⟨b, 0, none⟩ (.int .i64 c')).setCell ⟨b, 1, none⟩ (.int .i64 m')).setCell ⟨b, 2, none⟩ (.int .i64 W')).setCell ⟨b, 3, none⟩ (.int .i64 H')).setCell ⟨b, 4, none⟩ v') b t c' m' W' H' v' := by
  have h' : w.heap[b]? = _ := hh
  have h1 := Go.heap_setCell_same w b 0 _ _ (.int .i64 c') h'
  have h2 := Go.heap_setCell_same _ b 1 _ _ (.int .i64 m') h1
  have h3 := Go.heap_setCell_same _ b 2 _ _ (.int .i64 W') h2
  have h4 := Go.heap_setCell_same _ b 3 _ _ (.int .i64 H') h3
  have h5 := Go.heap_setCell_same _ b 4 _ _ v' h4
  simpa [Ib] using h5
end
theorem load_im {w : World} {b : Nat} {t : TypeId} {c m W H : Int} {v : Value} (hh : Ib w b t c m W H v) : (loadVar 46 ⟨b, 0, none⟩).run Tryz.prog w = .ok (agI c m W H v) w := by
  obtain ⟨h0, h1, h2, h3, h4⟩ := hh.cells
  simp [go_sem, h0, h1, h2, h3, h4, agI]
theorem load_ri {w : World} {b : Nat} {t : TypeId} {c m W H : Int} {v : Value} (hh : Ib w b t c m W H v) : (loadVar 34 ⟨b, 0, none⟩).run Tryz.prog w = .ok (agI c m W H v) w := by
  obtain ⟨h0, h1, h2, h3, h4⟩ := hh.cells
  simp [go_sem, h0, h1, h2, h3, h4, agI]
theorem fneq_run (a b x y : Int) (w : World) : (binOp .neq 29 (.agg #[.int .i64 a, .int .i64 b]) (.agg #[.int .i64 x, .int .i64 y])).run Tryz.prog w = .ok (.bool (!Hj.same2 a b x y)) w := by
  rw [run_neq_struct]
  unfold Hj.same2
  cases h1 : (a == x) <;> cases h2 : (b == y) <;> simp [go_sem, h1, h2]
theorem fneq_guard (a b : Operand) (xs ys : Array Value) (w : World) : (eqGuard .neq 29 a b (.agg xs) (.agg ys)).run Tryz.prog w = .ok () w := run_eqGuard_agg _ _ _ _ _ _ _ (by kernel_rfl)
/-- may it be -/
def Im.mayV (c m W H : Int) (n : Nat) (L : List Int) : Bool := Rc.mayV W H n && fitL c m L
theorem imMay_any (c m W H : Int) (a : Option Addr) (n cap : Nat) (L : List Int) (hn : n ≤ 9223372036854775807) (hU : ∀ x ∈ L, Pq.Px.U x) (w : World) (hs : SlK .u64 w a n L) :
    Calls Tryz.prog 24 #[agI c m W H (.slice a n cap)] w fun e w' => e = .returned (.bool (Im.mayV c m W H n L)) ∧ Below w.heap.size w w' := by
  have B := box1 w (.cells #[.int .i64 c, .int .i64 m, .int .i64 W, .int .i64 H, .slice a n cap] 46)
  have HF := Lib.hid (fitsM_any W H a n cap c m L hn hU _ (hs.below B))
  unfold agI Im.mayV
  go_enter Tryz.func24, Tryz.ntmps24
  go_wp2_with (go_at_call 71; refine HF.out.mono ?_; rintro e w1 ⟨rfl, hb⟩; replace B := bel_step B hb)
  go_ret
  exact ⟨rfl, B⟩
/-- are two the same -/
def Im.sameV (c m W H : Int) (L : List Int) (c' m' W' H' : Int) (M : List Int) : Bool := Hj.same2 c m c' m' && (decide (W = W') && (decide (H = H') && decide (L = M)))
theorem Im.same_self (c m W H : Int) (L : List Int) : Im.sameV c m W H L c m W H L = true := by simp [Im.sameV, Hj.same2_self]
theorem imSame_any (c m W H c' m' W' H' : Int) (a a2 : Option Addr) (n k cap cap2 : Nat) (L M : List Int) (w : World) (hn : n ≤ 9223372036854775807) (ha : SlK .u64 w a n L) (hb : SlK .u64 w a2 k M) :
    Calls Tryz.prog 29 #[agI c m W H (.slice a n cap), agI c' m' W' H' (.slice a2 k cap2)] w fun e w' => e = .returned (.bool (Im.sameV c m W H L c' m' W' H' M)) ∧ Below w.heap.size w w' := by
  have B := box2 w (.cells #[.int .i64 c, .int .i64 m, .int .i64 W, .int .i64 H, .slice a n cap] 46) (.cells #[.int .i64 c', .int .i64 m', .int .i64 W', .int .i64 H', .slice a2 k cap2] 46)
  have HF := Lib.hid (same_any W H W' H' a a2 n k cap cap2 L M _ hn (ha.below B) (hb.below B))
  have E := feq_run c m c' m'
  have G := feq_guard
  unfold agI Im.sameV
  clear ha hb
  obtain ⟨q, hq⟩ : ∃ q, Hj.same2 c m c' m' = q := ⟨_, rfl⟩
  rw [hq] at E ⊢
  cases q with
  | true =>
    go_enter Tryz.func29, Tryz.ntmps29
    go_wp2_with (go_at_call 76; refine HF.out.mono ?_; rintro e w1 ⟨rfl, hb⟩; replace B := bel_step B hb)
    go_ret
    exact ⟨by simp, B⟩
  | false =>
    go_enter Tryz.func29, Tryz.ntmps29
    go_wp2_with fail
    go_ret
    exact ⟨by simp, B⟩
theorem refImSame_any (c m W H c' m' W' H' : Int) (a a2 : Option Addr) (n k cap cap2 : Nat) (L M : List Int) (w : World) (hn : n ≤ 9223372036854775807) (ha : SlK .u64 w a n L) (hb : SlK .u64 w a2 k M) :
    Calls Tryz.prog 22 #[agI c m W H (.slice a n cap), agI c' m' W' H' (.slice a2 k cap2)] w fun e w' => e = .returned (.bool (Im.sameV c m W H L c' m' W' H' M)) ∧ Below w.heap.size w w' := by
  have B := box2 w (.cells #[.int .i64 c, .int .i64 m, .int .i64 W, .int .i64 H, .slice a n cap] 34) (.cells #[.int .i64 c', .int .i64 m', .int .i64 W', .int .i64 H', .slice a2 k cap2] 34)
  have HF := Lib.hid (refSame_any W H W' H' a a2 n k cap cap2 L M _ hn (ha.below B) (hb.below B))
  have E := feq_run c m c' m'
  have G := feq_guard
  have X1 := (Ib.new w 34 c m W H (.slice a n cap)).later (box1 _ (.cells #[.int .i64 c', .int .i64 m', .int .i64 W', .int .i64 H', .slice a2 k cap2] 34))
  have X2 := Ib.new (w.alloc (.cells #[.int .i64 c, .int .i64 m, .int .i64 W, .int .i64 H, .slice a n cap] 34)) 34 c' m' W' H' (.slice a2 k cap2)
  rw [show (w.alloc (.cells #[.int .i64 c, .int .i64 m, .int .i64 W, .int .i64 H, .slice a n cap] 34)).heap.size = w.heap.size + 1 by simp] at X2
  have HX1 := Lib.hid X1
  have HX2 := Lib.hid X2
  unfold agI Im.sameV
  clear ha hb X1 X2
  obtain ⟨q, hq⟩ : ∃ q, Hj.same2 c m c' m' = q := ⟨_, rfl⟩
  rw [hq] at E ⊢
  obtain ⟨r, hr⟩ : ∃ r, (decide (W = W') && (decide (H = H') && decide (L = M))) = r := ⟨_, rfl⟩
  rw [hr] at HF ⊢
  cases r with
  | true =>
    go_enter Tryz.func22, Tryz.ntmps22
    go_wp2_with (go_at_call 70; refine HF.out.mono ?_; rintro e w1 ⟨rfl, hb⟩; replace B := bel_step B hb; obtain ⟨x0, x1, _⟩ := (HX1.out.later hb).cells; obtain ⟨y0, y1, _⟩ := (HX2.out.later hb).cells)
    go_ret
    exact ⟨by simp, B⟩
  | false =>
    go_enter Tryz.func22, Tryz.ntmps22
    go_wp2_with (go_at_call 70; refine HF.out.mono ?_; rintro e w1 ⟨rfl, hb⟩; replace B := bel_step B hb; obtain ⟨x0, x1, _⟩ := (HX1.out.later hb).cells; obtain ⟨y0, y1, _⟩ := (HX2.out.later hb).cells)
    go_ret
    exact ⟨by simp, B⟩
end Go.Proofs.YtooilemglmndeaaGreat

/- A reader of a head is told a byte, over any memory. Condition: its limits are such as may be. -/
namespace Go.Proofs.YtooilemglmndeaaGreat
open Go.RowKit
set_option linter.unusedVariables false

theorem inNum_any {l : Hd.L} (hl : l.Ok) {s : Hd.S} (hG : Hd.Good l s) (hp : s.p = 3) (c : Int) (c0 : 0 ≤ c) (c1 : c ≤ 255) (w : World) (b n : Nat) (h : HdX 0 w b n l s) :
    Calls Tryz.prog 211 #[.pointer (some ⟨b, 0, none⟩), .int .u8 c] w (InR w b n l (Hd.inNum l s c)) := by
  obtain ⟨t, ht⟩ : ∃ t, Tk.put (l.at s.i) s.t c = t := ⟨_, rfl⟩
  have hT := Tk.good_put (hG.2.1 (by omega)).1 c
  rw [ht] at hT
  unfold Hd.inNum
  rw [ht]
  by_cases k5 : t.k = 5
  · unfold Hd.take; rw [if_pos k5]; exact in_wrong hl hG hp c c0 c1 t ht k5 w b n h
  by_cases k4 : t.k = 4
  · unfold Hd.take
    rw [if_neg k5, if_pos k4]
    by_cases hn : t.n = 0
    · rw [if_pos hn]; exact in_zero hl hG hp c c0 c1 t ht k4 hn w b n h
    · rw [if_neg hn]
      have hi := hG.2.2.2.2.2.1 (by omega)
      obtain ⟨p, kd, i, v0, v1, v2, u, er⟩ := s
      obtain rfl : p = 3 := hp
      have hm := Hd.many_at kd
      have hi' : i < Hd.many kd := hi
      have hcase : (i = 0 ∧ Hd.many kd = 2) ∨ (i = 0 ∧ Hd.many kd = 3) ∨ (i = 1 ∧ Hd.many kd = 2) ∨ (i = 1 ∧ Hd.many kd = 3) ∨ (i = 2 ∧ Hd.many kd = 3) := by omega
      rcases hcase with ⟨rfl, hm⟩ | ⟨rfl, hm⟩ | ⟨rfl, hm⟩ | ⟨rfl, hm⟩ | ⟨rfl, hm⟩
      · exact in_num02 hl kd v0 v1 v2 er u hG hm c c0 c1 t ht k4 hn w b n h
      · exact in_num03 hl kd v0 v1 v2 er u hG hm c c0 c1 t ht k4 hn w b n h
      · exact in_num12 hl kd v0 v1 v2 er u hG hm c c0 c1 t ht k4 hn w b n h
      · exact in_num13 hl kd v0 v1 v2 er u hG hm c c0 c1 t ht k4 hn w b n h
      · exact in_num23 hl kd v0 v1 v2 er u hG hm c c0 c1 t ht k4 hn w b n h
  · have := hT.1
    unfold Hd.take; rw [if_neg k5, if_neg k4]; exact in_more hl hG hp c c0 c1 t ht (by omega) w b n h
set_option maxHeartbeats 2000000 in
theorem first_yes {l : Hd.L} (hl : l.Ok) {s : Hd.S} (hG : Hd.Good l s) (hp : s.p = 0) (w : World) (b n : Nat) (h : HdX 0 w b n l s) :
    Calls Tryz.prog 138 #[.pointer (some ⟨b, 0, none⟩), .int .u8 80] w (InR w b n l (Hd.put l s 80)) := by
  have hG' := Hd.good_put hl hG 80
  have hs : Hd.put l s 80 = ⟨1, s.kd, s.i, s.v0, s.v1, s.v2, s.t, s.e⟩ := by unfold Hd.put; rw [if_pos hp, if_pos rfl]
  rw [hs] at hG' ⊢
  obtain ⟨_, nv, f, x, h1, h2, h3, h4⟩ := h
  have hc := h1.c11
  have hf := h1.fr 11
  clear hs h2 h3 h4
  go_enter Tryz.func138, Tryz.ntmps138
  go_wp2
  go_ret
  exact ⟨n, rfl, ⟨hG', _, f, _, h1.put11 _, fun h => absurd h (show ¬ (1 : Nat) = 3 by decide), fun _ => rfl, fun h => absurd h (show ¬ (1 : Nat) = 5 by decide)⟩, .setCell _ (.inl rfl) _, .inl rfl⟩
set_option maxHeartbeats 2000000 in
theorem first_no {l : Hd.L} (hl : l.Ok) {s : Hd.S} (hG : Hd.Good l s) (hp : s.p = 0) (c : Int) (c0 : 0 ≤ c) (c1 : c ≤ 255) (hc : ¬ c = 80) (w : World) (b n : Nat) (h : HdX 0 w b n l s) :
    Calls Tryz.prog 138 #[.pointer (some ⟨b, 0, none⟩), .int .u8 c] w (InR w b n l (Hd.put l s c)) := by
  have hG' := Hd.good_put hl hG c
  have hs : Hd.put l s c = s.wrong 2 := by unfold Hd.put; rw [if_pos hp, if_neg hc]
  rw [hs] at hG' ⊢
  obtain ⟨_, nv, f, x, h1, h2, h3, h4⟩ := h
  have hk : (c != 80) = true := by simpa using hc
  have H1 := Lib.hid h1
  have HW := Lib.hid hwrong_any
  clear hs h2 h3 h4 hc h1
  go_enter Tryz.func138, Tryz.ntmps138
  go_wp2_with fail
  refine (HW.out _ _ _ _ _ _ _ _ _ _ _ _ _ _ H1.out _).mono ?_
  rintro e1 w3 ⟨rfl, h3, hg⟩
  go_wp2
  go_ret
  exact ⟨n, rfl, ⟨hG', _, _, _, h3, fun h => absurd h (show ¬ (5 : Nat) = 3 by decide), fun h => absurd h (show ¬ (5 : Nat) ≤ 3 by decide), fun _ => rfl⟩, .grown hg (.inl rfl), .inl rfl⟩
set_option maxHeartbeats 2000000 in
theorem second_yes {l : Hd.L} (hl : l.Ok) {s : Hd.S} (hG : Hd.Good l s) (hp : s.p = 1) (c : Int) (c0 : 49 ≤ c) (c1 : c ≤ 54) (w : World) (b n : Nat) (h : HdX 0 w b n l s) :
    Calls Tryz.prog 177 #[.pointer (some ⟨b, 0, none⟩), .int .u8 c] w (InR w b n l (Hd.put l s c)) := by
  have hG' := Hd.good_put hl hG c
  have hs : Hd.put l s c = ⟨2, c - 48, s.i, s.v0, s.v1, s.v2, s.t, s.e⟩ := by unfold Hd.put; rw [if_neg (by omega), if_pos hp, if_pos ⟨c0, c1⟩]
  rw [hs] at hG' ⊢
  obtain ⟨_, nv, f, x, h1, h2, h3, h4⟩ := h
  have hc0 := h1.c0
  have hc := h1.c11
  have hf0 := h1.fr 0
  have hf := h1.fr 11
  have k1 : ¬ c < 49 := by omega
  have k2 : ¬ 54 < c := by omega
  have k3 : 0 ≤ c - 48 := by omega
  have k4 : c - 48 ≤ 255 := by omega
  have H1 := Lib.hid h1
  clear hs h2 h3 h4 h1 hp
  go_enter Tryz.func177, Tryz.ntmps177
  go_wp2
  go_ret
  exact ⟨n, rfl, ⟨hG', _, f, _, (H1.out.put0 _).put11 _, fun h => absurd h (show ¬ (2 : Nat) = 3 by decide), fun _ => rfl, fun h => absurd h (show ¬ (2 : Nat) = 5 by decide)⟩, (Sep.setCell _ (.inl rfl) _).trans (.setCell _ (.inl rfl) _), .inl rfl⟩
set_option maxHeartbeats 2000000 in
theorem second_no {l : Hd.L} (hl : l.Ok) {s : Hd.S} (hG : Hd.Good l s) (hp : s.p = 1) (c : Int) (c0 : 0 ≤ c) (c1 : c ≤ 255) (hc : ¬ (49 ≤ c ∧ c ≤ 54)) (w : World) (b n : Nat) (h : HdX 0 w b n l s) :
    Calls Tryz.prog 177 #[.pointer (some ⟨b, 0, none⟩), .int .u8 c] w (InR w b n l (Hd.put l s c)) := by
  have hG' := Hd.good_put hl hG c
  have hs : Hd.put l s c = s.wrong 2 := by unfold Hd.put; rw [if_neg (by omega), if_pos hp, if_neg hc]
  rw [hs] at hG' ⊢
  obtain ⟨_, nv, f, x, h1, h2, h3, h4⟩ := h
  have H1 := Lib.hid h1
  have HW := Lib.hid hwrong_any
  by_cases k1 : c < 49
  · clear hs h2 h3 h4 hc h1 hp
    go_enter Tryz.func177, Tryz.ntmps177
    go_wp2_with fail
    refine (HW.out _ _ _ _ _ _ _ _ _ _ _ _ _ _ H1.out _).mono ?_
    rintro e1 w3 ⟨rfl, h3, hg⟩
    go_wp2
    go_ret
    exact ⟨n, rfl, ⟨hG', _, _, _, h3, fun h => absurd h (show ¬ (5 : Nat) = 3 by decide), fun h => absurd h (show ¬ (5 : Nat) ≤ 3 by decide), fun _ => rfl⟩, .grown hg (.inl rfl), .inl rfl⟩
  · have k2 : 54 < c := by omega
    clear hs h2 h3 h4 hc h1 hp
    go_enter Tryz.func177, Tryz.ntmps177
    go_wp2_with fail
    refine (HW.out _ _ _ _ _ _ _ _ _ _ _ _ _ _ H1.out _).mono ?_
    rintro e1 w3 ⟨rfl, h3, hg⟩
    go_wp2
    go_ret
    exact ⟨n, rfl, ⟨hG', _, _, _, h3, fun h => absurd h (show ¬ (5 : Nat) = 3 by decide), fun h => absurd h (show ¬ (5 : Nat) ≤ 3 by decide), fun _ => rfl⟩, .grown hg (.inl rfl), .inl rfl⟩
set_option maxHeartbeats 2000000 in
theorem third_no {l : Hd.L} (hl : l.Ok) {s : Hd.S} (hG : Hd.Good l s) (hp : s.p = 2) (c : Int) (c0 : 0 ≤ c) (c1 : c ≤ 255) (hb : Tk.blank c = false) (hc : ¬ c = 35) (w : World) (b n : Nat) (h : HdX 0 w b n l s) :
    Calls Tryz.prog 196 #[.pointer (some ⟨b, 0, none⟩), .int .u8 c] w (InR w b n l (Hd.put l s c)) := by
  have hG' := Hd.good_put hl hG c
  have hs : Hd.put l s c = s.wrong 3 := by unfold Hd.put; rw [if_neg (by omega), if_neg (by omega), if_pos hp, if_neg (by rw [hb]; simpa using hc)]
  rw [hs] at hG' ⊢
  obtain ⟨_, nv, f, x, h1, h2, h3, h4⟩ := h
  have H1 := Lib.hid h1
  have HW := Lib.hid hwrong_any
  have HB : Hid (∀ W, Calls Tryz.prog 133 #[.int .u8 c] W fun e w' => e = .returned (.bool false) ∧ W = w') := fun W => by have := blank_any c c0 c1 W; rw [hb] at this; exact this
  have hk : (c != 35) = true := by simpa using hc
  clear hs h2 h3 h4 hc h1 hp hb
  go_enter Tryz.func196, Tryz.ntmps196
  go_wp2_with fail
  refine (HB.out _).mono ?_
  rintro e1 w2 ⟨rfl, rfl⟩
  go_wp2_with fail
  refine (HW.out _ _ _ _ _ _ _ _ _ _ _ _ _ _ H1.out _).mono ?_
  rintro e1 w3 ⟨rfl, h3, hg⟩
  go_wp2
  go_ret
  exact ⟨n, rfl, ⟨hG', _, _, _, h3, fun h => absurd h (show ¬ (5 : Nat) = 3 by decide), fun h => absurd h (show ¬ (5 : Nat) ≤ 3 by decide), fun _ => rfl⟩, .grown hg (.inl rfl), .inl rfl⟩
theorem Sep.fresh {b n k : Nat} {w w2 w3 : World} (h : Sep (two b n) w w2) (h2 : Sep (two b k) w2 w3) (hk : w.heap.size ≤ k) : Sep (two b n) w w3 :=
  ⟨h2.os.trans h.os, h2.tape.trans h.tape, h2.output.trans h.output, Nat.le_trans h.size h2.size, fun j hj hz => (h2.block j (Nat.lt_of_lt_of_le hj h.size) (fun e => e.elim (fun e => hz (.inl e)) (fun e => by omega))).trans (h.block j hj hz)⟩
set_option maxHeartbeats 2000000 in
theorem third_go {l : Hd.L} (hl : l.Ok) {s : Hd.S} (hG : Hd.Good l s) (hp : s.p = 2) (c : Int) (c0 : 0 ≤ c) (c1 : c ≤ 255) (hy : Tk.blank c = true ∨ c = 35) (g : Bool) (hb : Tk.blank c = g) (hgo : g = true ∨ (g = false ∧ c = 35)) (w : World) (b n : Nat) (h : HdX 0 w b n l s) :
    Calls Tryz.prog 196 #[.pointer (some ⟨b, 0, none⟩), .int .u8 c] w (InR w b n l (Hd.put l s c)) := by
  obtain ⟨a1, a2, a3, a4, a5⟩ := hG.2.2.1 (by omega)
  have hs : Hd.put l s c = Hd.inNum l (s.tok s.t) c := by unfold Hd.put; rw [if_neg (by omega), if_neg (by omega), if_pos hp, if_pos hy]; rfl
  rw [hs]
  obtain ⟨p, kd, i, v0, v1, v2, u, er⟩ := s
  simp only at a1 a2 a3 a4 a5 hp
  subst a1 a2 a3 a4 a5 hp
  have hG3 : Hd.Good l ⟨3, kd, 0, 0, 0, 1, Tk.new, er⟩ := by
    have := Hd.L.at_ok hl 0
    exact ⟨Nat.le_succ_of_le (Nat.le_succ 3), fun _ => hG.2.1 (Nat.le_succ 2), fun h => absurd h (show ¬ (3 : Nat) ≤ 2 by decide), fun h => absurd h (show ¬ (3 : Nat) ≤ 1 by decide), fun _ _ => hG.2.2.2.2.1 (Nat.le_refl 2) (Nat.le_succ_of_le (Nat.le_succ_of_le (Nat.le_refl 2))), fun _ => hG.2.2.2.2.2.1 (Nat.le_succ 2), fun h => absurd h (show ¬ (3 : Nat) = 5 by decide), Nat.zero_le 3⟩
  obtain ⟨_, nv, f, x, h1, h2, h3, h4⟩ := h
  have h1' : HdC w b kd l.m0 l.m1 l.m2 0 0 1 0 nv 0 f x := h1
  have H1 := Lib.hid h1'
  have HI := Lib.hid (fun W n h => inNum_any hl hG3 rfl c c0 c1 W b n h)
  have HN := Lib.hid enHN
  have HBg := Lib.hid (fun W h => hbegin0_any W b kd l.m0 l.m1 l.m2 0 0 1 nv 0 f x h (by have := Hd.L.at_ok hl 0; unfold Hd.L.at at this; simp at this; omega))
  have HB : Hid (∀ W, Calls Tryz.prog 133 #[.int .u8 c] W fun e w' => e = .returned (.bool g) ∧ W = w') := fun W => by have := blank_any c c0 c1 W; rw [hb] at this; exact this
  obtain ⟨fn, hfn⟩ : ∃ fn, fn = 211 := ⟨_, rfl⟩
  have HFN := Lib.hid hfn
  have hlt := h1'.lt
  have HGG := Lib.hid hG3
  clear hs h2 h3 h4 h1 h1' hb hy hG hG3 hl hfn
  rcases hgo with rfl | ⟨rfl, rfl⟩
  all_goals
    go_enter Tryz.func196, Tryz.ntmps196
    go_wp2_with fail
    refine (HB.out _).mono ?_
    rintro e1 w2 ⟨rfl, rfl⟩
    go_wp2_with fail
    refine (HBg.out _ H1.out).mono ?_
    rintro e1 w2 ⟨rfl, h2, hr, hg⟩
    have hc11 := h2.c11
    have hf11 := h2.fr 11
    have HG2 := Lib.hid hg
    have hlt2 : w.heap.size ≤ w2.heap.size := hg.size
    have HX3 : Hid (HdX 0 (w2.setCell ⟨b, 11, none⟩ (nxHN b)) b w.heap.size l ⟨3, kd, 0, 0, 0, 1, Tk.new, er⟩) := ⟨HGG.out, _, f, _, h2.put11 _, fun _ => ⟨rfl, hr.kept (grown_set _ _ _ _) (some_ne (Nat.ne_of_gt hlt)), Nat.ne_of_gt hlt⟩, fun _ => rfl, fun h => absurd h (show ¬ (3 : Nat) = 5 by decide)⟩
    have hc11b := (h2.put11 (nxHN b)).c11
    have SP3 : Hid (Sep (two b n) w (w2.setCell ⟨b, 11, none⟩ (nxHN b))) := (Sep.grown hg (.inl rfl)).trans (.setCell _ (.inl rfl) _)
    clear hg h2 hr
    unfold nxHN at HX3 SP3 hc11b
    go_wp2_with fail
    refine (HI.out _ _ HX3.out).mono ?_
    rintro e1 w4 ⟨n', rfl, hx, hsp, hn'⟩
    go_wp2
    go_ret
    exact ⟨n', rfl, hx, SP3.out.fresh hsp (Nat.le_refl _), .inr (hn'.elim (fun e => Nat.le_of_eq e.symm) (fun e => Nat.le_trans SP3.out.size e))⟩
end Go.Proofs.YtooilemglmndeaaGreat

/- 'append([]byte(s), y...)': bytes behind a row that was made of a text, as a law for the walk. Condition: not too many bytes. -/
namespace Go.Proofs.YtooilemglmndeaaGreat
open Go.RowKit
set_option linter.unusedVariables false
theorem Im.below_setCells {B b : Nat} (hB : B ≤ b) : ∀ (vs : List Value) (o : Nat) (w : World), Below B w (w.setCells b o vs)
  | [], _, w => .refl _ w
  | v :: vs, o, w => by
    rw [World.setCells]
    exact ((Below.refl B w).setCell (p := ⟨b, o, none⟩) hB v).trans (Im.below_setCells hB vs (o + 1) _)
/-- a row with room behind it that may be written -/
def Im.Rm (w : World) (b n cap : Nat) (xs : List Int) : Prop := Bt.Bs w (some ⟨b, 0, none⟩) n cap xs ∧ b < w.heap.size ∧ ∀ j, n ≤ j → j < cap → (w.cell? ⟨b, j, none⟩).isSome = true ∧ w.frozen? ⟨b, j, none⟩ = false
theorem Im.Rm.later {w w' : World} {b n cap : Nat} {xs : List Int} (h : Im.Rm w b n cap xs) (hb : Below w.heap.size w w') : Im.Rm w' b n cap xs := by
  obtain ⟨h1, h2, h4⟩ := h
  refine ⟨h1.below hb, Nat.lt_of_lt_of_le h2 hb.size, fun j j1 j2 => ⟨?_, ?_⟩⟩
  · obtain ⟨v, hv⟩ := Option.isSome_iff_exists.1 (h4 j j1 j2).1
    rw [cell_later hb hv]; rfl
  · rw [hb.frozen (p := ⟨b, j, none⟩) h2]; exact (h4 j j1 j2).2
theorem Im.run_app {w : World} {b n cap : Nat} {xs : List Int} (h : Im.Rm w b n cap xs) (hn : 1 ≤ n) {a : Option Addr} {m c : Nat} {l : List Int} (hy : SlK .u8 w a m l) (hm : 1 ≤ m) (hl9 : n + m ≤ 1000000) (ty : TypeId) :
    ∃ a' c' w', (Builtin.append_ #[22, 22] ty #[.slice (some ⟨b, 0, none⟩) n cap, .slice a m c]).run Tryz.prog w = .ok (.slice a' (n + m) c') w' ∧ SlK .u8 w' a' (n + m) (xs ++ l) ∧ ∀ B, B ≤ b → Below B w w' := by
  obtain ⟨i0, hi, hz0, hz1, hz2⟩ := info_parts Bt.Tryz.info_byt
  obtain ⟨⟨⟨hxl, hx⟩, hnc, hcm, hby⟩, hlt, hsp⟩ := h
  obtain ⟨hll, hyc⟩ := hy
  rcases hyc with h0 | ⟨gb, go, rfl, hyc⟩
  · omega
  rcases hx with h0 | ⟨b', o', e', hx⟩
  · omega
  cases e'
  have hnews : ∀ j u, (l.map (Value.int .u8))[j]? = some u → w.cell? ((⟨gb, go, none⟩ : Addr).add j) = some u := fun j u hj => by
    rw [List.getElem?_map] at hj
    have hjm : j < m := by
      rcases Nat.lt_or_ge j m with h | h
      · exact h
      · rw [List.getElem?_eq_none (by omega)] at hj; cases hj
    rw [List.getElem?_eq_getElem (by omega)] at hj
    have := hyc j hjm
    rw [List.getD_eq_getElem?_getD, List.getElem?_eq_getElem (by omega)] at this
    rw [addrK_add, this]; exact hj
  have hone : ∀ u ∈ l.map (Value.int .u8), u.oneCell' = true := fun u hu => by obtain ⟨x, _, rfl⟩ := List.mem_map.1 hu; rfl
  have hlm : (l.map (Value.int .u8)).length = m := by rw [List.length_map, hll]
  by_cases hroom : n + m ≤ cap
  · have hr := run_append_room_src (P := Tryz.prog) w 22 22 ty 5 i0 Tryz.underlying22 hi b 0 n cap (.slice (some ⟨gb, go, none⟩) m c) m (l.map (Value.int .u8)) (Src.ofSlice w Tryz.underlying22 _ m c _ (by rw [hlm, hz1, Nat.mul_one]) hnews hone) hroom
      (fun j hj => by rw [hz1, Nat.mul_one, Nat.zero_add]; exact (hsp (n + j) (by omega) (by omega)).1) (fun j hj => by rw [hz1, Nat.mul_one, Nat.zero_add]; exact (hsp (n + j) (by omega) (by omega)).2)
    rw [hz1, Nat.mul_one, Nat.zero_add] at hr
    refine ⟨_, _, _, hr, ⟨by rw [List.length_append, hxl, hll], .inr ⟨b, 0, rfl, fun i hi2 => ?_⟩⟩, fun B hB => Im.below_setCells hB _ _ _⟩
    rw [Nat.zero_add]
    by_cases hin : i < n
    · rw [World.cell?_setCells_out b _ n w ⟨b, i, none⟩ (fun _ _ => .inl hin)]
      have := hx i hin
      rw [Nat.zero_add] at this
      rw [this, List.getD_eq_getElem?_getD, List.getD_eq_getElem?_getD, List.getElem?_append_left (by omega)]
    · obtain ⟨k, rfl⟩ : ∃ k, i = n + k := ⟨i - n, by omega⟩
      have hk : k < (l.map (Value.int .u8)).length := by omega
      rw [World.cell?_setCells_in b _ n w (fun q hq => (hsp (n + q) (by omega) (by omega)).1) k hk, List.getD_eq_getElem?_getD, List.getElem?_append_right (by omega), hxl, Nat.add_sub_cancel_left, List.getElem?_eq_getElem (by omega)]
      simp
  · have holds : ∀ j u, (xs.map (Value.int .u8))[j]? = some u → w.cell? ((⟨b, 0, none⟩ : Addr).add j) = some u := fun j u hj => by
      rw [List.getElem?_map] at hj
      have hjn : j < n := by
        rcases Nat.lt_or_ge j n with h | h
        · exact h
        · rw [List.getElem?_eq_none (by omega)] at hj; cases hj
      rw [List.getElem?_eq_getElem (by omega)] at hj
      have := hx j hjn
      rw [List.getD_eq_getElem?_getD, List.getElem?_eq_getElem (by omega)] at this
      rw [addrK_add, this]; exact hj
    have hr := run_append_grow (P := Tryz.prog) w 22 ty 5 i0 (.int .u8 0) Tryz.underlying22 hi hz0 ⟨b, 0, none⟩ n cap (xs.map (Value.int .u8)) (by rw [List.length_map, hxl, hz1, Nat.mul_one]) holds ⟨gb, go, none⟩ m c (l.map (Value.int .u8)) (by rw [hlm, hz1, Nat.mul_one]) hnews (by omega) (by omega) (by have := Go.Room.nextslicecap_le' (need := n + m) (old := cap) (by omega); rw [hz2]; omega)
    refine ⟨_, _, _, hr, ⟨by rw [List.length_append, hxl, hll], .inr ⟨w.heap.size, 0, rfl, fun i hi2 => ?_⟩⟩, fun B hB => ((Below.refl B w).drew).alloc (by show B ≤ w.heap.size; omega) _⟩
    rw [Nat.zero_add]
    have hg : (xs ++ l).length = n + m := by rw [List.length_append, hxl, hll]
    show (w.drew.alloc _).cell? ⟨w.drew.heap.size, i, none⟩ = _
    rw [World.cell?_alloc_at _ _ _ _ rfl]
    rw [Array.getElem?_append_left (by simp [hxl, hll]; omega)]
    rw [List.append_toArray, List.getElem?_toArray, ← List.map_append, List.getElem?_map, List.getElem?_eq_getElem (by omega), List.getD_eq_getElem?_getD, List.getElem?_eq_getElem (by omega)]
    rfl
end Go.Proofs.YtooilemglmndeaaGreat

/- What Good of the document's own answer comes to, whatever numbers it is handed; and that it is a pixel of the format. Condition: the format may be; numbers fit their kinds. -/
namespace Go.Proofs.YtooilemglmndeaaGreat
open Go.RowKit
set_option linter.unusedVariables false
namespace Pq
theorem good_sl (a : Option Addr) (len cap : Nat) (l : List Int) (c m : Int) (hl : len ≤ 9223372036854775807) (hI : ∀ z ∈ l, Px.I z) (hc : c = 1 ∨ c = 3) (m0 : 0 ≤ m) (m1 : m ≤ 65535) (w : World) (hs : Sl w a len l) :
    Calls Tryz.prog 56 #[.slice a len cap, .agg #[.int .i64 c, .int .i64 m]] w fun e w' => e = .returned (.int .u64 (Px.goodV l c m)) ∧ Below w.heap.size w w' := by
  obtain ⟨hz, hcell⟩ := hs
  match l, hz with
  | [], hz =>
    obtain rfl : len = 0 := by simpa using hz.symm
    rcases hc with rfl | rfl
    · exact good10 a cap m m0 m1 w
    · exact good30 a cap m m0 m1 w
  | x :: r, hz =>
    rcases hcell with hcell | ⟨b, o, rfl, hcell⟩
    · simp at hz; omega
    have hx := hI x (by simp)
    have c0 : w.cell? ⟨b, o, none⟩ = some (.int .i64 x) := by simpa using hcell 0 (by simp at hz; omega)
    rcases hc with rfl | rfl
    · exact good11 b o cap len x m (by simp at hz; omega) hl hx m0 m1 w c0
    · match r, hz with
      | [], hz =>
        obtain rfl : len = 1 := by simpa using hz.symm
        exact good31 b o cap x m hx m0 m1 w c0
      | y :: r, hz =>
        have hy := hI y (by simp)
        have c1 : w.cell? ⟨b, o + 1, none⟩ = some (.int .i64 y) := by simpa using hcell 1 (by simp at hz; omega)
        match r, hz with
        | [], hz =>
          obtain rfl : len = 2 := by simpa using hz.symm
          exact good32 b o cap x y m hx hy m0 m1 w c0 c1
        | z :: r, hz =>
          have hzz := hI z (by simp)
          have c2 : w.cell? ⟨b, o + 2, none⟩ = some (.int .i64 z) := by simpa using hcell 2 (by simp at hz; omega)
          exact good33 b o cap len x y z m (by simp at hz; omega) hl hx hy hzz m0 m1 w c0 c1 c2

/-- a pixel of a format that may be -/
def GoodP (p c m : Int) : Prop := (c = 3 ∧ ∃ x y z, Px.Is3 p x y z ∧ x ≤ m ∧ y ≤ m ∧ z ≤ m) ∨ (c = 1 ∧ ∃ x, Px.Is1 p x ∧ x ≤ m)
theorem goodL_in (m : Int) (m0 : 0 ≤ m) : ∀ (k : Nat) (zs : List Int), ∀ z ∈ Px.goodL zs m k, 0 ≤ z ∧ z ≤ m
  | 0, _, z, h => by cases h
  | k + 1, zs, z, h => by
    unfold Px.goodL at h
    rcases List.mem_cons.1 h with h | h
    · subst h
      cases zs with
      | nil => exact ⟨Int.le_refl _, m0⟩
      | cons x r => have := Px.around_lt x (m + 1) (by omega); simp only []; omega
    · exact goodL_in m m0 k zs.tail z h
theorem goodL_len (m : Int) : ∀ (k : Nat) (zs : List Int), (Px.goodL zs m k).length = k
  | 0, _ => rfl
  | k + 1, zs => by unfold Px.goodL; simp [goodL_len m k zs.tail]
theorem good_is (l : List Int) {c m : Int} (hc : c = 1 ∨ c = 3) (m0 : 0 ≤ m) (m1 : m ≤ 65535) : GoodP (Px.goodV l c m) c m := by
  have hin := goodL_in m m0 c.toNat l
  have hln := goodL_len m c.toNat l
  unfold Px.goodV
  generalize Px.goodL l m c.toNat = q at *
  rcases hc with rfl | rfl
  · match q, hln with
    | [x], _ =>
      have hx := hin x (by simp)
      rw [Px.packV1 (by omega) (by omega)]
      exact .inr ⟨rfl, x, ⟨rfl, by omega, by omega⟩, hx.2⟩
  · match q, hln with
    | [x, y, z], _ =>
      have hx := hin x (by simp)
      have hy := hin y (by simp)
      have hz := hin z (by simp)
      rw [Px.packV3 (by omega) (by omega) (by omega) (by omega) (by omega) (by omega)]
      exact .inl ⟨rfl, x, y, z, ⟨rfl, by omega, by omega, by omega, by omega, by omega, by omega⟩, hx.2, hy.2, hz.2⟩
theorem goodU {p c m : Int} (h : GoodP p c m) : Px.U p := by
  rcases h with ⟨_, x, y, z, h, _⟩ | ⟨_, x, h, _⟩
  · exact isU3 h
  · exact isU1 h
theorem formM_in (m : Int) : 1 ≤ Px.formM m ∧ Px.formM m ≤ 65535 := by
  have := Px.around_lt m 65535 (by omega)
  unfold Px.formM; omega
theorem formC_in (c : Int) : Px.formC c = 1 ∨ Px.formC c = 3 := by unfold Px.formC; split <;> simp
end Pq
end Go.Proofs.YtooilemglmndeaaGreat

/- A row of bits packed, by the document's own answer, over any memory. Condition: numbers fit their kinds. -/
namespace Go.Proofs.YtooilemglmndeaaGreat
open Go.RowKit Go.Shelf
set_option linter.unusedVariables false
namespace Bt
theorem refPack_len (a : Option Addr) (n cap : Nat) (w : World) (hn : n ≤ 9223372036854775807) (h : n < 1 ∨ 4096 < n) :
    Calls Tryz.prog 98 #[.slice a n cap] w fun e w' => e = .returned (.tuple #[.slice none 0 0, .int .i64 1]) ∧ w = w' := by
  rcases h with h | h
  · obtain rfl : n = 0 := by omega
    go_enter Tryz.func98, Tryz.ntmps98
    go_wp2
    go_ret2
    exact ⟨rfl, rfl⟩
  · have h' : (4096 : Int) < n := by omega
    have h0 : ¬ n < 1 := by omega
    have h1 : ¬ (n : Int) < 1 := by omega
    go_enter Tryz.func98, Tryz.ntmps98
    go_wp2
    go_ret2
    exact ⟨rfl, rfl⟩
theorem num_pad (l : List Int) (k : Nat) (h : l.length ≤ k) : num (l ++ List.replicate (k + 1 - l.length) 0) 0 = num (l ++ List.replicate (k - l.length) 0) 0 * 2 := by
  rw [show k + 1 - l.length = (k - l.length) + 1 by omega, List.replicate_succ', ← List.append_assoc, num_append]
  simp [num]
/-- what a part comes to behind k of its places -/
def partN (l : List Int) (i k : Nat) : Int := num ((l.drop i).take k ++ List.replicate (k - ((l.drop i).take k).length) 0) 0
theorem partN_more {l : List Int} {i k : Nat} (h : i + k < l.length) : partN l i (k + 1) = partN l i k * 2 + l.getD (i + k) 0 := by
  unfold partN
  have h1 : ((l.drop i).take k).length = k := by rw [List.length_take, List.length_drop]; omega
  have h2 : ((l.drop i).take (k + 1)).length = k + 1 := by rw [List.length_take, List.length_drop]; omega
  have h3 := take_next (l.drop i) k (by rw [List.length_drop]; omega)
  rw [h1, h2, Nat.sub_self, Nat.sub_self, List.replicate_zero, List.append_nil, List.append_nil, ← h3, num_append]
  simp only [num]
  rw [List.getD_eq_getElem?_getD, List.getElem?_drop, ← List.getD_eq_getElem?_getD]
theorem partN_end {l : List Int} {i k : Nat} (h : l.length ≤ i + k) : partN l i (k + 1) = partN l i k * 2 := by
  unfold partN
  have h1 : (l.drop i).take k = l.drop i := List.take_of_length_le (by rw [List.length_drop]; omega)
  have h2 : (l.drop i).take (k + 1) = l.drop i := List.take_of_length_le (by rw [List.length_drop]; omega)
  rw [h1, h2]
  exact num_pad _ _ (by rw [List.length_drop]; omega)
theorem partN_bound {l : List Int} {i k : Nat} (ho : Ones (l.take (i + k))) (h : k ≤ 8) : 0 ≤ partN l i k ∧ partN l i k + 1 ≤ 2 ^ k := by
  have h1 : (l.drop i).take k = (l.take (i + k)).drop i := by rw [List.drop_take]; congr 1; omega
  have hb := num_bound ((l.drop i).take k ++ List.replicate (k - ((l.drop i).take k).length) 0) 0 (fun x hx => by
    rcases List.mem_append.1 hx with hx | hx
    · exact ho x (List.mem_of_mem_drop (h1 ▸ hx))
    · exact .inl (List.eq_of_mem_replicate hx)) (by omega)
  have hl : ((l.drop i).take k ++ List.replicate (k - ((l.drop i).take k).length) 0).length = k := by
    have : ((l.drop i).take k).length ≤ k := List.length_take_le _ _
    rw [List.length_append, List.length_replicate]; omega
  rw [hl] at hb
  exact ⟨hb.1, by simpa [partN] using hb.2⟩
theorem partN_all (l : List Int) (i : Nat) : partN l i 8 = num (pad ((l.drop i).take 8)) 0 := rfl
theorem pow8 : ∀ k : Nat, k ≤ 8 → (2 : Int) ^ k ≤ 256 := fun k h => (show ∀ m : Fin 9, (2 : Int) ^ m.val ≤ 256 by decide) ⟨k, by omega⟩
theorem ones_snoc {l : List Int} {x : Int} (h : Ones l) (hx : x = 0 ∨ x = 1) : Ones (l ++ [x]) := by
  intro z hz
  rcases List.mem_append.1 hz with hz | hz
  · exact h z hz
  · obtain rfl : z = x := by simpa using hz
    exact hx
theorem refPack_no1 (a : Option Addr) (n cap : Nat) (l : List Int) (w : World) (hl : l.length = n) (hn : n ≤ 9223372036854775807) (h : n < 1 ∨ 4096 < n) :
    Calls Tryz.prog 98 #[.slice a n cap] w (PackR l w) := by
  refine (refPack_len a n cap w hn h).mono ?_
  rintro e w' ⟨rfl, rfl⟩
  have hp : packOk l = false := by unfold packOk; rw [hl]; simp; omega
  unfold PackR packV packE
  rw [hp]
  exact ⟨none, 0, rfl, World.ownsRow_nil _ _ _ _, Below.refl _ _⟩
set_option maxRecDepth 100000 in
set_option maxHeartbeats 4000000 in
theorem refPack_yes (b o n m cap : Nat) (l : List Int) (w : World) (hl : l.length = n) (hcell : ∀ i, i < n → w.cell? ⟨b, o + i, none⟩ = some (.int .i64 (l.getD i 0))) (hI : ∀ x ∈ l, -9223372036854775808 ≤ x ∧ x ≤ 9223372036854775807) (h1 : 1 ≤ n) (h9 : n ≤ 4096) (hm1 : n ≤ 8 * m) (hm2 : 8 * m < n + 8) :
    Calls Tryz.prog 98 #[.slice (some ⟨b, o, none⟩) n cap] w (PackR l w) := by
  obtain ⟨i0, hi, hz0, hz1, hz2⟩ := info_parts Tryz.info_byt
  have HP := Lib.hid (packB_len m l (by omega) (by omega))
  have HG := Lib.hid (fun k (h : 8 * k < n) => packB_get k l (by omega))
  have HL := Lib.hid hl
  have HS := Lib.hid hcell
  have hn1 : ¬ (n : Int) < 1 := by omega
  have hn2 : ¬ n < 1 := by omega
  have hn3 : ¬ (4096 : Int) < n := by omega
  have hn4 : ¬ 4096 < n := by omega
  clear hl hcell hI
  go_enter Tryz.func98, Tryz.ntmps98
  go_wp2
  go_loopg [4, 5] m (fun g s4 s5 wr => ∃ k : Nat, k + g = m ∧ s5 = .int .i64 (8 * (k : Int)) ∧ wr.ownsRow w.heap.size 5 1 s4 k (((packB l).take k).map (Value.int .u8)) ∧ Below w.heap.size w wr ∧ Hid (Ones (l.take (8 * k))))
  case atStart => exact ⟨0, by omega, rfl, World.ownsRow_nil _ _ _ _, Below.refl _ _, Lib.hid (by intro x hx; simp at hx)⟩
  case round =>
    obtain ⟨k, hk, rfl, hrow, hB, ho⟩ := hrel
    cases gk with
    | zero =>
      obtain rfl : k = m := by omega
      have hlt : ¬ 8 * (k : Int) < n := by omega
      have hp : packOk l = true := by
        have := ho.out
        rw [List.take_of_length_le (by rw [HL.out]; omega)] at this
        unfold packOk; rw [HL.out]; simp [this]; omega
      have HOK := Lib.hid hp
      obtain ⟨ad, cap', rfl, hown, hcap⟩ := ownK_row (by rw [List.length_take, HP.out]; omega) hrow
      have HR := Lib.hid hrow; clear hrow hp
      go_wp2
      go_ret2
      unfold PackR packV packE
      rw [HOK.out]
      simp only [if_true]
      have hr := HR.out
      rw [List.take_of_length_le (by rw [HP.out]; omega)] at hr
      exact ⟨ad, cap', by rw [HP.out]; rfl, by rw [HP.out]; exact hr, hB⟩
    | succ g =>
      obtain ⟨I, hI⟩ : ∃ I : Nat, 8 * k = I := ⟨_, rfl⟩
      have hI2 : 8 * (k : Int) = (I : Int) := by omega
      have hgk := HG.out k (by omega)
      rw [hI2]
      rw [hI] at ho hgk
      have hlt : (I : Int) < n := by omega
      have HI := Lib.hid hI
      have HI2 := Lib.hid hI2
      have hIn : I < n := by omega
      have HGK := Lib.hid hgk
      have HR := Lib.hid hrow
      have hW := hB.size
      have HB1 := Lib.hid hB
      obtain ⟨W1, hw1⟩ : ∃ W1, wr = W1 := ⟨_, rfl⟩
      rw [hw1] at HR HB1 hW ⊢
      clear hI hI2 hgk hrow hB hw1
      go_wp2
      go_loopg [6, 7] 8 (fun g2 s6 s7 wx => ∃ j : Nat, j + g2 = 8 ∧ s7 = .int .i64 ((I : Int) + j) ∧ s6 = .int .i64 (partN l I j) ∧ wx = W1 ∧ Hid (Ones (l.take (I + j))))
      case atStart => exact ⟨0, by omega, by simp, by simp [partN, num], rfl, ho⟩
      case round =>
        obtain ⟨j, hj, rfl, rfl, rfl, ho2⟩ := hrel
        have hpb := partN_bound ho2.out (by omega)
        have hpw := pow8 j (by omega)
        obtain ⟨y, hy⟩ : ∃ y, partN l I j = y := ⟨_, rfl⟩
        rw [hy] at hpb ⊢
        have y0 : 0 ≤ y := hpb.1
        have y1 : y ≤ 255 := by have := hpb.2; omega
        have HY := Lib.hid hy
        have j0 : (0 : Int) ≤ j := Int.natCast_nonneg _
        have j8 : (j : Int) ≤ 8 := by omega
        clear hpb hpw hy
        cases gk with
        | zero =>
          obtain rfl : j = 8 := by omega
          rw [show ((8 : Nat) : Int) = 8 from rfl]
          have htk := take_next (packB l) k (by rw [HP.out]; omega)
          rw [HGK.out, ← partN_all, HY.out] at htk
          have HTK := Lib.hid (show ((packB l).take k).map (Value.int .u8) ++ [.int .u8 y] = ((packB l).take (k + 1)).map (Value.int .u8) by rw [← htk]; simp)
          clear htk j0 j8
          go_wp2_with (at_builtin; refine wpList_append_own _ rfl _ _ 22 rfl w.heap.size 5 i0 (.int .u8 0) 1 1 Tryz.underlying22 hi hz0 hz1 hz2 rfl (by decide) _ k _ rfl (HR.out.alloc _) ⟨wr.heap.size, 0, none⟩ 1 1 [.int .u8 y] rfl rfl (cell_one_new _ _ _) (by simp [Value.oneCell']) (by unfold maxLen; omega) (by omega) (by simp; omega) ?_; intro v' w4 hown' hgrow _; have HO := Lib.hid hown'; have hB4 := ((HB1.out.alloc hW _).grown hgrow (by simp; omega) (fun j ej => (HR.out.lt j ej).1)); clear hown' hgrow)
          go_roundg g
          case measure => omega
          case rel =>
            have hr := HO.out
            rw [HTK.out] at hr
            exact ⟨k + 1, by omega, by have := HI2.out; go_num, hr, hB4, Lib.hid (by rw [show 8 * (k + 1) = I + 8 by have := HI.out; omega]; exact ho2.out)⟩
        | succ g2 =>
          have hlt2 : (I : Int) + j < (I : Int) + 8 := by omega
          obtain ⟨K, hK⟩ : ∃ K : Nat, I + j = K := ⟨_, rfl⟩
          have hK2 : (I : Int) + j = (K : Int) := by omega
          rw [hK2] at hlt2 ⊢
          have hK0 : (0 : Int) ≤ K := Int.natCast_nonneg _
          have hK9 : (K : Int) ≤ 5000 := by omega
          have HK := Lib.hid hK
          have HK2 := Lib.hid hK2
          by_cases hKn : K < n
          · have hKn2 : (K : Int) < n := by omega
            have hc := cell_later HB1.out (HS.out K hKn)
            have hmr := partN_more (l := l) (i := I) (k := j) (by rw [HL.out]; omega)
            rw [HY.out, hK] at hmr
            have hnx := take_next l K (by rw [HL.out]; omega)
            obtain ⟨x, hx⟩ : ∃ x, l.getD K 0 = x := ⟨_, rfl⟩
            rw [hx] at hc hmr hnx
            have hxm : x ∈ l := by rw [← hx, List.getD_eq_getElem?_getD, List.getElem?_eq_getElem (by rw [HL.out]; omega)]; exact List.getElem_mem _
            have HM := Lib.hid hmr
            have HX := Lib.hid hnx
            have HXM := Lib.hid hxm
            clear hmr hnx hx hxm hK hK2
            by_cases hx0 : x = 0
            · subst hx0
              go_wp2
              go_roundg g2
              case measure => omega
              case rel => exact ⟨j + 1, by omega, by have := HK2.out; go_num, by have := HM.out; go_num, rfl, Lib.hid (by rw [show I + (j + 1) = K + 1 by have := HK.out; omega, ← HX.out]; exact ones_snoc (by rw [← HK.out]; exact ho2.out) (.inl rfl))⟩
            · by_cases hx1 : x = 1
              · subst hx1
                clear hx0
                go_wp2
                go_roundg g2
                case measure => omega
                case rel => exact ⟨j + 1, by omega, by have := HK2.out; go_num, by have := HM.out; go_num, rfl, Lib.hid (by rw [show I + (j + 1) = K + 1 by have := HK.out; omega, ← HX.out]; exact ones_snoc (by rw [← HK.out]; exact ho2.out) (.inr rfl))⟩
              · have k0 : (x != 0) = true := by simpa using hx0
                have k1 : (x != 1) = true := by simpa using hx1
                have hp : packOk l = false := by
                  unfold packOk
                  have : ¬ Ones l := fun e => by rcases e x HXM.out with e | e; exact hx0 e; exact hx1 e
                  simp [this]
                have HOK := Lib.hid hp
                clear hp hx0 hx1
                go_wp2
                go_ret2
                unfold PackR packV packE
                rw [HOK.out]
                exact ⟨none, 0, rfl, World.ownsRow_nil _ _ _ _, HB1.out⟩
          · have hKn2 : ¬ (K : Int) < n := by omega
            have hen := partN_end (l := l) (i := I) (k := j) (by rw [HL.out]; omega)
            rw [HY.out] at hen
            have HM := Lib.hid hen
            clear hen hK hK2
            go_wp2
            go_roundg g2
            case measure => omega
            case rel => exact ⟨j + 1, by omega, by have := HK2.out; go_num, by have := HM.out; go_num, rfl, Lib.hid (by have := ho2.out; rw [List.take_of_length_le (by rw [HL.out]; have := HK.out; omega)] at this ⊢; exact this)⟩
theorem refPack_any (a : Option Addr) (n cap : Nat) (l : List Int) (w : World) (hn : n ≤ 9223372036854775807) (hI : ∀ x ∈ l, -9223372036854775808 ≤ x ∧ x ≤ 9223372036854775807) (h : SlK .i64 w a n l) :
    Calls Tryz.prog 98 #[.slice a n cap] w (PackR l w) := by
  by_cases h0 : n < 1 ∨ 4096 < n
  · exact refPack_no1 a n cap l w h.1 hn h0
  · obtain ⟨m, hm, hm1, hm2⟩ := bytesV_len (n := n) (by omega) (by omega)
    rcases h.2 with h1 | ⟨b, o, rfl, hs⟩
    · omega
    · exact refPack_yes b o n m cap l w h.1 hs hI (by omega) (by omega) hm1 hm2
end Bt
end Go.Proofs.YtooilemglmndeaaGreat

/- A row from its end on, over any memory, of bits. Condition: numbers fit their kinds. -/
namespace Go.Proofs.YtooilemglmndeaaGreat
open Go.RowKit Go.Shelf
set_option linter.unusedVariables false
namespace Bt
end Bt
end Go.Proofs.YtooilemglmndeaaGreat

/- Rows of bits: what is packed is unpacked as it was, what runs is unrun as it was. Plain facts; no condition. -/
namespace Go.Proofs.YtooilemglmndeaaGreat
open Go.RowKit
set_option linter.unusedVariables false
namespace Bt
theorem eight_num (a b c d e f g h : Int) (ha : a = 0 ∨ a = 1) (hb : b = 0 ∨ b = 1) (hc : c = 0 ∨ c = 1) (hd : d = 0 ∨ d = 1) (he : e = 0 ∨ e = 1) (hf : f = 0 ∨ f = 1) (hg : g = 0 ∨ g = 1) (hh : h = 0 ∨ h = 1) :
    eight (num [a, b, c, d, e, f, g, h] 0) = [a, b, c, d, e, f, g, h] := by
  have B : ∀ x : Int, x = 0 ∨ x = 1 → 0 ≤ x ∧ x ≤ 1 := fun x h => by omega
  obtain ⟨a0, a1⟩ := B a ha
  obtain ⟨b0, b1⟩ := B b hb
  obtain ⟨c0, c1⟩ := B c hc
  obtain ⟨d0, d1⟩ := B d hd
  obtain ⟨e0, e1⟩ := B e he
  obtain ⟨f0, f1⟩ := B f hf
  obtain ⟨g0, g1⟩ := B g hg
  obtain ⟨h0, h1⟩ := B h hh
  clear B ha hb hc hd he hf hg hh
  simp only [num, eight, List.cons.injEq, and_true]
  refine ⟨?_, ?_, ?_, ?_, ?_, ?_, ?_, ?_⟩ <;> omega
theorem eight_num8 (l : List Int) (hl : l.length = 8) (ho : Ones l) : eight (num l 0) = l := by
  obtain ⟨a, b, c, d, e, f, g, h, rfl⟩ := list8 l hl
  exact eight_num a b c d e f g h (ho a (by simp)) (ho b (by simp)) (ho c (by simp)) (ho d (by simp)) (ho e (by simp)) (ho f (by simp)) (ho g (by simp)) (ho h (by simp))
theorem bits_pack : ∀ (m : Nat) (l : List Int), l.length ≤ 8 * m → 8 * m < l.length + 8 → Ones l → bitsOf (packB l) = l ++ List.replicate (8 * m - l.length) 0
  | 0, l, h, _, _ => by
    have : l = [] := List.eq_nil_of_length_eq_zero (by omega)
    subst this; simp [packB_nil, bitsOf]
  | m + 1, l, h, k, ho => by
    have hne : l ≠ [] := by intro e; subst e; simp at k; omega
    have hpo := pad_01 (pt := l.take 8) (fun x hx => ho x (List.mem_of_mem_take hx))
    rw [packB_more hne, bitsOf, eight_num8 _ (pad_len _ (List.length_take_le _ _)) hpo]
    by_cases h8 : 8 ≤ l.length
    · rw [bits_pack m (l.drop 8) (by simp; omega) (by simp; omega) (fun x hx => ho x (List.mem_of_mem_drop hx))]
      have e : pad (l.take 8) = l.take 8 := by unfold pad; rw [List.length_take, Nat.min_eq_left h8]; simp
      rw [e, ← List.append_assoc, List.take_append_drop, List.length_drop]
      congr 2; omega
    · have hm : m = 0 := by omega
      subst hm
      have e : l.drop 8 = [] := List.drop_eq_nil_of_le (by omega)
      rw [e, packB_nil, bitsOf, List.append_nil, List.take_of_length_le (by omega)]
      rfl
end Bt
end Go.Proofs.YtooilemglmndeaaGreat

/- Where an image is in another one: of image and of the document, over any memory. Condition: both may be. -/
namespace Go.Proofs.YtooilemglmndeaaGreat
open Go.RowKit
set_option linter.unusedVariables false
def Im.findV (c m W H : Int) (L : List Int) (c' m' W' H' : Int) (M : List Int) : List (Int × Int) := if Hj.same2 c m c' m' = true then Rc.findV W H L W' H' M else []
def ImFindR (F : List (Int × Int)) (w : World) (e : Ending) (w' : World) : Prop := ∃ v, e = .returned v ∧ w'.ownsRow w.heap.size 73 2 v F.length (pairs F) ∧ Below w.heap.size w w'
theorem imFind_any (c m W H c' m' W' H' : Int) (a a2 : Option Addr) (cap cap2 : Nat) (L M : List Int) (hL : Rc.Ok W H L) (hM : Rc.Ok W' H' M) (hc : L.length ≤ cap) (hcm : cap ≤ 9223372036854775807) (hd : M.length ≤ cap2) (hdm : cap2 ≤ 9223372036854775807) (w : World) (ha : SlK .u64 w a L.length L) (hb : SlK .u64 w a2 M.length M) :
    Calls Tryz.prog 33 #[agI c m W H (.slice a L.length cap), agI c' m' W' H' (.slice a2 M.length cap2)] w (ImFindR (Im.findV c m W H L c' m' W' H' M) w) := by
  have B := box2 w (.cells #[.int .i64 c, .int .i64 m, .int .i64 W, .int .i64 H, .slice a L.length cap] 46) (.cells #[.int .i64 c', .int .i64 m', .int .i64 W', .int .i64 H', .slice a2 M.length cap2] 46)
  have HF := Lib.hid (find_any W H W' H' a a2 cap cap2 L M hL hM hc hcm hd hdm _ (ha.below B) (hb.below B))
  have E := fneq_run c m c' m'
  have G := fneq_guard
  obtain ⟨n, hn⟩ : ∃ n, L.length = n := ⟨_, rfl⟩
  obtain ⟨k, hk⟩ : ∃ k, M.length = k := ⟨_, rfl⟩
  rw [hn] at B HF ⊢
  rw [hk] at B HF ⊢
  unfold agI Im.findV ImFindR
  clear ha hb hL hM hc hcm hd hdm hn hk
  obtain ⟨q, hq⟩ : ∃ q, Hj.same2 c m c' m' = q := ⟨_, rfl⟩
  rw [hq] at E ⊢
  obtain ⟨F, hF⟩ : ∃ F, Rc.findV W H L W' H' M = F := ⟨_, rfl⟩
  rw [hF] at HF ⊢
  clear hq hF
  cases q with
  | true =>
    go_enter Tryz.func33, Tryz.ntmps33
    go_wp2_with (go_at_call 77; refine HF.out.mono ?_; rintro e w1 ⟨v, rfl, ho, hb⟩; have HO := Lib.hid ho; replace B := bel_step B hb; clear ho)
    go_ret
    exact ⟨_, rfl, ownsRow_base HO.out (by simp; omega), B⟩
  | false =>
    go_enter Tryz.func33, Tryz.ntmps33
    go_wp2_with fail
    go_ret
    exact ⟨_, rfl, World.ownsRow_nil _ _ _ _, B⟩
theorem refImFind_any (c m W H c' m' W' H' : Int) (a a2 : Option Addr) (cap cap2 : Nat) (L M : List Int) (hL : Rc.Ok W H L) (hM : Rc.Ok W' H' M) (hc : L.length ≤ cap) (hcm : cap ≤ 9223372036854775807) (hd : M.length ≤ cap2) (hdm : cap2 ≤ 9223372036854775807) (w : World) (ha : SlK .u64 w a L.length L) (hb : SlK .u64 w a2 M.length M) :
    Calls Tryz.prog 34 #[agI c m W H (.slice a L.length cap), agI c' m' W' H' (.slice a2 M.length cap2)] w (ImFindR (Im.findV c m W H L c' m' W' H' M) w) := by
  have B := box2 w (.cells #[.int .i64 c, .int .i64 m, .int .i64 W, .int .i64 H, .slice a L.length cap] 34) (.cells #[.int .i64 c', .int .i64 m', .int .i64 W', .int .i64 H', .slice a2 M.length cap2] 34)
  have HF := Lib.hid (refFind_any W H W' H' a a2 cap cap2 L M hL hM hc hcm hd hdm _ (ha.below B) (hb.below B))
  have E := fneq_run c m c' m'
  have G := fneq_guard
  obtain ⟨n, hn⟩ : ∃ n, L.length = n := ⟨_, rfl⟩
  obtain ⟨k, hk⟩ : ∃ k, M.length = k := ⟨_, rfl⟩
  rw [hn] at B HF ⊢
  rw [hk] at B HF ⊢
  unfold agI Im.findV ImFindR
  clear ha hb hL hM hc hcm hd hdm hn hk
  obtain ⟨q, hq⟩ : ∃ q, Hj.same2 c m c' m' = q := ⟨_, rfl⟩
  rw [hq] at E ⊢
  obtain ⟨F, hF⟩ : ∃ F, Rc.findV W H L W' H' M = F := ⟨_, rfl⟩
  rw [hF] at HF ⊢
  clear hq hF
  cases q with
  | true =>
    go_enter Tryz.func34, Tryz.ntmps34
    go_wp2_with (go_at_call 78; refine HF.out.mono ?_; rintro e w1 ⟨v, rfl, ho, hb⟩; have HO := Lib.hid ho; replace B := bel_step B hb; clear ho)
    go_ret
    exact ⟨_, rfl, ownsRow_base HO.out (by simp; omega), B⟩
  | false =>
    go_enter Tryz.func34, Tryz.ntmps34
    go_wp2_with fail
    go_ret
    exact ⟨_, rfl, World.ownsRow_nil _ _ _ _, B⟩
/-- what an image that may be is, as a matrix -/
theorem Im.good_ok {c m gw gh : Int} {l : List Int} {n : Nat} {W H : Int} (hw : 1 ≤ W ∧ W ≤ 9) (hh : 1 ≤ H ∧ H ≤ 9) (hl : l.length = W.toNat * H.toNat) : Rc.Ok W H l := by
  refine ⟨hw.1, by omega, hh.1, by omega, ?_, by rw [hl, Nat.mul_comm]⟩
  have : W * H ≤ 9 * 9 := Int.mul_le_mul hw.2 hh.2 (by omega) (by omega)
  omega
end Go.Proofs.YtooilemglmndeaaGreat

/- Five cells of any kind in a block of the call's own; what is not in a block that is stored into. No condition. -/
namespace Go.Proofs.YtooilemglmndeaaGreat
open Go.RowKit
set_option linter.unusedVariables false
def Fv (w : World) (b : Nat) (t : TypeId) (v0 v1 v2 v3 v4 : Value) : Prop := w.heap[b]? = some (.cells #[v0, v1, v2, v3, v4] t (0, 0))
section
variable {w w' : World} {b : Nat} {t : TypeId} {v0 v1 v2 v3 v4 : Value}
theorem Fv.lt (hh : Fv w b t v0 v1 v2 v3 v4) : b < w.heap.size := (Array.getElem?_eq_some_iff.1 hh).1
theorem Fv.later (hh : Fv w b t v0 v1 v2 v3 v4) (hb : Below w.heap.size w w') : Fv w' b t v0 v1 v2 v3 v4 := (hb.block b hh.lt).trans hh
theorem Fv.cells (hh : Fv w b t v0 v1 v2 v3 v4) : w.cell? ⟨b, 0, none⟩ = some v0 ∧ w.cell? ⟨b, 1, none⟩ = some v1 ∧ w.cell? ⟨b, 2, none⟩ = some v2 ∧ w.cell? ⟨b, 3, none⟩ = some v3 ∧ w.cell? ⟨b, 4, none⟩ = some v4 := by
  have h' : w.heap[b]? = _ := hh
  refine ⟨?_, ?_, ?_, ?_, ?_⟩ <;> simp [World.cell?, h']
theorem Fv.fr (hh : Fv w b t v0 v1 v2 v3 v4) : w.frozen? ⟨b, 0, none⟩ = false ∧ w.frozen? ⟨b, 1, none⟩ = false ∧ w.frozen? ⟨b, 2, none⟩ = false ∧ w.frozen? ⟨b, 3, none⟩ = false ∧ w.frozen? ⟨b, 4, none⟩ = false := by
  have h' : w.heap[b]? = _ := hh
  refine ⟨?_, ?_, ?_, ?_, ?_⟩ <;> simp [World.frozen?, h']
theorem Fv.new (w : World) (t : TypeId) (v0 v1 v2 v3 v4 : Value) : Fv (w.alloc (.cells #[v0, v1, v2, v3, v4] t)) w.heap.size t v0 v1 v2 v3 v4 := World.alloc_heap_new w _
theorem Fv.set0 (hh : Fv w b t v0 v1 v2 v3 v4) (v : Value) : Fv (w.setCell ⟨b, 0, none⟩ v) b t v v1 v2 v3 v4 := by
  have h' : w.heap[b]? = _ := hh
  simpa [Fv] using Go.heap_setCell_same w b 0 _ _ v h'
theorem Fv.set1 (hh : Fv w b t v0 v1 v2 v3 v4) (v : Value) : Fv (w.setCell ⟨b, 1, none⟩ v) b t v0 v v2 v3 v4 := by
  have h' : w.heap[b]? = _ := hh
  simpa [Fv] using Go.heap_setCell_same w b 1 _ _ v h'
theorem heap_far {w : World} {a : Addr} {v : Value} {b : Nat} (h : a.block ≠ b) : (w.setCell a v).heap[b]? = w.heap[b]? := by
  simp [World.setCell, h, Array.getElem?_modify]
theorem Fv.far (hh : Fv w b t v0 v1 v2 v3 v4) {a : Addr} (h : a.block ≠ b) (v : Value) : Fv (w.setCell a v) b t v0 v1 v2 v3 v4 := (heap_far h).trans hh
theorem Ib.far {c m W H : Int} {v : Value} (hh : Ib w b t c m W H v) {a : Addr} (h : a.block ≠ b) (x : Value) : Ib (w.setCell a x) b t c m W H v := (heap_far h).trans hh
end
end Go.Proofs.YtooilemglmndeaaGreat

/- An image as the document has it, and as the program does: the same value. No condition. -/
namespace Go.Proofs.YtooilemglmndeaaGreat
open Go.RowKit
set_option maxHeartbeats 2000000 in
theorem imOf_any (c m W H : Int) (a : Option Addr) (n cap : Nat) (w : World) : Calls Tryz.prog 25 #[agI c m W H (.slice a n cap)] w fun e w' => e = .returned (agI c m W H (.slice a n cap)) ∧ Below w.heap.size w w' := by
  have hB := box2 w (.cells #[.int .i64 c, .int .i64 m, .int .i64 W, .int .i64 H, .slice a n cap] 34) (.cells #[.int .i64 0, .int .i64 0, .int .i64 0, .int .i64 0, .slice none 0 0] 46)
  have X := (Ib.new w 34 c m W H (.slice a n cap)).later (box1 _ (.cells #[.int .i64 0, .int .i64 0, .int .i64 0, .int .i64 0, .slice none 0 0] 46))
  have Z := Ib.new (w.alloc (.cells #[.int .i64 c, .int .i64 m, .int .i64 W, .int .i64 H, .slice a n cap] 34)) 46 0 0 0 0 (.slice none 0 0)
  rw [show (w.alloc (.cells #[.int .i64 c, .int .i64 m, .int .i64 W, .int .i64 H, .slice a n cap] 34)).heap.size = w.heap.size + 1 by simp] at Z
  obtain ⟨W0, hW⟩ : ∃ W0, (w.alloc (.cells #[.int .i64 c, .int .i64 m, .int .i64 W, .int .i64 H, .slice a n cap] 34)).alloc (.cells #[.int .i64 0, .int .i64 0, .int .i64 0, .int .i64 0, .slice none 0 0] 46) = W0 := ⟨_, rfl⟩
  unfold agI
  go_enter Tryz.func25, Tryz.ntmps25
  go_upto_region 1 with fail
  rw [hW] at hB X Z
  try rw [hW]
  clear hW
  have HZ := Lib.hid Z
  obtain ⟨x0, x1, x2, x3, x4⟩ := X.cells
  obtain ⟨z0, z1, z2, z3, z4⟩ := Z.cells
  obtain ⟨f0, f1, f2, f3, f4⟩ := Z.fr
  clear Z X
  go_wp2
  (try simp only [Exit.inBlock, Exit.then])
  refine bodyPost_ret (Hj.ret1 Tryz.results25 _ _ _ _ rfl (load_im (HZ.out.put c m W H (.slice a n cap)))) rfl ?_
  exact ⟨rfl, ((((hB.setCell (by simp) _).setCell (by simp) _).setCell (by simp) _).setCell (by simp) _).setCell (by simp) _⟩
end Go.Proofs.YtooilemglmndeaaGreat
