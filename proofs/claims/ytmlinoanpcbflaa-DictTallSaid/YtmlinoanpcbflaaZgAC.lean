/- What can't be laid, and the chapter's example: turn's Lay and lives, over any memory. Condition: the matrix may be. -/
import Derived.Test.YtmlinoanpcbflaaZTurD
import Derived.Test.YtmlinoanpcbflaaZQPixF
import Derived.Test.YtmlinoanpcbflaaZgAB
import Derived.Deep.DeepCutAuto
namespace Go.Proofs.Ytmlinoanpcbflaa
open Go.RowKit
set_option linter.unusedVariables false

set_option maxHeartbeats 2000000 in
theorem turnLay_arg (W H g : Int) (a : Option Addr) (n c : Nat) (hg : Tu.isT g = false) (w : World) :
    Calls Try.prog 66 #[.agg #[.int .i64 W, .int .i64 H, .slice a n c], .int .i64 g] w fun e w' => e = .returned (.tuple #[.agg #[.int .i64 0, .int .i64 0, .slice none 0 0], .int .i64 1]) ∧ Below w.heap.size w w' := by
  have HT := Lib.hid hg
  clear hg
  go_enter Try.func66, Try.ntmps66
  go_wp2_with (go_at_call 30; refine (turnMay_any _ _).mono ?_; rw [HT.out]; rintro e w1 ⟨rfl, rfl⟩)
  go_returns
  exact ⟨rfl, by go_grown⟩
set_option maxHeartbeats 2000000 in
theorem turnLay_no (W H g : Nat) (a : Option Addr) (n c : Nat) (hg : g < 8) (hm : Rc.mayV W H n = true) (hn : n ≤ 9223372036854775807) (hsz : Rc.sized (Tu.sw g W H : Nat) (Tu.sw g H W : Nat) = false) (w : World) :
    Calls Try.prog 66 #[.agg #[.int .i64 W, .int .i64 H, .slice a n c], .int .i64 g] w fun e w' => e = .returned (.tuple #[.agg #[.int .i64 0, .int .i64 0, .slice none 0 0], .int .i64 4]) ∧ Below w.heap.size w w' := by
  have HM := Lib.hid hm
  have HT := Lib.hid (show Tu.isT (g : Int) = true by rw [Tu.isT_iff]; omega)
  have hZ := Lib.hid (fun W2 => size_any W H g hg W2)
  have hNw := Lib.hid (fun W2 => new_no (Tu.sw g W H : Nat) (Tu.sw g H W : Nat) W2 hsz)
  clear hm hsz hg
  obtain ⟨p, hp⟩ : ∃ p, Tu.sw g W H = p := ⟨_, rfl⟩
  obtain ⟨q, hq⟩ : ∃ q, Tu.sw g H W = q := ⟨_, rfl⟩
  rw [hp, hq] at hZ hNw
  clear hp hq
  have B := box2 w (.cells #[.int .i64 W, .int .i64 H, .slice a n c] 34) (.cells #[.int .i64 0, .int .i64 0, .slice none 0 0] 34)
  obtain ⟨W0, hW0⟩ : ∃ W0, (w.alloc (.cells #[.int .i64 W, .int .i64 H, .slice a n c] 34)).alloc (.cells #[.int .i64 0, .int .i64 0, .slice none 0 0] 34) = W0 := ⟨_, rfl⟩
  have D : Sb W0 w.heap.size 34 (.int .i64 W) (.int .i64 H) (.slice a n c) := by rw [← hW0]; exact (Sb.new _ _ _ _ _).alloc _
  have E : Sb W0 (w.heap.size + 1) 34 (.int .i64 0) (.int .i64 0) (.slice none 0 0) := by
    rw [← hW0]
    have := Sb.new (w.alloc (.cells #[.int .i64 W, .int .i64 H, .slice a n c] 34)) 34 (.int .i64 0) (.int .i64 0) (.slice none 0 0)
    simpa using this
  have hz0 : W0.heap.size = w.heap.size + 2 := by rw [← hW0]; simp
  rw [hW0] at B
  obtain ⟨d0, d1, d2⟩ := D.cells
  have HB := Lib.hid B
  have HD := Lib.hid D
  have HE := Lib.hid E
  clear B D E
  have B0 : Below W0.heap.size W0 W0 := Below.refl _ _
  go_enter Try.func66, Try.ntmps66
  go_wp2_with (first
    | (go_at_call 30; refine (turnMay_any _ _).mono ?_; rw [HT.out]; rintro e w1 ⟨rfl, rfl⟩)
    | (go_at_call 51; refine (may_any W H a n c hn _).mono ?_; rw [HM.out]; rintro e w1 ⟨rfl, hb⟩; replace B0 := bel_step B0 hb; obtain ⟨d0, d1, d2⟩ := (HD.out.later B0).cells; have hz1 : W0.heap.size ≤ w1.heap.size := B0.size)
    | (go_at_call 34; refine (hZ.out _).mono ?_; rintro e w1 ⟨rfl, rfl⟩)
    | (go_at_call 84; refine (hNw.out _).mono ?_; rintro e w3 ⟨rfl, hb⟩; replace B0 := bel_step B0 hb; obtain ⟨e0, e1, e2⟩ := (HE.out.later B0).cells; obtain ⟨y0, y1, y2⟩ := (HE.out.later B0).fr; have hz4 : w.heap.size + 1 < w3.heap.size := (by have := B0.size; omega); have R := (HE.out.later B0).put (.int .i64 0) (.int .i64 0) (.slice none 0 0); have HR := Lib.hid (R.alloc (.cells #[.int .i64 0, .int .i64 0, .slice none 0 0] 34)); clear R))
  refine bodyPost_ret (ret_cell2 Try.results66 _ _ _ _ rfl (load_mt HR.out)) rfl ?_
  exact ⟨rfl, ((((bel_step HB.out B0).setCell (by simp) _).setCell (by simp) _).setCell (by simp) _).alloc (by simp; omega) _⟩
theorem ok22 : Rc.Ok 2 2 [1, 2, 3, 4] := by unfold Rc.Ok; decide
theorem lay_id (w : World) (b off : Nat) (hs : SlK .u64 w (some ⟨b, off, none⟩) 4 [1, 2, 3, 4]) :
    Calls Try.prog 66 #[.agg #[.int .i64 2, .int .i64 2, .slice (some ⟨b, off, none⟩) 4 4], .int .i64 1] w fun e w' => ∃ gb, e = .returned (.tuple #[.agg #[.int .i64 2, .int .i64 2, .slice (some ⟨gb, 0, none⟩) 4 4], .int .i64 0]) ∧ OwnG w.heap.size w' gb [3, 1, 4, 2] ∧ Below w.heap.size w w' :=
  turnLay_yes 2 2 1 _ 4 [1, 2, 3, 4] (by omega) ok22 (by decide) (by omega) (by decide) w hs
theorem lay_mi (w : World) (b off : Nat) (hs : SlK .u64 w (some ⟨b, off, none⟩) 4 [1, 2, 3, 4]) :
    Calls Try.prog 66 #[.agg #[.int .i64 2, .int .i64 2, .slice (some ⟨b, off, none⟩) 4 4], .int .i64 4] w fun e w' => ∃ gb, e = .returned (.tuple #[.agg #[.int .i64 2, .int .i64 2, .slice (some ⟨gb, 0, none⟩) 4 4], .int .i64 0]) ∧ OwnG w.heap.size w' gb [2, 1, 4, 3] ∧ Below w.heap.size w w' :=
  turnLay_yes 2 2 4 _ 4 [1, 2, 3, 4] (by omega) ok22 (by decide) (by omega) (by decide) w hs
end Go.Proofs.Ytmlinoanpcbflaa

/- Whether all numbers of a matrix are pixels of a format, by rect and by the document, over any memory. Condition: numbers fit their kinds. -/
namespace Go.Proofs.Ytmlinoanpcbflaa
open Go.RowKit
set_option linter.unusedVariables false

/-- whether all numbers are pixels of a format -/
def fitL (c m : Int) (L : List Int) : Bool := L.all fun p => Pq.Px.fitsV p c m
theorem fitL_cut {c m : Int} {L : List Int} {k : Nat} (hk : k < L.length) (h : fitL c m (L.take k) = true) (e : Pq.Px.fitsV (L.getD k 0) c m = true) : fitL c m (L.take (k + 1)) = true := by
  unfold fitL at *
  rw [List.take_succ_eq_append_getElem hk, List.all_append, h]
  rw [List.getD_eq_getElem?_getD, List.getElem?_eq_getElem hk] at e
  simpa using e
theorem fitL_no {c m : Int} {L : List Int} {k : Nat} (hk : k < L.length) (e : Pq.Px.fitsV (L.getD k 0) c m = false) : fitL c m L = false := by
  unfold fitL
  rw [List.getD_eq_getElem?_getD, List.getElem?_eq_getElem hk] at e
  have e' : Pq.Px.fitsV L[k] c m = false := e
  rw [List.all_eq_false]
  exact ⟨L[k], List.getElem_mem hk, by simp [e']⟩
set_option maxHeartbeats 1000000 in
theorem unfit_any (p c m : Int) (b : Nat) (hU : Pq.Px.U p) (w : World) (h0 : w.cell? ⟨b, 0, none⟩ = some (.int .i64 c)) (h1 : w.cell? ⟨b, 1, none⟩ = some (.int .i64 m)) :
    Calls Try.prog 49 #[.int .u64 p, .pointer (some ⟨b, 0, none⟩)] w fun e w' => e = .returned (.bool (!Pq.Px.fitsV p c m)) ∧ Below w.heap.size w w' := by
  have HF := Lib.hid (Pq.fits_any p c m hU)
  generalize Pq.Px.fitsV p c m = r at HF ⊢
  go_enter Try.func49, Try.ntmps49
  go_wp2_with (go_at_call 50; refine (HF.out _).mono ?_; rintro e w1 ⟨rfl, hb⟩)
  go_ret
  exact ⟨rfl, hb⟩
def AtFit (c m : Int) (L : List Int) (w : World) (e : Ending) (w' : World) : Prop := ∃ j : Int, e = .returned (.int .i64 j) ∧ decide (0 ≤ j) = (!fitL c m L) ∧ Below w.heap.size w w'
set_option maxRecDepth 100000 in
set_option maxHeartbeats 4000000 in
theorem indexP_any (a : Option Addr) (n cap b : Nat) (c m : Int) (L : List Int) (hn : n ≤ 9223372036854775807) (hU : ∀ x ∈ L, Pq.Px.U x) (w : World) (hs : SlK .u64 w a n L) (h0 : w.cell? ⟨b, 0, none⟩ = some (.int .i64 c)) (h1 : w.cell? ⟨b, 1, none⟩ = some (.int .i64 m)) :
    Calls Try.prog 65 #[.slice a n cap, .func (.func 49) #[] #[.pointer (some ⟨b, 0, none⟩)]] w (AtFit c m L w) := by
  obtain ⟨hl, hs⟩ := hs
  have HL := Lib.hid hl
  have HU := Lib.hid hU
  have HS := Lib.hid hs
  have H0 := Lib.hid h0
  have H1 := Lib.hid h1
  have en := enters_of Try.func49 (by kernel_rfl) rfl
  clear hl hs h0 h1 hU
  go_enter Try.func65, Try.ntmps65
  go_wp2
  go_loopw [8] (fun s8 wr => ∃ j : Nat, j ≤ n ∧ s8 = .int .i64 j ∧ Below w.heap.size w wr ∧ Hid (fitL c m (L.take j) = true)) (fun s8 _ => n - (intOf s8).toNat)
  case atStart => exact ⟨0, Nat.zero_le _, rfl, Below.refl _ _, rfl⟩
  case round =>
    obtain ⟨j, hj, rfl, hB, hA⟩ := hrel
    by_cases hlt : j < n
    · have hltI : (j : Int) < (n : Int) := by omega
      obtain ⟨blk, off, ha, hcell⟩ : ∃ blk off, a = some ⟨blk, off, none⟩ ∧ w.cell? ⟨blk, off + j, none⟩ = some (.int .u64 (L.getD j 0)) := by
        rcases HS.out with h | ⟨blk, off, h, hc⟩
        · omega
        · exact ⟨blk, off, h, hc j hlt⟩
      have hjl : j < L.length := by rw [HL.out]; exact hlt
      have hxm : L.getD j 0 ∈ L := by rw [List.getD_eq_getElem?_getD, List.getElem?_eq_getElem hjl]; exact List.getElem_mem _
      have hxU := HU.out _ hxm
      have hcl := unfit_any (L.getD j 0) c m b hxU wr (cell_later hB H0.out) (cell_later hB H1.out)
      have hcw := cell_later hB hcell
      obtain ⟨r, hr⟩ : ∃ r, Pq.Px.fitsV (L.getD j 0) c m = r := ⟨_, rfl⟩
      rw [hr] at hcl
      have HR := Lib.hid hr
      obtain ⟨x, hx⟩ : ∃ x, L.getD j 0 = x := ⟨_, rfl⟩
      rw [hx] at hcl hcw
      have HC := Lib.hid hcl
      clear hcl hr hx hcell hxm hxU
      cases r with
      | true =>
        have HN := Lib.hid (fitL_cut hjl hA.out HR.out)
        subst ha
        go_wp2_with fail
        refine HC.out.mono ?_
        rintro e w9 ⟨rfl, hb9⟩
        have hB9 := hB.trans (hb9.mono hB.size)
        go_wp2
        go_roundw
        case rel => exact ⟨j + 1, by omega, by go_num, hB9, HN.out⟩
        case measure => simp [intOf]; omega
      | false =>
        have HN := Lib.hid (fitL_no hjl HR.out)
        subst ha
        go_wp2_with fail
        refine HC.out.mono ?_
        rintro e w9 ⟨rfl, hb9⟩
        have hB9 := hB.trans (hb9.mono hB.size)
        go_wp2
        go_ret
        exact ⟨j, rfl, by rw [HN.out]; simp, hB9⟩
    · have hltI : ¬ (j : Int) < (n : Int) := by omega
      have HN : Hid (fitL c m L = true) := by
        show _ = _
        have h := hA.out
        rwa [List.take_of_length_le (by rw [HL.out]; omega)] at h
      go_wp2
      go_ret
      exact ⟨-1, rfl, by rw [HN.out]; decide, hB⟩

set_option maxHeartbeats 1000000 in
theorem containsP_any (a : Option Addr) (n cap b : Nat) (c m : Int) (L : List Int) (hn : n ≤ 9223372036854775807) (hU : ∀ x ∈ L, Pq.Px.U x) (w : World) (hs : SlK .u64 w a n L) (h0 : w.cell? ⟨b, 0, none⟩ = some (.int .i64 c)) (h1 : w.cell? ⟨b, 1, none⟩ = some (.int .i64 m)) :
    Calls Try.prog 52 #[.slice a n cap, .func (.func 49) #[] #[.pointer (some ⟨b, 0, none⟩)]] w fun e w' => e = .returned (.bool (!fitL c m L)) ∧ Below w.heap.size w w' := by
  have HC := Lib.hid (indexP_any a n cap b c m L hn hU w hs h0 h1)
  clear hU hs h0 h1
  go_enter Try.func52, Try.ntmps52
  go_wp2_with fail
  refine HC.out.mono ?_
  rintro e w1 ⟨j, rfl, hj, hb⟩
  have HJ := Lib.hid hj
  clear hj
  go_wp2
  go_ret
  exact ⟨ret_bR HJ.out, hb⟩
set_option maxHeartbeats 2000000 in
theorem fitsM_any (W H : Int) (a : Option Addr) (n cap : Nat) (c m : Int) (L : List Int) (hn : n ≤ 9223372036854775807) (hU : ∀ x ∈ L, Pq.Px.U x) (w : World) (hs : SlK .u64 w a n L) :
    Calls Try.prog 33 #[.agg #[.int .i64 W, .int .i64 H, .slice a n cap], .agg #[.int .i64 c, .int .i64 m]] w fun e w' => e = .returned (.bool (Rc.mayV W H n && fitL c m L)) ∧ Below w.heap.size w w' := by
  have B1 := box1 w (.cells #[.int .i64 W, .int .i64 H, .slice a n cap] 34)
  obtain ⟨W1, hW1⟩ : ∃ W1, w.alloc (.cells #[.int .i64 W, .int .i64 H, .slice a n cap] 34) = W1 := ⟨_, rfl⟩
  have B2 := box1 W1 (.cells #[.int .i64 c, .int .i64 m] 25)
  have hz1 : W1.heap.size = w.heap.size + 1 := by rw [← hW1]; simp
  have X := Sb.new w 34 (.int .i64 W) (.int .i64 H) (.slice a n cap)
  rw [hW1] at B1 X
  have X2 := X.later B2
  have c0 : (W1.alloc (.cells #[.int .i64 c, .int .i64 m] 25)).cell? ⟨W1.heap.size, 0, none⟩ = some (.int .i64 c) := by simp [go_sem]
  have c1 : (W1.alloc (.cells #[.int .i64 c, .int .i64 m] 25)).cell? ⟨W1.heap.size, 1, none⟩ = some (.int .i64 m) := by simp [go_sem]
  have HS := Lib.hid ((hs.below B1).below B2)
  have HB := Lib.hid (B1.trans (B2.mono B1.size))
  have HU := Lib.hid hU
  have HW1 := Lib.hid hW1
  obtain ⟨W2, hW2⟩ : ∃ W2, W1.alloc (.cells #[.int .i64 c, .int .i64 m] 25) = W2 := ⟨_, rfl⟩
  rw [hW2] at c0 c1 HS HB X2
  rw [hz1] at c0 c1
  have HW2 := Lib.hid hW2
  have HX := Lib.hid X2
  have HC0 := Lib.hid c0
  have HC1 := Lib.hid c1
  clear hs B1 B2 X X2 hU c0 c1 hW1 hW2 hz1
  obtain ⟨r, hr⟩ : ∃ r, Rc.mayV W H n = r := ⟨_, rfl⟩
  have HM := may_any W H a n cap hn
  rw [hr] at HM ⊢
  have HM' := Lib.hid HM
  clear HM hr
  go_enter Try.func33, Try.ntmps33
  go_upto_region 2 with (fail)
  rw [HW1.out, HW2.out]
  obtain ⟨x0, x1, x2⟩ := HX.out.cells
  cases r with
  | true =>
    go_wp2_with fail
    refine (HM'.out _).mono ?_
    rintro e w3 ⟨rfl, hb3⟩
    have HB3 := Lib.hid (HB.out.trans (hb3.mono HB.out.size))
    have HC := Lib.hid (containsP_any a n cap (w.heap.size + 1) c m L hn HU.out w3 (HS.out.below hb3) (cell_later hb3 HC0.out) (cell_later hb3 HC1.out))
    obtain ⟨y0, y1, y2⟩ := (HX.out.later hb3).cells
    clear x0 x1 x2 hb3
    go_wp2_with fail
    refine HC.out.mono ?_
    rintro e w4 ⟨rfl, hb4⟩
    have HB4 := Lib.hid (HB3.out.trans (hb4.mono HB3.out.size))
    clear hb4
    go_wp2
    go_ret
    exact ⟨ret_bR (by simp), HB4.out⟩
  | false =>
    go_wp2_with (go_at_call 51; refine (HM'.out _).mono ?_; rintro e w3 ⟨rfl, hb3⟩; have HB3 := Lib.hid (HB.out.trans (hb3.mono HB.out.size)); clear hb3)
    go_ret
    exact ⟨ret_bR (by simp), HB3.out⟩
end Go.Proofs.Ytmlinoanpcbflaa

/- Whether all numbers of a matrix are pixels of a format, by the document, over any memory. Condition: numbers fit their kinds. -/
namespace Go.Proofs.Ytmlinoanpcbflaa
open Go.RowKit
set_option linter.unusedVariables false

theorem fit_drew {w w9 : World} (h : Below w.drew.heap.size w.drew w9) : Below w.heap.size w w9 := Below.trans (b := w.drew) ⟨rfl, rfl, rfl, Nat.le_refl _, fun _ _ => rfl⟩ h
end Go.Proofs.Ytmlinoanpcbflaa

/- An image in five cells of a block; whether it may be, whether two are the same, where one is in another one: of image and of the document, over any memory. Condition: the rows are no longer than the pixels told. -/
namespace Go.Proofs.Ytmlinoanpcbflaa
open Go.RowKit
set_option linter.unusedVariables false

/-- an image, as a value -/
def agI (c m W H : Int) (v : Value) : Value := .agg #[.int .i64 c, .int .i64 m, .int .i64 W, .int .i64 H, v]
/-- five cells in a block of the call's own -/
def Ib (w : World) (b : Nat) (t : TypeId) (c m W H : Int) (v : Value) : Prop := w.heap[b]? = some (.cells #[.int .i64 c, .int .i64 m, .int .i64 W, .int .i64 H, v] t (0, 0))
section
variable {w w' : World} {b : Nat} {t : TypeId} {c m W H : Int} {v : Value}
theorem Ib.lt (hh : Ib w b t c m W H v) : b < w.heap.size := (Array.getElem?_eq_some_iff.1 hh).1
theorem Ib.later (hh : Ib w b t c m W H v) (hb : Below w.heap.size w w') : Ib w' b t c m W H v := (hb.block b hh.lt).trans hh
theorem Ib.sep {Z : Nat → Prop} (hh : Ib w b t c m W H v) (hs : Sep Z w w') (hz : ¬ Z b) : Ib w' b t c m W H v := (hs.block b hh.lt hz).trans hh
theorem Ib.cells (hh : Ib w b t c m W H v) : w.cell? ⟨b, 0, none⟩ = some (.int .i64 c) ∧ w.cell? ⟨b, 1, none⟩ = some (.int .i64 m) ∧ w.cell? ⟨b, 2, none⟩ = some (.int .i64 W) ∧ w.cell? ⟨b, 3, none⟩ = some (.int .i64 H) ∧ w.cell? ⟨b, 4, none⟩ = some v := by
  have h' : w.heap[b]? = _ := hh
  refine ⟨?_, ?_, ?_, ?_, ?_⟩ <;> simp [World.cell?, h']
theorem Ib.fr (hh : Ib w b t c m W H v) : w.frozen? ⟨b, 0, none⟩ = false ∧ w.frozen? ⟨b, 1, none⟩ = false ∧ w.frozen? ⟨b, 2, none⟩ = false ∧ w.frozen? ⟨b, 3, none⟩ = false ∧ w.frozen? ⟨b, 4, none⟩ = false := by
  have h' : w.heap[b]? = _ := hh
  refine ⟨?_, ?_, ?_, ?_, ?_⟩ <;> simp [World.frozen?, h']
theorem Ib.new (w : World) (t : TypeId) (c m W H : Int) (v : Value) : Ib (w.alloc (.cells #[.int .i64 c, .int .i64 m, .int .i64 W, .int .i64 H, v] t)) w.heap.size t c m W H v := World.alloc_heap_new w _
theorem Ib.put (hh : Ib w b t c m W H v) (c' m' W' H' : Int) (v' : Value) : Ib (((((w.setCell ⟨b, 0, none⟩ (.int .i64 c')).setCell ⟨b, 1, none⟩ (.int .i64 m')).setCell ⟨b, 2, none⟩ (.int .i64 W')).setCell ⟨b, 3, none⟩ (.int .i64 H')).setCell ⟨b, 4, none⟩ v') b t c' m' W' H' v' := by
  have h' : w.heap[b]? = _ := hh
  have h1 := Go.heap_setCell_same w b 0 _ _ (.int .i64 c') h'
  have h2 := Go.heap_setCell_same _ b 1 _ _ (.int .i64 m') h1
  have h3 := Go.heap_setCell_same _ b 2 _ _ (.int .i64 W') h2
  have h4 := Go.heap_setCell_same _ b 3 _ _ (.int .i64 H') h3
  have h5 := Go.heap_setCell_same _ b 4 _ _ v' h4
  simpa [Ib] using h5
end
theorem load_im {w : World} {b : Nat} {t : TypeId} {c m W H : Int} {v : Value} (hh : Ib w b t c m W H v) : (loadVar 36 ⟨b, 0, none⟩).run Try.prog w = .ok (agI c m W H v) w := by
  obtain ⟨h0, h1, h2, h3, h4⟩ := hh.cells
  simp [go_sem, h0, h1, h2, h3, h4, agI]
theorem load_ri {w : World} {b : Nat} {t : TypeId} {c m W H : Int} {v : Value} (hh : Ib w b t c m W H v) : (loadVar 47 ⟨b, 0, none⟩).run Try.prog w = .ok (agI c m W H v) w := by
  obtain ⟨h0, h1, h2, h3, h4⟩ := hh.cells
  simp [go_sem, h0, h1, h2, h3, h4, agI]
theorem fneq_run (a b x y : Int) (w : World) : (binOp .neq 25 (.agg #[.int .i64 a, .int .i64 b]) (.agg #[.int .i64 x, .int .i64 y])).run Try.prog w = .ok (.bool (!Hj.same2 a b x y)) w := by
  rw [run_neq_struct]
  unfold Hj.same2
  cases h1 : (a == x) <;> cases h2 : (b == y) <;> simp [go_sem, h1, h2]
theorem fneq_guard (a b : Operand) (xs ys : Array Value) (w : World) : (eqGuard .neq 25 a b (.agg xs) (.agg ys)).run Try.prog w = .ok () w := run_eqGuard_agg _ _ _ _ _ _ _ (by kernel_rfl)
/-- may it be -/
def Im.mayV (c m W H : Int) (n : Nat) (L : List Int) : Bool := Rc.mayV W H n && fitL c m L
theorem imMay_any (c m W H : Int) (a : Option Addr) (n cap : Nat) (L : List Int) (hn : n ≤ 9223372036854775807) (hU : ∀ x ∈ L, Pq.Px.U x) (w : World) (hs : SlK .u64 w a n L) :
    Calls Try.prog 19 #[agI c m W H (.slice a n cap)] w fun e w' => e = .returned (.bool (Im.mayV c m W H n L)) ∧ Below w.heap.size w w' := by
  have B := box1 w (.cells #[.int .i64 c, .int .i64 m, .int .i64 W, .int .i64 H, .slice a n cap] 36)
  have HF := Lib.hid (fitsM_any W H a n cap c m L hn hU _ (hs.below B))
  unfold agI Im.mayV
  go_enter Try.func19, Try.ntmps19
  go_wp2_with (go_at_call 33; refine HF.out.mono ?_; rintro e w1 ⟨rfl, hb⟩; replace B := bel_step B hb)
  go_ret
  exact ⟨rfl, B⟩
/-- are two the same -/
def Im.sameV (c m W H : Int) (L : List Int) (c' m' W' H' : Int) (M : List Int) : Bool := Hj.same2 c m c' m' && (decide (W = W') && (decide (H = H') && decide (L = M)))
theorem Im.same_self (c m W H : Int) (L : List Int) : Im.sameV c m W H L c m W H L = true := by simp [Im.sameV, Hj.same2_self]
theorem imSame_any (c m W H c' m' W' H' : Int) (a a2 : Option Addr) (n k cap cap2 : Nat) (L M : List Int) (w : World) (hn : n ≤ 9223372036854775807) (ha : SlK .u64 w a n L) (hb : SlK .u64 w a2 k M) :
    Calls Try.prog 39 #[agI c m W H (.slice a n cap), agI c' m' W' H' (.slice a2 k cap2)] w fun e w' => e = .returned (.bool (Im.sameV c m W H L c' m' W' H' M)) ∧ Below w.heap.size w w' := by
  have B := box2 w (.cells #[.int .i64 c, .int .i64 m, .int .i64 W, .int .i64 H, .slice a n cap] 36) (.cells #[.int .i64 c', .int .i64 m', .int .i64 W', .int .i64 H', .slice a2 k cap2] 36)
  have HF := Lib.hid (same_any W H W' H' a a2 n k cap cap2 L M _ hn (ha.below B) (hb.below B))
  have E := feq_run c m c' m'
  have G := feq_guard
  unfold agI Im.sameV
  clear ha hb
  obtain ⟨q, hq⟩ : ∃ q, Hj.same2 c m c' m' = q := ⟨_, rfl⟩
  rw [hq] at E ⊢
  cases q with
  | true =>
    go_enter Try.func39, Try.ntmps39
    go_wp2_with (go_at_call 54; refine HF.out.mono ?_; rintro e w1 ⟨rfl, hb⟩; replace B := bel_step B hb)
    go_ret
    exact ⟨by simp, B⟩
  | false =>
    go_enter Try.func39, Try.ntmps39
    go_wp2_with fail
    go_ret
    exact ⟨by simp, B⟩
theorem refImSame_any (c m W H c' m' W' H' : Int) (a a2 : Option Addr) (n k cap cap2 : Nat) (L M : List Int) (w : World) (hn : n ≤ 9223372036854775807) (ha : SlK .u64 w a n L) (hb : SlK .u64 w a2 k M) :
    Calls Try.prog 45 #[agI c m W H (.slice a n cap), agI c' m' W' H' (.slice a2 k cap2)] w fun e w' => e = .returned (.bool (Im.sameV c m W H L c' m' W' H' M)) ∧ Below w.heap.size w w' := by
  have B := box2 w (.cells #[.int .i64 c, .int .i64 m, .int .i64 W, .int .i64 H, .slice a n cap] 47) (.cells #[.int .i64 c', .int .i64 m', .int .i64 W', .int .i64 H', .slice a2 k cap2] 47)
  have HF := Lib.hid (refSame_any W H W' H' a a2 n k cap cap2 L M _ hn (ha.below B) (hb.below B))
  have E := feq_run c m c' m'
  have G := feq_guard
  have X1 := (Ib.new w 47 c m W H (.slice a n cap)).later (box1 _ (.cells #[.int .i64 c', .int .i64 m', .int .i64 W', .int .i64 H', .slice a2 k cap2] 47))
  have X2 := Ib.new (w.alloc (.cells #[.int .i64 c, .int .i64 m, .int .i64 W, .int .i64 H, .slice a n cap] 47)) 47 c' m' W' H' (.slice a2 k cap2)
  rw [show (w.alloc (.cells #[.int .i64 c, .int .i64 m, .int .i64 W, .int .i64 H, .slice a n cap] 47)).heap.size = w.heap.size + 1 by simp] at X2
  have HX1 := Lib.hid X1
  have HX2 := Lib.hid X2
  unfold agI Im.sameV
  clear ha hb X1 X2
  obtain ⟨q, hq⟩ : ∃ q, Hj.same2 c m c' m' = q := ⟨_, rfl⟩
  rw [hq] at E ⊢
  obtain ⟨r, hr⟩ : ∃ r, (decide (W = W') && (decide (H = H') && decide (L = M))) = r := ⟨_, rfl⟩
  rw [hr] at HF ⊢
  cases r with
  | true =>
    go_enter Try.func45, Try.ntmps45
    go_wp2_with (go_at_call 57; refine HF.out.mono ?_; rintro e w1 ⟨rfl, hb⟩; replace B := bel_step B hb; obtain ⟨x0, x1, _⟩ := (HX1.out.later hb).cells; obtain ⟨y0, y1, _⟩ := (HX2.out.later hb).cells)
    go_ret
    exact ⟨by simp, B⟩
  | false =>
    go_enter Try.func45, Try.ntmps45
    go_wp2_with (go_at_call 57; refine HF.out.mono ?_; rintro e w1 ⟨rfl, hb⟩; replace B := bel_step B hb; obtain ⟨x0, x1, _⟩ := (HX1.out.later hb).cells; obtain ⟨y0, y1, _⟩ := (HX2.out.later hb).cells)
    go_ret
    exact ⟨by simp, B⟩
end Go.Proofs.Ytmlinoanpcbflaa
