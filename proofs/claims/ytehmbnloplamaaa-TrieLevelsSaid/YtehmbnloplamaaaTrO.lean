/- A word put into the document's tree. Condition: few paths, words of few numbers. -/
import Derived.Test.YtehmbnloplamaaaTrN
import Derived.Test.YtehmbnloplamaaaTrB
namespace Go.Proofs.Ytehmbnloplamaaa
open Go.RowKit
set_option linter.unusedVariables false
open Tr
/-- what a document's tree with a word more is: its slices, by what they were -/
def OldNew (w w' : World) (old v : Value) (vs vs' : List Value) : Prop := (v = old ∧ vs' = vs) ∨ w'.ownsRow w.heap.size 43 1 v vs'.length vs'
def RPutR (w : World) (la : Option Addr) (ln lc : Nat) (vs : List Value) (wa : Option Addr) (wn : Nat) (us : List Value) (word : Value) (L W : LL) (l : List Int) (e : Ending) (w' : World) : Prop :=
  ∃ v1 v2 vs', e = .returned (.agg #[v1, v2]) ∧ OldNew w w' (.slice la ln lc) v1 vs vs' ∧ w'.ownsRow w.heap.size 43 1 v2 (wn + 1) (us ++ [word]) ∧ (∀ w'', OkV w'' vs L → Ok1 w'' word l → OkV w'' vs' (putL L l)) ∧ Below w.heap.size w w'
theorem bel_und {A B : World} (h : Below A.drew.heap.size A.drew B) : Below A.heap.size A B := ⟨h.os, h.tape, h.output, h.size, h.block⟩
theorem grown_trans2 {w w' : World} {o : Obj} {row : Option Nat} (h : (w.alloc o).grownBy w' row) : w.grownBy w' row :=
  ⟨h.os, h.tape, h.output, Nat.le_trans (by simp) h.size, fun k hk hne => (h.block k (by simp; omega) hne).trans (heap_alloc_old w o k hk)⟩
theorem tv_grown {w w' : World} {b : Nat} {u v : Value} {row : Option Nat} (h : Tv w b u v) (hg : w.grownBy w' row) (hr : ∀ k, row = some k → k ≠ b) : Tv w' b u v := (hg.block b h.lt (fun e => hr b e.symm rfl)).trans h
theorem cv_later {w w' : World} {a : Option Addr} {m : Nat} {us : List Value} (h : CellsV w a m us) (hb : Below w.heap.size w w') : CellsV w' a m us := by
  refine ⟨h.1, ?_⟩
  rcases h.2 with h0 | ⟨b, o, e, hc⟩
  · exact .inl h0
  · exact .inr ⟨b, o, e, fun i hi => cell_later hb (hc i hi)⟩
theorem cv_one (w : World) (t : TypeId) (v : Value) : CellsV (w.alloc (.cells #[v] t)) (some ⟨w.heap.size, 0, none⟩) 1 [v] := by
  refine ⟨rfl, .inr ⟨_, _, rfl, fun i hi => ?_⟩⟩
  obtain rfl : i = 0 := by omega
  exact (Boxed.new w t v).cell
theorem ok1_take {w : World} {pa : Option Addr} {pn pc : Nat} {l : List Int} {k : Nat} (h : Ok1 w (.slice pa pn pc) l) (hl : l.length = pn) (hk : k ≤ pn) : Ok1 w (.slice pa k pc) (l.take k) := by
  obtain ⟨a, c, e, h1, h2, h3⟩ := h
  injection e with e1 e2 e3
  subst e1 e3
  have hlk : (l.take k).length = k := by rw [List.length_take]; omega
  exact ⟨pa, pc, by rw [hlk], by rw [hlk]; exact slk_take h1 (by omega), by omega, h3⟩
set_option maxRecDepth 100000 in
set_option maxHeartbeats 1000000 in
theorem refPut_tr {w : World} {la wa pa : Option Addr} {ln lc wn wc pn pc : Nat} {vs us : List Value} {L W : LL} {l : List Int} (h : Rv w la ln vs L) (hw : Rv w wa wn us W) (hI : Inv L) (hln : ln ≤ 1000) (hwn : wn ≤ 1000) (hl : Ok1 w (.slice pa pn pc) l) (hll : l.length = pn) (hpn : pn ≤ 100) :
    Calls Try.prog 33 #[.agg #[.slice la ln lc, .slice wa wn wc], .slice pa pn pc] w (RPutR w la ln lc vs wa wn us (.slice pa pn pc) L W l) := by
  obtain ⟨i0, hi, hz0, hz1, hz2⟩ := info_parts Try.info_pxs
  have hb0 := box1T w (.cells #[.slice la ln lc, .slice wa wn wc] 25)
  have hb1 := box1T (w.alloc (.cells #[.slice la ln lc, .slice wa wn wc] 25)) (.cells #[.slice none 0 0, .slice none 0 0] 25)
  have S0 := (Tv.new w (.slice la ln lc) (.slice wa wn wc)).later hb1
  have S1 := Tv.new (w.alloc (.cells #[.slice la ln lc, .slice wa wn wc] 25)) (.slice none 0 0) (.slice none 0 0)
  rw [World.size_alloc] at S1
  have hB : Below w.heap.size w _ := bel_step hb0 hb1
  obtain ⟨W0, hW0⟩ : ∃ W0, (w.alloc (.cells #[.slice la ln lc, .slice wa wn wc] 25)).alloc (.cells #[.slice none 0 0, .slice none 0 0] 25) = W0 := ⟨_, rfl⟩
  rw [hW0] at S0 S1 hB
  have hsz : W0.heap.size = w.heap.size + 2 := by rw [← hW0]; simp
  have HB := Lib.hid hB
  have HS0 := Lib.hid S0
  have HS1 := Lib.hid S1
  have HSZ := Lib.hid hsz
  have HR := Lib.hid h
  have HRW := Lib.hid hw
  have HI := Lib.hid hI
  have HL := Lib.hid hl
  have HLL := Lib.hid hll
  have hlc : ∀ {w'}, Below w.heap.size w w' → Ok1 w' (.slice pa pn pc) l := fun hb => by
    obtain ⟨a, c, e, h1, h2, h3⟩ := HL.out
    exact ⟨a, c, e, h1.below hb, h2, h3⟩
  have hsl : SlK .u64 w pa pn l := by
    obtain ⟨a, c, e, h1, h2, h3⟩ := hl
    injection e with e1 e2 e3
    subst e1
    rwa [← e2] at h1
  have hpc : pn ≤ pc ∧ pc ≤ 9223372036854775807 := by
    obtain ⟨a, c, e, h1, h2, h3⟩ := hl
    injection e with e1 e2 e3
    omega
  have HSL := Lib.hid hsl
  have HOL := Lib.hid (fun w' (hb : Below w.heap.size w w') => hlc hb)
  obtain ⟨hpc1, hpc2⟩ := hpc
  clear h hw hI hl hll hlc hsl hb0 hb1 S0 S1 hB
  go_enter Try.func33, Try.ntmps33
  go_upto_region 1 with fail
  try rw [hW0]
  clear hW0
  go_wp2_with fail
  go_loopw [5] (fun s5 wr => ∃ (k : Nat) (v1 : Value) (vs' : List Value), k ≤ pn ∧ s5 = .int .i64 ((k + 1 : Nat) : Int) ∧ Tv wr w.heap.size v1 (.slice wa wn wc) ∧ Tv wr (w.heap.size + 1) (.slice none 0 0) (.slice none 0 0) ∧ ((v1 = .slice la ln lc ∧ vs' = vs) ∨ wr.ownsRow (w.heap.size + 2) 43 1 v1 vs'.length vs') ∧ (∀ w'', OkV w'' vs L → Ok1 w'' (.slice pa pn pc) l → OkV w'' vs' (putK L l k)) ∧ Below w.heap.size w wr) (fun s5 _ => pn + 1 - (intOf s5).toNat)
  case atStart => exact ⟨0, _, vs, Nat.zero_le _, rfl, HS0.out, HS1.out, .inl ⟨rfl, rfl⟩, fun _ h _ => h, HB.out⟩
  case round =>
    obtain ⟨k, v1, vs', hk, rfl, hT0, hT1, hon, hok, hbr⟩ := hrel
    have HT0 := Lib.hid hT0
    have HT1 := Lib.hid hT1
    have HON := Lib.hid hon
    have HOK := Lib.hid hok
    have HBR := Lib.hid hbr
    have hokr := hok wr (HR.out.later hbr).ok (HOL.out _ hbr)
    have hvl : vs'.length = (putK L l k).length := hokr.1
    have hpk := putK_len L l k
    have hvl2 : vs'.length ≤ 1100 := by have := HR.out.rl; omega
    have hform : ∃ ad c, v1 = .slice ad vs'.length c ∧ Rv wr ad vs'.length vs' (putK L l k) := by
      rcases hon with ⟨e1, e2⟩ | h1
      · subst e1 e2
        have := HR.out.vl
        have hrv := HR.out.later hbr
        refine ⟨la, lc, by rw [this], ⟨rfl, hvl.symm, ?_, fun i hi => hokr.2 i (by rw [← hvl]; exact hi)⟩⟩
        rw [this]; exact hrv.cells
      · obtain ⟨a, c, rfl⟩ := Tr.own_form h1
        exact ⟨a, c, rfl, rv_own h1 hokr hvl.symm⟩
    obtain ⟨ad, cc, rfl, hrv⟩ := hform
    have HRV := Lib.hid hrv
    obtain ⟨nk, hnk⟩ : ∃ nk, vs'.length = nk := ⟨_, rfl⟩
    rw [hnk] at hvl hvl2 HRV HT0 HON
    have HNK := Lib.hid hnk
    have HVL := Lib.hid hvl
    rw [hnk] at hT0
    obtain ⟨t0, t1⟩ := hT0.cells
    obtain ⟨f0, f1⟩ := hT0.fr
    clear hon hok hbr hokr hrv hnk hT0 hT1 hpk hvl
    by_cases hlt : k < pn
    · have hltI : ((k + 1 : Nat) : Int) ≤ (pn : Int) := by omega
      have hk0 : (0 : Int) ≤ ((k + 1 : Nat) : Int) := Int.natCast_nonneg _
      have hkc : k + 1 ≤ pc := by omega
      have HSK := Lib.hid (slk_take HSL.out (show k + 1 ≤ pn by omega))
      have HFI := Lib.hid (fun W' (hb : Below wr.heap.size wr W') => find_tr (wa := wa) (wn := wn) (wc := wc) (lc := cc) (pc := pc) (HRV.out.later hb) (by omega) (HSK.out.below (bel_step HBR.out hb)) (by omega))
      have hstep : putK L l (k + 1) = if l.take (k + 1) ∈ putK L l k then putK L l k else putK L l k ++ [l.take (k + 1)] := rfl
      have HSTEP := Lib.hid hstep
      have HPOS := Lib.hid (findV_pos (L := putK L l k) (p := l.take (k + 1)))
      obtain ⟨x, hx⟩ : ∃ x, findV (putK L l k) (l.take (k + 1)) = x := ⟨_, rfl⟩
      rw [hx] at HFI HPOS
      obtain ⟨j, hj⟩ : ∃ j, k + 1 = j := ⟨_, rfl⟩
      rw [hj] at hltI hk0 hkc HFI HSTEP HPOS ⊢
      have HJ := Lib.hid hj
      clear hx hstep hj
      by_cases hneg : x < 0
      · have hd : decide (x < 0) = true := decide_eq_true hneg
        have HNEG := Lib.hid hneg
        have HCV := Lib.hid HRV.out.cv
        have HONE := Lib.hid HRV.out.ok.one
        have hszr := HBR.out.size
        have HSR := Lib.hid (show w.heap.size + 2 ≤ wr.heap.size by have := HT1.out.lt; omega)
        clear hneg hszr
        go_wp2_with fail
        go_region_law (go_simp; go_at_call 48; refine (HFI.out _ ((Below.refl _ _).drew)).mono ?_; rintro e w9 ⟨rfl, hb9⟩; have HB9 := Lib.hid (bel_und hb9); clear hb9)
        all_goals
          have T9 := HT0.out.later HB9.out
          have HT9 := Lib.hid T9
          have HT91 := Lib.hid (HT1.out.later HB9.out)
          obtain ⟨t0, t1⟩ := T9.cells
          have HS9 := Lib.hid (Nat.le_trans HSR.out HB9.out.size)
          clear T9
          go_upto_region 7 with (at_builtin; refine wpList_appV rfl _ _ 22 rfl (w.heap.size + 2) 43 i0 (.slice none 0 0) 24 Try.underlying22 hi hz0 hz1 hz2 rfl (.slice none 0 0) 0 [] rfl (World.ownsRow_nil _ _ _ _) ad nk cc vs' rfl (cv_later HCV.out HB9.out) HONE.out (by unfold maxLen; omega) (by omega) HS9.out ?_; intro va wa hown hgrow _; have HOWN := Lib.hid hown; have HGR := Lib.hid hgrow; clear hown hgrow)
          have hta := tv_grown HT9.out HGR.out (fun k e => by cases e)
          have HTA := Lib.hid hta
          have HTA1 := Lib.hid (tv_grown HT91.out HGR.out (fun k e => by cases e))
          obtain ⟨t0, t1⟩ := hta.cells
          obtain ⟨f0, f1⟩ := hta.fr
          have hbA : Below w.heap.size w wa := (bel_step HBR.out HB9.out).grown HGR.out (by have := HS9.out; omega) (fun k e => by cases e)
          have HBA := Lib.hid hbA
          have HSA := Lib.hid (Nat.le_trans HS9.out HGR.out.size)
          have HBO := Lib.hid (fun k hk => (HOWN.out.lt k hk).1)
          clear hta hbA
          go_wp2_with (at_builtin; refine wpList_appV rfl _ _ 22 rfl (w.heap.size + 2) 43 i0 (.slice none 0 0) 24 Try.underlying22 hi hz0 hz1 hz2 rfl va (0 + nk) _ rfl (HOWN.out.alloc _) (some ⟨wa.heap.size, 0, none⟩) 1 1 [.slice pa j pc] rfl (cv_one _ _ _) (by simp [Value.oneCell']) (by unfold maxLen; omega) (by omega) (by have := HSA.out; simp; omega) ?_; intro vb wb hown2 hgrow2 _; obtain ⟨ab, cb, evb⟩ := Tr.own_form hown2; have hg2 := grown_trans2 hgrow2; have htb := tv_grown HTA.out hg2 (fun k hk => by have := HBO.out k hk; omega); have HTB1 := Lib.hid (tv_grown HTA1.out hg2 (fun k hk => by have := HBO.out k hk; omega)); have HTB := Lib.hid htb; have HOWN2 := Lib.hid hown2; have HG2 := Lib.hid hg2; obtain ⟨t0b, t1b⟩ := htb.cells; obtain ⟨f0b, f1b⟩ := htb.fr; have HEV := Lib.hid evb; subst evb; clear hown2 hgrow2 hg2 htb)
          go_roundw
          case rel =>
            have hbb : Below w.heap.size w wb := HBA.out.grown HG2.out (by have := HSA.out; omega) (fun k e => by have := HBO.out k e; omega)
            refine ⟨k + 1, _, vs' ++ [.slice pa j pc], by omega, (by rw [show ((k + 1 + 1 : Nat) : Int) = ((j + 1 : Nat) : Int) by rw [HJ.out]]; go_num), HTB.out.set0 _, ?_, .inr ?_, ?_, hbb.setCell (by simp) _⟩
            · exact (Below.heap_setCell _ _ _ _ (by simp)).trans HTB1.out
            · have e1 : (vs' ++ [Value.slice pa j pc]).length = nk + 1 := by rw [List.length_append, List.length_singleton, HNK.out]
              have h9 := HOWN2.out
              rw [List.nil_append, Nat.zero_add] at h9
              rw [e1]
              exact own_of_block h9 fun g hg => Below.heap_setCell _ _ _ _ (by have := (h9.lt g hg).1; simp; omega)
            · intro w'' h1 h2
              have hnot : l.take j ∉ putK L l k := fun hm => by have := HPOS.out.2 hm; have := HNEG.out; omega
              rw [HJ.out, HSTEP.out, if_neg hnot]
              exact (HOK.out w'' h1 h2).snoc (ok1_take h2 HLL.out (by have := HJ.out; omega))
          case measure => simp [intOf]; omega
      · have hd : decide (x < 0) = false := decide_eq_false hneg
        have HNEG := Lib.hid hneg
        clear hneg
        go_wp2_with fail
        go_region_law (go_simp; go_at_call 48; refine (HFI.out _ ((Below.refl _ _).drew)).mono ?_; rintro e w9 ⟨rfl, hb9⟩; have HB9 := Lib.hid (bel_und hb9); clear hb9)
        all_goals
          go_wp2_with fail
          go_roundw
          case rel =>
            refine ⟨k + 1, _, vs', by omega, (by rw [show ((k + 1 + 1 : Nat) : Int) = ((j + 1 : Nat) : Int) by rw [HJ.out]]; go_num), HT0.out.later HB9.out, HT1.out.later HB9.out, ?_, ?_, bel_step HBR.out HB9.out⟩
            · rw [HNK.out]
              rcases HON.out with h1 | h1
              · exact .inl h1
              · exact .inr (own_of_block h1 fun g hg => HB9.out.block g (h1.lt g hg).2)
            · intro w'' h1 h2
              have hin : l.take j ∈ putK L l k := HPOS.out.1 (by have := HNEG.out; omega)
              rw [HJ.out, HSTEP.out, if_pos hin]
              exact HOK.out w'' h1 h2
          case measure => simp [intOf]; omega
    · obtain rfl : k = pn := by omega
      have hltI : ¬ ((k + 1 : Nat) : Int) ≤ (k : Int) := by omega
      have hpl : putL L l = putK L l k := by unfold putL; rw [HLL.out]
      have HPL := Lib.hid hpl
      have HSR := Lib.hid (show w.heap.size + 2 ≤ wr.heap.size by have := HT1.out.lt; omega)
      have HCW := Lib.hid (HRW.out.later HBR.out).cv
      have HOW := Lib.hid (HRW.out.later HBR.out).ok.one
      clear hpl
      go_upto_region 10 with (at_builtin; refine wpList_appV rfl _ _ 22 rfl (w.heap.size + 2) 43 i0 (.slice none 0 0) 24 Try.underlying22 hi hz0 hz1 hz2 rfl (.slice none 0 0) 0 [] rfl (World.ownsRow_nil _ _ _ _) wa wn wc us rfl HCW.out HOW.out (by unfold maxLen; omega) (by omega) HSR.out ?_; intro va wx hown hgrow hav; have HAV : Hid (va.ownBlock = none ∨ va.ownBlock = some wr.heap.size) := Lib.hid hav; clear hav; have HOWN := Lib.hid hown; have HGR := Lib.hid hgrow; clear hown hgrow)
      have hta := tv_grown HT0.out HGR.out (fun k e => by cases e)
      have HTA := Lib.hid hta
      have HTA1 := Lib.hid (tv_grown HT1.out HGR.out (fun k e => by cases e))
      obtain ⟨t0, t1⟩ := hta.cells
      obtain ⟨f0, f1⟩ := hta.fr
      have HBA := Lib.hid (HBR.out.grown HGR.out (by have := HSR.out; omega) (fun k e => by cases e))
      have HSA := Lib.hid (Nat.le_trans HSR.out HGR.out.size)
      have HBO := Lib.hid (fun k hk => (HOWN.out.lt k hk).1)
      clear hta
      go_upto_region 11 with (at_builtin; refine wpList_appV rfl _ _ 22 rfl (w.heap.size + 2) 43 i0 (.slice none 0 0) 24 Try.underlying22 hi hz0 hz1 hz2 rfl va (0 + wn) _ rfl (HOWN.out.alloc _) (some ⟨wx.heap.size, 0, none⟩) 1 1 [.slice pa k pc] rfl (cv_one _ _ _) (by simp [Value.oneCell']) (by unfold maxLen; omega) (by omega) (by have := HSA.out; simp; omega) ?_; intro vb wb hown2 hgrow2 _; obtain ⟨ab, cb, evb⟩ := Tr.own_form hown2; have hg2 := grown_trans2 hgrow2; have htb := tv_grown HTA.out hg2 (fun k hk => by have := HBO.out k hk; omega); have HTB1 := Lib.hid (tv_grown HTA1.out hg2 (fun k hk => by have := HBO.out k hk; omega)); have HTB := Lib.hid htb; have HOWN2 := Lib.hid hown2; have HG2 := Lib.hid hg2; obtain ⟨t0b, t1b⟩ := htb.cells; obtain ⟨f0b, f1b⟩ := htb.fr; subst evb; clear hown2 hgrow2 hg2 htb)
      have hTC := HTB.out.set1 (.slice ab (wn + 1) cb)
      have hTC1 : Tv (wb.setCell ⟨w.heap.size, 1, none⟩ (.slice ab (wn + 1) cb)) (w.heap.size + 1) (.slice none 0 0) (.slice none 0 0) := (Below.heap_setCell _ _ _ _ (by simp)).trans HTB1.out
      have hbC : Below w.heap.size w (wb.setCell ⟨w.heap.size, 1, none⟩ (.slice ab (wn + 1) cb)) := (HBA.out.grown HG2.out (by have := HSA.out; omega) (fun k e => by have := HBO.out k e; omega)).setCell (by simp) _
      have h9 := HOWN2.out
      rw [List.nil_append, Nat.zero_add] at h9
      have hOC : (wb.setCell ⟨w.heap.size, 1, none⟩ (.slice ab (wn + 1) cb)).ownsRow (w.heap.size + 2) 43 1 (.slice ab (wn + 1) cb) (wn + 1) (us ++ [.slice pa k pc]) := own_of_block h9 fun g hg => Below.heap_setCell _ _ _ _ (by have := (h9.lt g hg).1; simp; omega)
      have hON : (Value.slice ad nk cc = .slice la ln lc ∧ vs' = vs) ∨ (wb.setCell ⟨w.heap.size, 1, none⟩ (.slice ab (wn + 1) cb)).ownsRow (w.heap.size + 2) 43 1 (.slice ad nk cc) nk vs' := by
        rcases HON.out with h1 | h1
        · exact .inl h1
        · right
          refine own_of_block h1 fun g hg => ?_
          have hl1 := h1.lt g hg
          have hgr2 : g ≠ w.heap.size := by omega
          rw [Below.heap_setCell _ _ _ _ (by simpa using hgr2)]
          refine (HG2.out.block g (Nat.lt_of_lt_of_le hl1.2 HGR.out.size) (fun e => ?_)).trans (HGR.out.block g hl1.2 (fun e => by cases e))
          rcases HAV.out with e2 | e2
          · rw [e2] at e; cases e
          · rw [e2] at e; injection e with e; omega
      obtain ⟨W9, hW9⟩ : ∃ W9, wb.setCell ⟨w.heap.size, 1, none⟩ (.slice ab (wn + 1) cb) = W9 := ⟨_, rfl⟩
      rw [hW9] at hTC hTC1 hbC hOC hON
      try rw [hW9]
      have HTC := Lib.hid hTC
      have HTC1 := Lib.hid hTC1
      have HBC := Lib.hid hbC
      have HOC := Lib.hid hOC
      have HON2 := Lib.hid hON
      obtain ⟨u0, u1⟩ := hTC.cells
      obtain ⟨y0, y1⟩ := hTC1.cells
      obtain ⟨g0, g1⟩ := hTC1.fr
      clear hTC hTC1 hbC hOC hON hW9 t0 t1 f0 f1 t0b t1b f0b f1b h9
      go_wp2
      (try simp only [Exit.inBlock, Exit.then])
      refine bodyPost_ret (ret_cell1 rfl _ _ _ _ rfl (load_tv ((HTC1.out.set0 _).set1 _))) rfl ?_
      have hfin : ∀ g, g ≠ w.heap.size + 1 → ((W9.setCell ⟨w.heap.size + 1, 0, none⟩ (.slice ad nk cc)).setCell ⟨w.heap.size + 1, 1, none⟩ (.slice ab (wn + 1) cb)).heap[g]? = W9.heap[g]? := fun g hg => by
        rw [Below.heap_setCell _ _ _ _ (by simpa using hg), Below.heap_setCell _ _ _ _ (by simpa using hg)]
      refine ⟨_, _, vs', rfl, ?_, ?_, ?_, (HBC.out.setCell (by simp) _).setCell (by simp) _⟩
      · rcases HON2.out with h1 | h1
        · exact .inl h1
        · right
          rw [HNK.out]
          exact ownsRow_base (own_of_block h1 fun g hg => hfin g (by have := (h1.lt g hg).1; omega)) (by omega)
      · exact ownsRow_base (own_of_block HOC.out fun g hg => hfin g (by have := (HOC.out.lt g hg).1; omega)) (by omega)
      · rw [HPL.out]; exact HOK.out
end Go.Proofs.Ytehmbnloplamaaa
