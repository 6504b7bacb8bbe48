/- TrieLevels: all nodes by their depth, each with its parent, by the code and by the document: the walk of the law. No condition. -/
import Derived.Test.YtehmbnloplamaaaTrT
import Derived.Test.YtehmbnloplamaaaTrU
import Derived.Test.YtehmbnloplamaaaAuM
import Derived.Test.YtehmbnloplamaaaTrLg
import Derived.Test.YtehmbnloplamaaaTrY
namespace Go.Proofs.Ytehmbnloplamaaa
open Go.RowKit
set_option linter.unusedVariables false
attribute [local go_sem] Oper.semAt_some
open Tr
theorem isrow_laterL {k : IntKind} {w w' : World} {a : Option Addr} {len cap : Nat} {zs : List Int} (h : IsRow k w a len cap zs) (hb : Below w.heap.size w w') : IsRow k w' a len cap zs := by
  rcases h with h | ⟨x, h1, h2, h3, h4, h5, h6⟩
  · exact .inl h
  · exact .inr ⟨x, h1, h2, h3, h4, fun i hi => cell_later hb (h5 i hi), h6⟩
theorem rowsat_laterL {w w' : World} {a : Option Addr} {q : Nat} {A : Nat → Option Addr} {N C : Nat → Nat} {Z : Nat → List Int} (h : RowsAt w a q A N C Z) (hb : Below w.heap.size w w') : RowsAt w' a q A N C Z := fun r hr => by
  obtain ⟨⟨b, o, e, hc⟩, h2⟩ := h r hr
  exact ⟨⟨b, o, e, cell_later hb hc⟩, isrow_laterL h2 hb⟩
theorem cell_putObj {w : World} {D b o : Nat} {v : Value} {x : Obj} (hc : w.cell? ⟨b, o, none⟩ = some v) (hne : b ≠ D) : (w.putObj D x).cell? ⟨b, o, none⟩ = some v :=
  (World.cell?_of_block (w := w) (a := ⟨b, o, none⟩) (World.putObj_heap_other hne)).trans hc
set_option maxRecDepth 100000 in
set_option maxHeartbeats 4000000 in
theorem trieLevels_walk (a0 : Option Addr) (len0 cap0 : Nat) (a1 : Bool) (w : World) (w0 : IsRows w a0 len0 cap0) :
    Calls Try.prog 9 #[.slice a0 len0 cap0, .bool a1] w fun e w' => e = .returned (.bool true) ∧ Below w.heap.size w w' := by
  obtain ⟨A, N, C, Z, hat⟩ := isrows_at w0
  have hb0 := box1T w (.cells #[.bool false] 4)
  have s0 := Boxed.new w 4 (.bool false)
  obtain ⟨W0, hW0⟩ : ∃ W0, w.alloc (.cells #[.bool false] 4) = W0 := ⟨_, rfl⟩
  rw [hW0] at hb0 s0
  replace hat := rowsat_laterL hat hb0
  have HB0 := Lib.hid hb0
  have HS0 := Lib.hid s0
  have HSZ0 : Hid (W0.heap.size = w.heap.size + 1) := Lib.hid (by rw [← hW0]; simp)
  have HBG := Lib.hid (begin_tr (cap := cap0) hat (isrows_len w0) a1)
  have hos := ownV_short a1 N Z (min len0 8)
  have hol := ownV_len a1 N Z (min len0 8)
  obtain ⟨own, hown⟩ : ∃ own, ownV a1 N Z (min len0 8) = own := ⟨_, rfl⟩
  rw [hown] at HBG hos hol
  have HIW := Lib.hid (treeOf_iw own)
  have htl := treeOf_len own hos
  have HTD := Lib.hid (paths_short hos)
  have HWS : Hid (∀ x ∈ (treeOf own).2, x.length ≤ 5) := Lib.hid (fun x hx => by
    rw [treeOf_words] at hx; exact hos x (List.mem_filter.1 hx).1)
  unfold BegR at HBG
  obtain ⟨T, hT⟩ : ∃ T, treeOf own = T := ⟨_, rfl⟩
  rw [hT] at HBG HIW htl HTD HWS
  obtain ⟨L, W⟩ := T
  simp only at HBG HIW htl HTD HWS
  obtain ⟨nl, hnl⟩ : ∃ nl, L.length = nl := ⟨_, rfl⟩
  obtain ⟨nw, hnw⟩ : ∃ nw, W.length = nw := ⟨_, rfl⟩
  have HNL := Lib.hid hnl
  have HNW := Lib.hid hnw
  rw [hnl] at HBG
  rw [hnw] at HBG
  have hnl9 : nl ≤ 41 := by omega
  have hnl1 : 1 ≤ nl := by have := HIW.out.inv.pos; omega
  have hnw9 : nw ≤ 8 := by omega
  clear hb0 s0 w0 hat hos hol hown htl hT hnl hnw
  refine calls_of_marks Try.func9 rfl ?_
  simp only [Try.ntmps9, List.size_toArray, List.length_cons, List.length_nil, Nat.reduceAdd, Nat.reduceSub, Array.replicate_succ, Array.replicate_zero, List.push_toArray, List.append_toArray, List.nil_append, List.cons_append]
  go_upto_region 1 with fail
  try rw [hW0]
  have c0 := HS0.out.cell
  obtain ⟨b0, hb0e⟩ : ∃ b0, w.heap.size = b0 := ⟨_, rfl⟩
  have HB0E := Lib.hid hb0e
  rw [hb0e] at c0 HS0 HSZ0
  try rw [hb0e]
  clear hW0 hb0e
  go_upto_region 2 with (go_at_call 37; refine HBG.out.mono ?_; rintro e w1 ⟨B, tb, nb, nc, rv, la, lc, vs, wa, wc, us, rfl, hT, hrl, hrw, hB, hb⟩; have HT := Lib.hid hT; have HRL := Lib.hid hrl; have HRW := Lib.hid hrw; have HBB := Lib.hid hB; have HB := Lib.hid hb; clear hT hrl hrw hB hb)
  have S4 := Tv.new w1 (.slice la nl lc) (.slice wa nw wc)
  have hb4 := box1T w1 (.cells #[.slice la nl lc, .slice wa nw wc] 25)
  obtain ⟨W2, hW2⟩ : ∃ W2, w1.alloc (.cells #[.slice la nl lc, .slice wa nw wc] 25) = W2 := ⟨_, rfl⟩
  rw [hW2] at S4 hb4
  try rw [hW2]
  obtain ⟨b4, hb4e⟩ : ∃ b4, w1.heap.size = b4 := ⟨_, rfl⟩
  have HT2 := Lib.hid (HT.out.later hb4)
  have HRL2 := Lib.hid (HRL.out.below hb4).now
  have HRW2 := Lib.hid (HRW.out.below hb4).now
  have HB2 := Lib.hid (bel_step HB.out hb4)
  have HC0 := Lib.hid (cell_later HB2.out c0)
  clear c0
  rw [hb4e] at S4
  try rw [hb4e]
  have HS4 := Lib.hid S4
  clear S4 hb4 hb4e hW2 HT HRW HRL
  have HLR := Lib.hid (refLevels_tr (wa := wa) (wn := nw) (wc := wc) (lc := lc) HRL2.out HIW.out.inv (by omega))
  unfold Au.LevsR at HLR
  obtain ⟨x0, x1⟩ := HS4.out.cells
  have hno := Au.order_len HIW.out.inv
  obtain ⟨no, hnoe⟩ : ∃ no, (Au.order L).length = no := ⟨_, rfl⟩
  have HNO := Lib.hid hnoe
  rw [hnoe] at hno HLR
  have hno9 : no ≤ 1000 := by rw [hno, HNL.out]; omega
  clear hnoe hno
  go_upto_region 5 with (go_at_call 38; refine HLR.out.mono ?_; rintro e w3 ⟨aw, cw, rfl, hown, hb3⟩; have HW3 := Lib.hid hown.sl; have HB3 := Lib.hid hb3; clear hown hb3)
  have hb7 := box1T w3 (.cells #[.slice aw no cw] 29)
  have s7 := Boxed.new w3 29 (.slice aw no cw)
  obtain ⟨W4, hW4⟩ : ∃ W4, w3.alloc (.cells #[.slice aw no cw] 29) = W4 := ⟨_, rfl⟩
  rw [hW4] at hb7 s7
  try rw [hW4]
  obtain ⟨b7, hb7e⟩ : ∃ b7, w3.heap.size = b7 := ⟨_, rfl⟩
  have HW4 := Lib.hid (HW3.out.below hb7)
  rw [ints_lenL, HNO.out] at HW4
  have HB4 := Lib.hid (bel_step HB3.out hb7)
  rw [hb7e] at s7
  try rw [hb7e]
  have HS7 := Lib.hid s7
  clear hb7 s7 hW4 hb7e HW3 x0 x1 HLR
  have HLV := Lib.hid (levels_tr (HT2.out.later HB4.out) HIW.out.inv (by rw [HNL.out]; omega))
  unfold LevR at HLV
  rw [HNO.out] at HLV
  go_upto_region 6 with (go_at_call 39; refine HLV.out.mono ?_; rintro e w5 ⟨o, x, al, cl, rfl, ho, hx, co, cx, hown, hb5, hla⟩; have HOW := Lib.hid hown; have HB5 := Lib.hid hb5; have HLA := Lib.hid hla; have HCO := Lib.hid co; have HCX := Lib.hid cx; clear hown hb5 hla co cx ho hx)
  have hfn : ∀ W : World, Sem.run Try.prog (binOp BinOp.eql 67 (Value.func (Fn.func 55) #[] #[.pointer (some ⟨o, 0, none⟩), .pointer (some ⟨x, 0, none⟩)]) Value.nilFunc) W = .ok (.bool false) W := fun W => by rfl
  have hfn' := hfn w5
  go_upto_region 9 with fail
  have hb9 := box1T w5 (.cells #[.int .i64 0] 3)
  have s9 := Boxed.new w5 3 (.int .i64 0)
  obtain ⟨W6, hW6⟩ : ∃ W6, w5.alloc (.cells #[.int .i64 0] 3) = W6 := ⟨_, rfl⟩
  have hs6 : W6.heap.size = w5.heap.size + 1 := by rw [← hW6]; simp
  rw [hW6] at hb9 s9
  try rw [hW6]
  obtain ⟨b9, hb9e⟩ : ∃ b9, w5.heap.size = b9 := ⟨_, rfl⟩
  have HB9E := Lib.hid hb9e
  rw [hb9e] at s9 hs6
  try rw [hb9e]
  have HS9 := Lib.hid s9
  have HB6 := Lib.hid hb9
  have HS6 := Lib.hid hs6
  have HB25 := Lib.hid (bel_step HB4.out HB5.out)
  have HT6 := Lib.hid ((HT2.out.later HB25.out).later HB6.out)
  clear hb9 s9 hW6 hb9e hs6
  have hol : o < w5.heap.size := block_lt_of_cell HCO.out
  have hxl : x < w5.heap.size := block_lt_of_cell HCX.out
  have hfl : ∀ g, Fp tb nb L.length rv g → g < w5.heap.size := fun g hg => (TrX.lt (HT2.out.later HB25.out) hg).2
  have hal : ∀ g, al = some ⟨g, 0, none⟩ → g < w5.heap.size := fun g hg => (HLA.out g hg).2
  have HZL : Hid (∀ k, Zl o x al tb nb L.length rv k → k < b9) := Lib.hid fun k hk => by
    rw [← HB9E.out]
    rcases hk with e | e | e | e
    · omega
    · omega
    · exact hal k e
    · exact hfl k e
  clear hol hxl hfl hal
  go_wp2_with fail
  refine range_wpN (gf := 55) (lb := #[.pointer (some ⟨o, 0, none⟩), .pointer (some ⟨x, 0, none⟩)]) rfl (enters_of Try.func55 (by kernel_rfl) rfl)
    (levels_gives (B0 := W4.heap.size) HT6.out (by rw [HNO.out]; exact cell_later HB6.out HCO.out) (cell_later HB6.out HCX.out) (HOW.out.later HB6.out) HIW.out.inv (by rw [HNL.out]; omega) 2 (by omega))
    (fun k e => e.elim) (fun e => by have := HZL.out _ e; have := HS6.out; omega) (fun e => by have := HZL.out _ e; have := HS6.out; omega) (fun _ => rfl)
    (fun pre A => Boxed A b9 3 (.int .i64 (pre.length : Int)) ∧ Below b9 w5 A) (fun _ _ _ => False)
    ?hI (fun _ _ _ _ h _ => h) ⟨HS9.out, by rw [← HB9E.out]; exact HB6.out⟩ ?_ ?assign ?body ?done (fun _ _ _ _ h _ => h.elim)
  case hI =>
    rintro pre A B' ⟨h1, h2⟩ hs
    have h6 := HS6.out
    have h5 := HB9E.out
    have hn : ∀ k, k ≤ b9 → ¬ (Zy W6 k ∨ k = W6.heap.size ∨ k = W6.heap.size + 1) := fun k hk e => by
      rcases e with e | e | e
      · exact e
      · omega
      · omega
    exact ⟨(hs.block b9 h1.lt (hn b9 (Nat.le_refl _))).trans h1, h2.trans (hs.below (by have := h2.size; omega) fun k hk => hn k (by omega))⟩
  case assign =>
    intro l' j W' K hK
    gi_wp2
    exact hK
  case body =>
    rintro l' pre j rest W' hx hlt9 ⟨hs9, hB⟩
    have hlen : pre.length < no := by
      have := congrArg List.length hx
      rw [HNO.out, List.length_append, List.length_cons] at this
      omega
    have hjI : (j : Int) = (Au.ints (Au.order L)).getD pre.length 0 := by
      rw [gD (by rw [ints_lenL, HNO.out]; exact hlen)]
      simp [Au.ints, hx]
    have HBW : Hid (Below w5.heap.size w5 W') := Lib.hid (by rw [HB9E.out]; exact hB)
    have HB2W := Lib.hid (bel_step HB25.out HBW.out)
    obtain ⟨x0, x1⟩ := (HS4.out.later HB2W.out).cells
    have c7 := cell_later (bel_step HB5.out HBW.out) HS7.out.cell
    obtain ⟨bg, og, rfl, hcg⟩ := slk_at (HW4.out.below (bel_step HB5.out HBW.out)) (by omega)
    have cg := hcg _ hlen
    rw [← hjI] at cg
    obtain ⟨np, hnp⟩ : ∃ np, pre.length = np := ⟨_, rfl⟩
    have HNP := Lib.hid hnp
    rw [hnp] at hs9 hlen cg
    have hc9 := hs9.cell
    have hnI : (np : Int) < (no : Int) := by omega
    have hnI2 : ¬ (no : Int) ≤ (np : Int) := by omega
    have hn0 : (0 : Int) ≤ (np : Int) := Int.natCast_nonneg _
    have HPA := Lib.hid (refParent_tr (wa := wa) (wn := nw) (wc := wc) (lc := lc) (HRL2.out.later HB2W.out) HIW.out.inv (by omega) (j : Int))
    obtain ⟨pv, hpv⟩ : ∃ pv, parV L (j : Int) = pv := ⟨_, rfl⟩
    rw [hpv] at HPA
    rw [hpv]
    have ejj : ((j : Int) != (j : Int)) = false := by simp
    have epp : (pv != pv) = false := by simp
    have HS := Lib.hid hs9
    have hws := HBW.out.size
    have hwe := HB9E.out
    clear hx hjI hB hcg hnp hpv hs9
    gi_wp2_with (refine ⟨trivial, ?_⟩; gi_at_call 40; refine (((callsIn_wide (n := _)).2 HPA.out).inRound l').mono ?_; rintro e w7 ⟨rfl, hb7⟩; have HB7 := Lib.hid hb7; have s9 : Boxed w7 b9 3 (.int .i64 (np : Int)) := (hb7.block b9 HS.out.lt).trans HS.out; have c9 := s9.cell; have f9 := s9.frozen; have HS9r := Lib.hid s9; clear hb7 hc9 s9)
    have hz9 : ¬ (Zl o x al tb nb L.length rv b9 ∨ b9 = W6.heap.size ∨ b9 = W6.heap.size + 1) := by
      rintro (e | e | e)
      · have := HZL.out _ e; omega
      · have := HS6.out; omega
      · have := HS6.out; omega
    have hbe : Below w5.heap.size w5 w7 := bel_step HBW.out HB7.out
    have hle : ((pre ++ [j]).length : Int) = (np : Int) + 1 := by
      have := HNP.out
      rw [List.length_append, List.length_singleton]; omega
    refine ⟨(⟨HB7.out.size, fun k hk _ => HB7.out.block k hk⟩ : Hold _ W' w7).trans (.setCell _ hz9 _), ?_, ?_⟩
    · rw [hle]
      exact HS9r.out.set _
    · rw [hwe] at hbe
      exact hbe.setCell (by show b9 ≤ b9; omega) _
  case done =>
    rintro W' ⟨h1, h2⟩ hd
    have HBW : Hid (Below w5.heap.size w5 W') := Lib.hid (by rw [HB9E.out]; exact h2)
    have h1c := h1.cell
    rw [HNO.out] at h1c
    have c7 := cell_later (bel_step HB5.out HBW.out) HS7.out.cell
    have HBA : Hid (Below W0.heap.size W0 W') := Lib.hid (bel_step HB2.out (bel_step HB25.out HBW.out))
    have s0 : Boxed W' b0 4 (.bool false) := (HBA.out.block b0 HS0.out.lt).trans HS0.out
    have HS0r := Lib.hid s0
    have HD := Lib.hid hd
    have eno : ((no : Int) == (no : Int)) = true := by simp
    clear h1 h2 s0 hd
    go_wp2_with (go_at_call 41; refine (lives12_any _).mono ?_; rintro e w8 ⟨rfl, hb8⟩; have HB8 := Lib.hid hb8; have s8 : Boxed w8 b0 4 (.bool false) := (hb8.block b0 HS0r.out.lt).trans HS0r.out; have c0 := s8.cell; have f0 := s8.frozen; have HS8 := Lib.hid s8; clear hb8 s8)
    have hne : b0 ≠ W6.heap.size := fun e => by
      have h1 := HS0.out.lt
      have h2 := HBA.out.size
      have h3 := HD.out
      have h4 := HB2.out.size
      have h5 := HB25.out.size
      have h6 := HB6.out.size
      omega
    have hd8 : (w8.setCell ⟨b0, 0, none⟩ (.bool true)).heap[W6.heap.size]? = some (.deferred (some [])) := by
      rw [Below.heap_setCell _ _ _ _ (fun e => hne e.symm)]
      exact (HB8.out.block _ (Array.getElem?_eq_some_iff.1 HD.out).1).trans HD.out
    have s9 := HS8.out.set (.bool true)
    have s10 : Boxed ((w8.setCell ⟨b0, 0, none⟩ (.bool true)).putObj W6.heap.size (.deferred none)) b0 4 (.bool true) := (World.putObj_heap_other hne).trans s9
    have c10 := s10.cell
    refine ret_mark hd8 (ret_cell1 rfl _ _ b0 (.bool true) rfl (by simp [go_sem, c10])) ⟨rfl, Below.putObj ?_ ?_ _⟩
    · have hb := bel_step HB0.out (bel_step HBA.out HB8.out)
      have h9 := HB0E.out
      exact hb.setCell (by show w.heap.size ≤ b0; omega) _
    · have h9 := HB0E.out
      have h1 := HS0.out.lt
      have h4 := HB2.out.size
      have h5 := HB25.out.size
      have h6 := HB6.out.size
      omega
end Go.Proofs.Ytehmbnloplamaaa
