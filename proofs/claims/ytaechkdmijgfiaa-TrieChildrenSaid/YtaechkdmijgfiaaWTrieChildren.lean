/- TrieChildren: what a node has for children, by the code and by the document: the walk of the law. No condition. -/
import Derived.Test.YtaechkdmijgfiaaTrT
import Derived.Test.YtaechkdmijgfiaaTrU
import Derived.Test.YtaechkdmijgfiaaTrZ
import Derived.Test.YtaechkdmijgfiaaTrC
namespace Go.Proofs.Ytaechkdmijgfiaa
open Go.RowKit
set_option linter.unusedVariables false
open Tr
set_option maxRecDepth 100000 in
set_option maxHeartbeats 4000000 in
theorem trieChildren_walk (a0 : Option Addr) (len0 cap0 : Nat) (a1 : Int) (a2 : Int) (w : World) (w0 : IsRows w a0 len0 cap0) (w1 : (Lit.int .i64 a1).wf = true) (w2 : (Lit.int .u64 a2).wf = true) :
    Calls Try.prog 4 #[.slice a0 len0 cap0, .int .i64 a1, .int .u64 a2] w fun e w' => e = .returned (.bool true) ∧ Below w.heap.size w w' := by
  obtain ⟨A, N, C, Z, hat⟩ := isrows_at w0
  have HBG := Lib.hid (begin_tr (cap := cap0) hat (isrows_len w0) false)
  have hos := ownV_short false N Z (min len0 8)
  have hol := ownV_len false N Z (min len0 8)
  obtain ⟨own, hown⟩ : ∃ own, ownV false N Z (min len0 8) = own := ⟨_, rfl⟩
  rw [hown] at HBG hos hol
  have HIW := Lib.hid (treeOf_iw own)
  have htl := treeOf_len own hos
  have HTD := Lib.hid (paths_short hos)
  have HWS : Hid (∀ x ∈ (treeOf own).2, x.length ≤ 5) := Lib.hid (fun x hx => by
    rw [treeOf_words] at hx; exact hos x (List.mem_filter.1 hx).1)
  unfold BegR at HBG
  obtain ⟨T, hT⟩ : ∃ T, treeOf own = T := ⟨_, rfl⟩
  rw [hT] at HBG HIW htl HTD HWS
  obtain ⟨L, W⟩ := T
  simp only at HBG HIW htl HTD HWS
  obtain ⟨nl, hnl⟩ : ∃ nl, L.length = nl := ⟨_, rfl⟩
  obtain ⟨nw, hnw⟩ : ∃ nw, W.length = nw := ⟨_, rfl⟩
  have HNL := Lib.hid hnl
  have HNW := Lib.hid hnw
  rw [hnl] at HBG
  rw [hnw] at HBG
  have hnl9 : nl ≤ 41 := by omega
  have hnl1 : 1 ≤ nl := by have := HIW.out.inv.pos; omega
  have hnw9 : nw ≤ 8 := by omega
  clear w0 hat hos hol hown htl hT hnl hnw
  go_enter Try.func4, Try.ntmps4
  go_upto_region 2 with (go_at_call 9; refine HBG.out.mono ?_; rintro e w1 ⟨B, tb, nb, nc, rv, la, lc, vs, wa, wc, us, rfl, hT, hrl, hrw, hB, hb⟩; have HT := Lib.hid hT; have HRL := Lib.hid hrl; have HRW := Lib.hid hrw; have HBB := Lib.hid hB; have HB := Lib.hid hb; clear hT hrl hrw hB hb)
  have S4 := Tv.new w1 (.slice la nl lc) (.slice wa nw wc)
  have hb4 := box1T w1 (.cells #[.slice la nl lc, .slice wa nw wc] 25)
  obtain ⟨W2, hW2⟩ : ∃ W2, w1.alloc (.cells #[.slice la nl lc, .slice wa nw wc] 25) = W2 := ⟨_, rfl⟩
  rw [hW2] at S4 hb4
  try rw [hW2]
  obtain ⟨b4, hb4e⟩ : ∃ b4, w1.heap.size = b4 := ⟨_, rfl⟩
  have HT2 := Lib.hid (HT.out.later hb4)
  have HRL2 := Lib.hid (HRL.out.below hb4).now
  have HRW2 := Lib.hid (HRW.out.below hb4).now
  have HB2 := Lib.hid (bel_step HB.out hb4)
  rw [hb4e] at S4
  try rw [hb4e]
  have HS4 := Lib.hid S4
  clear S4 hb4 hb4e hW2 HT HRW HRL
  go_wp2_with fail
  go_loopw [9] (fun s9 wr => ∃ j : Nat, j ≤ nl + 2 ∧ s9 = .int .i64 ((j : Int) - 1) ∧ Below W2.heap.size W2 wr) (fun s9 _ => nl + 2 - (intOf s9 + 1).toNat)
  case atStart => exact ⟨0, by omega, by simp, Below.refl _ _⟩
  case round =>
    obtain ⟨j, hj, rfl, hb⟩ := hrel
    have HB := Lib.hid hb
    obtain ⟨x0, x1⟩ := (HS4.out.later hb).cells
    clear hb
    obtain ⟨k, hk⟩ : ∃ k, (j : Int) - 1 = k := ⟨_, rfl⟩
    rw [hk]
    have HK := Lib.hid hk
    by_cases hlt : k ≤ (nl : Int)
    · have hj2 : j ≤ nl + 1 := by omega
      clear hk
      obtain ⟨W6, rfl⟩ : ∃ W6, W6 = wr := ⟨_, rfl⟩
      go_wp2_with fail
      go_loopw [10] (fun s10 wz => ∃ q : Nat, q ≤ 4 ∧ s10 = .int .u64 q ∧ Below W6.heap.size W6 wz) (fun s10 _ => 4 - (intOf s10).toNat)
      case atStart => exact ⟨0, by omega, rfl, Below.refl _ _⟩
      case round =>
        obtain ⟨q, hq, rfl, hbz⟩ := hrel
        have HBZ := Lib.hid hbz
        have HBr := Lib.hid (bel_step HB.out hbz)
        clear hbz
        by_cases hqt : q < 4
        · have hqI : (q : Int) < 4 := by omega
          have hq0 : (0 : Int) ≤ (q : Int) := Int.natCast_nonneg _
          have HCa := Lib.hid (fun (W' : World) (hw : Below wr.heap.size wr W') => child_tr (HT2.out.later (bel_step HBr.out hw)) HIW.out.inv k (q : Int))
          have HCb := Lib.hid (fun (W' : World) (hw : Below wr.heap.size wr W') => refChild_tr (wa := wa) (wn := nw) (wc := wc) (lc := lc) (HRL2.out.later (bel_step HBr.out hw)) (by omega) (fun p hp => Nat.le_trans (HTD.out p hp) (by omega)) k (q : Int))
          obtain ⟨x, hx⟩ : ∃ x, childV L k (q : Int) = x := ⟨_, rfl⟩
          rw [hx] at HCa HCb
          have e1 : (x != x) = false := by simp
          have e2 : (x == x) = true := by simp
          have hBt := (Below.refl wr.heap.size wr).drew
          have HX0 := Lib.hid (fun (W' : World) (hw : Below wr.heap.size wr W') => load_tv (HS4.out.later (bel_step HBr.out hw)))
          have HX1 := Lib.hid (fun (W' : World) (hw : Below wr.heap.size wr W') => (HS4.out.later (bel_step HBr.out hw)).cells)
          obtain ⟨z0, z1⟩ := HX1.out _ (Below.refl _ _)
          have ldz := HX0.out _ (Below.refl _ _)
          clear hx
          go_wp2_with fail
          go_region_law (first
            | (go_simp; go_at_call 24; refine (HCa.out _ hBt).mono ?_; rintro e y1 ⟨rfl, hb1⟩; replace hBt := bel_step hBt hb1; have HY1 := Lib.hid hb1; have ldy := HX0.out _ hBt; obtain ⟨y0, y1'⟩ := HX1.out _ hBt; clear hb1)
            | (go_simp; go_at_call 25; refine (HCb.out _ hBt).mono ?_; rintro e y2 ⟨rfl, hb2⟩; replace hBt := bel_step hBt hb2; clear hb2))
          all_goals
            go_wp2_with fail
            go_roundw
            case rel => exact ⟨q + 1, by omega, by go_num, bel_step HBZ.out hBt⟩
            case measure => simp [intOf]; omega
        · obtain rfl : q = 4 := by omega
          have hqI : ¬ ((4 : Nat) : Int) < 4 := by omega
          have HCa := Lib.hid (fun (W' : World) (hw : Below wr.heap.size wr W') => child_tr (HT2.out.later (bel_step HBr.out hw)) HIW.out.inv k a2)
          have HCb := Lib.hid (fun (W' : World) (hw : Below wr.heap.size wr W') => refChild_tr (wa := wa) (wn := nw) (wc := wc) (lc := lc) (HRL2.out.later (bel_step HBr.out hw)) (by omega) (fun p hp => Nat.le_trans (HTD.out p hp) (by omega)) k a2)
          obtain ⟨x, hx⟩ : ∃ x, childV L k a2 = x := ⟨_, rfl⟩
          rw [hx] at HCa HCb
          have e1 : (x != x) = false := by simp
          have e2 : (x == x) = true := by simp
          have hBt := (Below.refl wr.heap.size wr).drew
          have HX0 := Lib.hid (fun (W' : World) (hw : Below wr.heap.size wr W') => load_tv (HS4.out.later (bel_step HBr.out hw)))
          have HX1 := Lib.hid (fun (W' : World) (hw : Below wr.heap.size wr W') => (HS4.out.later (bel_step HBr.out hw)).cells)
          obtain ⟨z0, z1⟩ := HX1.out _ (Below.refl _ _)
          have ldz := HX0.out _ (Below.refl _ _)
          clear hx
          go_wp2_with fail
          go_region_law (first
            | (go_simp; go_at_call 24; refine (HCa.out _ hBt).mono ?_; rintro e y1 ⟨rfl, hb1⟩; replace hBt := bel_step hBt hb1; have HY1 := Lib.hid hb1; have ldy := HX0.out _ hBt; obtain ⟨y0, y1'⟩ := HX1.out _ hBt; clear hb1)
            | (go_simp; go_at_call 25; refine (HCb.out _ hBt).mono ?_; rintro e y2 ⟨rfl, hb2⟩; replace hBt := bel_step hBt hb2; clear hb2))
          all_goals
            go_wp2_with fail
            go_roundw
            case rel =>
              have := HK.out
              rw [IntWalk.wrap64_in (k + 1) (by omega)]
              exact ⟨j + 1, by omega, congrArg (Value.int IntKind.i64) (by omega), bel_step HB.out (bel_step HBZ.out hBt)⟩
            case measure =>
              have := HK.out
              rw [IntWalk.wrap64_in (k + 1) (by omega)]
              simp only [intOf]; omega
    · have hj3 : j = nl + 2 := by omega
      clear hk
      have HCa := Lib.hid (fun (W' : World) (hw : Below wr.heap.size wr W') => child_tr (HT2.out.later (bel_step HB.out hw)) HIW.out.inv a1 a2)
      have HCb := Lib.hid (fun (W' : World) (hw : Below wr.heap.size wr W') => refChild_tr (wa := wa) (wn := nw) (wc := wc) (lc := lc) (HRL2.out.later (bel_step HB.out hw)) (by omega) (fun p hp => Nat.le_trans (HTD.out p hp) (by omega)) a1 a2)
      obtain ⟨x, hx⟩ : ∃ x, childV L a1 a2 = x := ⟨_, rfl⟩
      rw [hx] at HCa HCb
      have e1 : (x != x) = false := by simp
      have e2 : (x == x) = true := by simp
      have hBt := (Below.refl wr.heap.size wr).drew
      have HX0 := Lib.hid (fun (W' : World) (hw : Below wr.heap.size wr W') => load_tv (HS4.out.later (bel_step HB.out hw)))
      have HX1 := Lib.hid (fun (W' : World) (hw : Below wr.heap.size wr W') => (HS4.out.later (bel_step HB.out hw)).cells)
      obtain ⟨z0, z1⟩ := HX1.out _ (Below.refl _ _)
      have ldz := HX0.out _ (Below.refl _ _)
      clear hx
      go_wp2_with fail
      go_region_law (first
        | (go_simp; go_at_call 24; refine (HCa.out _ hBt).mono ?_; rintro e y1 ⟨rfl, hb1⟩; replace hBt := bel_step hBt hb1; have HY1 := Lib.hid hb1; have ldy := HX0.out _ hBt; obtain ⟨y0, y1'⟩ := HX1.out _ hBt; clear hb1)
        | (go_simp; go_at_call 25; refine (HCb.out _ hBt).mono ?_; rintro e y2 ⟨rfl, hb2⟩; replace hBt := bel_step hBt hb2; clear hb2)
        | (go_simp; go_at_call 23; refine (lives12_any _).mono ?_; rintro e y3 ⟨rfl, hb3⟩; replace hBt := bel_step hBt hb3; clear hb3))
      all_goals
        go_wp2_with fail
        go_ret
        exact ⟨rfl, bel_step HB2.out (bel_step HB.out hBt)⟩
end Go.Proofs.Ytaechkdmijgfiaa
