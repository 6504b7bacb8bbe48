/- AutomatonSteps: the next state, by the code and by the document: the walk of the law. No condition. -/
import Derived.Test.YtehmbnloplamaaaZAuU
import Derived.Test.YtehmbnloplamaaaZgAu
namespace Go.Proofs.Ytehmbnloplamaaa
open Go.RowKit
set_option linter.unusedVariables false
open Tr Au
set_option maxRecDepth 100000 in
set_option maxHeartbeats 4000000 in
theorem automatonSteps_walk (a0 : Option Addr) (len0 cap0 : Nat) (raw : Bool) (a1 : Int) (a2 : Int) (w : World) (w0 : IsRows w a0 len0 cap0) (w2 : (Lit.int .i64 a1).wf = true) (w3 : (Lit.int .u64 a2).wf = true) :
    Calls Try.prog 4 #[.slice a0 len0 cap0, .bool raw, .int .i64 a1, .int .u64 a2] w fun e w' => e = .returned (.bool true) ∧ Below w.heap.size w w' := by
  obtain ⟨A, N, C, Z, hat⟩ := isrows_at w0
  obtain ⟨L, W, hT, hI, hl1, hl2, hw8, hd5, hx5, hB⟩ := begin13_use (cap := cap0) hat (isrows_len w0) raw
  have HBG := Lib.hid hB
  unfold BegL at HBG
  have HIW := Lib.hid hI
  have HTD := Lib.hid hd5
  have HWS := Lib.hid hx5
  obtain ⟨nl, hnl⟩ : ∃ nl, L.length = nl := ⟨_, rfl⟩
  obtain ⟨nw, hnw⟩ : ∃ nw, W.length = nw := ⟨_, rfl⟩
  have HNL := Lib.hid hnl
  have HNW := Lib.hid hnw
  rw [hnl] at HBG
  rw [hnw] at HBG
  have hnl9 : nl ≤ 41 := by omega
  have hnl1 : 1 ≤ nl := by omega
  have hnw9 : nw ≤ 8 := by omega
  clear w0 hat hT hnl hnw hI hl1 hl2 hw8 hd5 hx5 hB
  go_enter Try.func4, Try.ntmps4
  go_upto_region 2 with (go_at_call 10; refine HBG.out.mono ?_; rintro e w1 ⟨B, ab, sb, rv, la, lc, vs, wa, wc, us, rfl, hT, hrl, hrw, hb⟩; have HT := Lib.hid hT; have HRL := Lib.hid hrl; have HRW := Lib.hid hrw; have HB := Lib.hid hb; clear hT hrl hrw hb)
  have S4 := Tv.new w1 (.slice la nl lc) (.slice wa nw wc)
  have hb4 := box1T w1 (.cells #[.slice la nl lc, .slice wa nw wc] 25)
  obtain ⟨W2, hW2⟩ : ∃ W2, w1.alloc (.cells #[.slice la nl lc, .slice wa nw wc] 25) = W2 := ⟨_, rfl⟩
  rw [hW2] at S4 hb4
  try rw [hW2]
  obtain ⟨b4, hb4e⟩ : ∃ b4, w1.heap.size = b4 := ⟨_, rfl⟩
  have HT2 := Lib.hid (HT.out.later hb4)
  have HRL2 := Lib.hid (HRL.out.later hb4)
  have HRW2 := Lib.hid (HRW.out.later hb4)
  have HB2 := Lib.hid (bel_step HB.out hb4)
  rw [hb4e] at S4
  try rw [hb4e]
  have HS4 := Lib.hid S4
  clear S4 hb4 hb4e hW2 HT HRW HRL
  go_wp2_with fail
  go_loopw [11] (fun s9 wr => ∃ j : Nat, j ≤ nl + 2 ∧ s9 = .int .i64 ((j : Int) - 1) ∧ Below W2.heap.size W2 wr) (fun s9 _ => nl + 2 - (intOf s9 + 1).toNat)
  case atStart => exact ⟨0, by omega, by simp, Below.refl _ _⟩
  case round =>
    obtain ⟨j, hj, rfl, hb⟩ := hrel
    have HB := Lib.hid hb
    obtain ⟨x0, x1⟩ := (HS4.out.later hb).cells
    clear hb
    obtain ⟨k, hk⟩ : ∃ k, (j : Int) - 1 = k := ⟨_, rfl⟩
    rw [hk]
    have HK := Lib.hid hk
    by_cases hlt : k ≤ (nl : Int)
    · have hj2 : j ≤ nl + 1 := by omega
      clear hk
      obtain ⟨W6, rfl⟩ : ∃ W6, W6 = wr := ⟨_, rfl⟩
      go_wp2_with fail
      go_loopw [12] (fun s10 wz => ∃ q : Nat, q ≤ 4 ∧ s10 = .int .u64 q ∧ Below W6.heap.size W6 wz) (fun s10 _ => 4 - (intOf s10).toNat)
      case atStart => exact ⟨0, by omega, rfl, Below.refl _ _⟩
      case round =>
        obtain ⟨q, hq, rfl, hbz⟩ := hrel
        have HBZ := Lib.hid hbz
        have HBr := Lib.hid (bel_step HB.out hbz)
        clear hbz
        by_cases hqt : q < 4
        · have hqI : (q : Int) < 4 := by omega
          have hq0 : (0 : Int) ≤ (q : Int) := Int.natCast_nonneg _
          have HCa := Lib.hid (fun (W' : World) (hw : Below wr.heap.size wr W') => next_P (HT2.out.later (bel_step HBr.out hw)) HIW.out k (q : Int))
          have HCb := Lib.hid (fun (W' : World) (hw : Below wr.heap.size wr W') => refNext_tr (wa := wa) (wn := nw) (wc := wc) (lc := lc) (HRL2.out.later (bel_step HBr.out hw)) HIW.out.inv (by omega) (fun p hp => Nat.le_trans (HTD.out p hp) (by omega)) k (q : Int))
          obtain ⟨x, hx⟩ : ∃ x, nextV L k (q : Int) = x := ⟨_, rfl⟩
          rw [hx] at HCa HCb
          have e1 : (x != x) = false := by simp
          have e2 : (x == x) = true := by simp
          have hBt := (Below.refl wr.heap.size wr).drew
          have HX0 := Lib.hid (fun (W' : World) (hw : Below wr.heap.size wr W') => load_tv (HS4.out.later (bel_step HBr.out hw)))
          have HX1 := Lib.hid (fun (W' : World) (hw : Below wr.heap.size wr W') => (HS4.out.later (bel_step HBr.out hw)).cells)
          obtain ⟨z0, z1⟩ := HX1.out _ (Below.refl _ _)
          have ldz := HX0.out _ (Below.refl _ _)
          clear hx
          go_wp2_with fail
          go_region_law (first
            | (go_simp; go_at_call 21; refine (HCa.out _ hBt).mono ?_; rintro e y1 ⟨rfl, hb1⟩; replace hBt := bel_step hBt hb1; have HY1 := Lib.hid hb1; have ldy := HX0.out _ hBt; obtain ⟨y0, y1'⟩ := HX1.out _ hBt; clear hb1)
            | (go_simp; go_at_call 22; refine (HCb.out _ hBt).mono ?_; rintro e y2 ⟨rfl, hb2⟩; replace hBt := bel_step hBt hb2; clear hb2))
          all_goals
            go_wp2_with fail
            go_roundw
            case rel => exact ⟨q + 1, by omega, by go_num, bel_step HBZ.out hBt⟩
            case measure => simp [intOf]; omega
        · obtain rfl : q = 4 := by omega
          have hqI : ¬ ((4 : Nat) : Int) < 4 := by omega
          have HCa := Lib.hid (fun (W' : World) (hw : Below wr.heap.size wr W') => next_P (HT2.out.later (bel_step HBr.out hw)) HIW.out k a2)
          have HCb := Lib.hid (fun (W' : World) (hw : Below wr.heap.size wr W') => refNext_tr (wa := wa) (wn := nw) (wc := wc) (lc := lc) (HRL2.out.later (bel_step HBr.out hw)) HIW.out.inv (by omega) (fun p hp => Nat.le_trans (HTD.out p hp) (by omega)) k a2)
          obtain ⟨x, hx⟩ : ∃ x, nextV L k a2 = x := ⟨_, rfl⟩
          rw [hx] at HCa HCb
          have e1 : (x != x) = false := by simp
          have e2 : (x == x) = true := by simp
          have hBt := (Below.refl wr.heap.size wr).drew
          have HX0 := Lib.hid (fun (W' : World) (hw : Below wr.heap.size wr W') => load_tv (HS4.out.later (bel_step HBr.out hw)))
          have HX1 := Lib.hid (fun (W' : World) (hw : Below wr.heap.size wr W') => (HS4.out.later (bel_step HBr.out hw)).cells)
          obtain ⟨z0, z1⟩ := HX1.out _ (Below.refl _ _)
          have ldz := HX0.out _ (Below.refl _ _)
          clear hx
          go_wp2_with fail
          go_region_law (first
            | (go_simp; go_at_call 21; refine (HCa.out _ hBt).mono ?_; rintro e y1 ⟨rfl, hb1⟩; replace hBt := bel_step hBt hb1; have HY1 := Lib.hid hb1; have ldy := HX0.out _ hBt; obtain ⟨y0, y1'⟩ := HX1.out _ hBt; clear hb1)
            | (go_simp; go_at_call 22; refine (HCb.out _ hBt).mono ?_; rintro e y2 ⟨rfl, hb2⟩; replace hBt := bel_step hBt hb2; clear hb2))
          all_goals
            go_wp2_with fail
            go_roundw
            case rel =>
              have := HK.out
              rw [IntWalk.wrap64_in (k + 1) (by omega)]
              exact ⟨j + 1, by omega, congrArg (Value.int IntKind.i64) (by omega), bel_step HB.out (bel_step HBZ.out hBt)⟩
            case measure =>
              have := HK.out
              rw [IntWalk.wrap64_in (k + 1) (by omega)]
              simp only [intOf]; omega
    · have hj3 : j = nl + 2 := by omega
      clear hk
      have HCa := Lib.hid (fun (W' : World) (hw : Below wr.heap.size wr W') => next_P (HT2.out.later (bel_step HB.out hw)) HIW.out a1 a2)
      have HCb := Lib.hid (fun (W' : World) (hw : Below wr.heap.size wr W') => refNext_tr (wa := wa) (wn := nw) (wc := wc) (lc := lc) (HRL2.out.later (bel_step HB.out hw)) HIW.out.inv (by omega) (fun p hp => Nat.le_trans (HTD.out p hp) (by omega)) a1 a2)
      obtain ⟨x, hx⟩ : ∃ x, nextV L a1 a2 = x := ⟨_, rfl⟩
      rw [hx] at HCa HCb
      have e1 : (x != x) = false := by simp
      have e2 : (x == x) = true := by simp
      have hBt := (Below.refl wr.heap.size wr).drew
      have HX0 := Lib.hid (fun (W' : World) (hw : Below wr.heap.size wr W') => load_tv (HS4.out.later (bel_step HB.out hw)))
      have HX1 := Lib.hid (fun (W' : World) (hw : Below wr.heap.size wr W') => (HS4.out.later (bel_step HB.out hw)).cells)
      obtain ⟨z0, z1⟩ := HX1.out _ (Below.refl _ _)
      have ldz := HX0.out _ (Below.refl _ _)
      clear hx
      go_wp2_with fail
      go_region_law (first
        | (go_simp; go_at_call 21; refine (HCa.out _ hBt).mono ?_; rintro e y1 ⟨rfl, hb1⟩; replace hBt := bel_step hBt hb1; have HY1 := Lib.hid hb1; have ldy := HX0.out _ hBt; obtain ⟨y0, y1'⟩ := HX1.out _ hBt; clear hb1)
        | (go_simp; go_at_call 22; refine (HCb.out _ hBt).mono ?_; rintro e y2 ⟨rfl, hb2⟩; replace hBt := bel_step hBt hb2; clear hb2)
        | (go_simp; go_at_call 20; refine (lives13_any _).mono ?_; rintro e y3 ⟨rfl, hb3⟩; replace hBt := bel_step hBt hb3; clear hb3))
      all_goals
        go_wp2_with fail
        go_ret
        exact ⟨rfl, bel_step HB2.out (bel_step HB.out hBt)⟩
end Go.Proofs.Ytehmbnloplamaaa
