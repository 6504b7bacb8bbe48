/- TriePuts: what is told of each node, by the code and by the document: the walk of the law. No condition. -/
import Derived.Test.YtaechkdmijgfiaaTrT
import Derived.Test.YtaechkdmijgfiaaTrU
import Derived.Test.YtaechkdmijgfiaaTrY
import Derived.Test.YtaechkdmijgfiaaTrWr
import Derived.Test.YtaechkdmijgfiaaTrKd
import Derived.Test.YtaechkdmijgfiaaTrI
import Derived.Test.YtaechkdmijgfiaaTrH
import Derived.Test.YtaechkdmijgfiaaTrE
import Derived.Test.YtaechkdmijgfiaaSamU
import Derived.Test.YtaechkdmijgfiaaSamI
namespace Go.Proofs.Ytaechkdmijgfiaa
open Go.RowKit
set_option linter.unusedVariables false
open Tr
theorem wordV_at {L W : LL} {i : Nat} (hi : i < W.length) : wordV L W i = findV L (W.getD i []) := by
  unfold wordV; rw [if_neg (by unfold out; omega)]; simp
theorem slot_px {w w' : World} {B : Nat} {v : Value} {n : Nat} {l : List Int} (h : w.ownsRow B 43 1 v n (l.map (Value.int .u64))) : ∃ a c, v = .slice a n c ∧ SlK .u64 w a n l := by
  have hl : l.length = n := by have := h.1; rw [List.length_map] at this; omega
  obtain ⟨a, c, e, ho, _⟩ := ownK_row hl h
  exact ⟨a, c, e, by rw [← hl]; exact ho.sl⟩
theorem slot_int {w : World} {B : Nat} {v : Value} {n : Nat} {l : List Int} (h : w.ownsRow B 3 1 v n (l.map (Value.int .i64))) : ∃ a c, v = .slice a n c ∧ SlK .i64 w a n l := by
  have hl : l.length = n := by have := h.1; rw [List.length_map] at this; omega
  obtain ⟨a, c, e, ho, _⟩ := ownK_row hl h
  exact ⟨a, c, e, by rw [← hl]; exact ho.sl⟩
set_option maxRecDepth 100000 in
set_option maxHeartbeats 4000000 in
theorem triePuts_walk (a0 : Option Addr) (len0 cap0 : Nat) (a1 : Bool) (a2 : Int) (w : World) (w0 : IsRows w a0 len0 cap0) (w2 : (Lit.int .i64 a2).wf = true) :
    Calls Try.prog 3 #[.slice a0 len0 cap0, .bool a1, .int .i64 a2] w fun e w' => e = .returned (.bool true) ∧ Below w.heap.size w w' := by
  obtain ⟨A, N, C, Z, hat⟩ := isrows_at w0
  have HBG := Lib.hid (begin_tr (cap := cap0) hat (isrows_len w0) a1)
  have hos := ownV_short a1 N Z (min len0 8)
  have hol := ownV_len a1 N Z (min len0 8)
  obtain ⟨own, hown⟩ : ∃ own, ownV a1 N Z (min len0 8) = own := ⟨_, rfl⟩
  rw [hown] at HBG hos hol
  have HIW := Lib.hid (treeOf_iw own)
  have htl := treeOf_len own hos
  have HTD := Lib.hid (paths_short hos)
  have HWS : Hid (∀ x ∈ (treeOf own).2, x.length ≤ 5) := Lib.hid (fun x hx => by
    rw [treeOf_words] at hx; exact hos x (List.mem_filter.1 hx).1)
  unfold BegR at HBG
  obtain ⟨T, hT⟩ : ∃ T, treeOf own = T := ⟨_, rfl⟩
  rw [hT] at HBG HIW htl HTD HWS
  obtain ⟨L, W⟩ := T
  simp only at HBG HIW htl HTD HWS
  obtain ⟨nl, hnl⟩ : ∃ nl, L.length = nl := ⟨_, rfl⟩
  obtain ⟨nw, hnw⟩ : ∃ nw, W.length = nw := ⟨_, rfl⟩
  have HNL := Lib.hid hnl
  have HNW := Lib.hid hnw
  rw [hnl] at HBG
  rw [hnw] at HBG
  have hnl9 : nl ≤ 41 := by omega
  have hnl1 : 1 ≤ nl := by have := HIW.out.inv.pos; omega
  have hnw9 : nw ≤ 8 := by omega
  clear w0 hat hos hol hown htl hT hnl hnw
  go_enter Try.func3, Try.ntmps3
  go_upto_region 2 with (go_at_call 9; refine HBG.out.mono ?_; rintro e w1 ⟨B, tb, nb, nc, rv, la, lc, vs, wa, wq, us, rfl, hT, hrl, hrw, hB, hb⟩; have HT := Lib.hid hT; have HRL := Lib.hid hrl; have HRW := Lib.hid hrw; have HBB := Lib.hid hB; have HB := Lib.hid hb; clear hT hrl hrw hB hb)
  have S4 := Tv.new w1 (.slice la nl lc) (.slice wa nw wq)
  have hb4 := box1T w1 (.cells #[.slice la nl lc, .slice wa nw wq] 25)
  obtain ⟨W2, hW2⟩ : ∃ W2, w1.alloc (.cells #[.slice la nl lc, .slice wa nw wq] 25) = W2 := ⟨_, rfl⟩
  rw [hW2] at S4 hb4
  try rw [hW2]
  obtain ⟨b4, hb4e⟩ : ∃ b4, w1.heap.size = b4 := ⟨_, rfl⟩
  have HT2 := Lib.hid (HT.out.later hb4)
  have HRL2 := Lib.hid (HRL.out.below hb4).now
  have HRW2 := Lib.hid (HRW.out.below hb4).now
  have HB2 := Lib.hid (bel_step HB.out hb4)
  rw [hb4e] at S4
  try rw [hb4e]
  have HS4 := Lib.hid S4
  clear S4 hb4 hb4e hW2 HT HRW HRL
  have HLN := Lib.hid (fun (W' : World) (hw : Below W2.heap.size W2 W') => len_tr (HT2.out.later hw))
  rw [HNL.out] at HLN
  have e0 : ((nl : Int) != (nl : Int)) = false := by simp
  obtain ⟨x0, x1⟩ := HS4.out.cells
  go_wp2_with fail
  go_cut [28] (fun s28 wx => s28 = .bool false ∧ Below W2.heap.size W2 wx)
  case first =>
    go_region_law (go_simp; go_at_call 10; refine (HLN.out _ ((Below.refl _ _).drew)).mono ?_; rintro e w9 ⟨rfl, rfl⟩)
    all_goals
      go_wp2_with fail
      go_meet
      case rel => exact ⟨rfl, by first | exact (Below.refl _ _).drew | exact Below.refl _ _⟩
  obtain ⟨rfl, hcut⟩ := hcut
  have HBc := Lib.hid hcut
  clear x0 x1 hcut
  obtain ⟨x0, x1⟩ := (HS4.out.later HBc.out).cells
  go_wp2_with fail
  go_loopw [9] (fun s9 wr => ∃ j : Nat, j ≤ nl + 2 ∧ s9 = .int .i64 ((j : Int) - 1) ∧ Below W2.heap.size W2 wr) (fun s9 _ => nl + 2 - (intOf s9 + 1).toNat)
  case atStart => exact ⟨0, by omega, by simp, HBc.out⟩
  case round =>
    clear x0 x1
    obtain ⟨j, hj, rfl, hb⟩ := hrel
    have HB := Lib.hid hb
    obtain ⟨x0, x1⟩ := (HS4.out.later hb).cells
    clear hb
    obtain ⟨ii, hk⟩ : ∃ k, (j : Int) - 1 = k := ⟨_, rfl⟩
    rw [hk]
    have HK := Lib.hid hk
    by_cases hlt : ii ≤ (nl : Int)
    · have hj2 : j ≤ nl + 1 := by omega
      clear hk
      go_upto_if 41 with fail
      go_cut [10] (fun s10 wx => ∃ K : Int, s10 = .int .i64 K ∧ Below wr.heap.size wr wx)
      case first =>
        by_cases hkn : ii = (nl : Int)
        · have e3 : (ii == (nl : Int)) = true := by simpa using hkn
          go_wp2_with fail
          go_meet
          case rel => exact ⟨a2, rfl, Below.refl _ _⟩
        · have e3 : (ii == (nl : Int)) = false := by simpa using hkn
          go_wp2_with fail
          go_meet
          case rel => exact ⟨ii, rfl, Below.refl _ _⟩
      case rest =>
        obtain ⟨K, rfl, hbc⟩ := hcut
        have HBC := Lib.hid (bel_step HB.out hbc)
        have HBD := Lib.hid hbc
        clear hbc x0 x1
        obtain ⟨W4, rfl⟩ : ∃ W4, W4 = wc := ⟨_, rfl⟩
        obtain ⟨x0, x1⟩ := (HS4.out.later HBC.out).cells
        go_upto_region 14 with fail
        go_cut [51] from 29 to 105 (fun s51 wx => s51 = .bool (decide (0 ≤ K ∧ K < (nl : Int))) ∧ Below W4.heap.size W4 wx)
        case first =>
          by_cases hK1 : 0 ≤ K
          · by_cases hKn : K < (nl : Int)
            · go_wp2_with fail
              go_meet
              case rel => exact ⟨by rw [decide_eq_true (show 0 ≤ K ∧ K < (nl : Int) from ⟨hK1, hKn⟩)], Below.refl _ _⟩
            · go_wp2_with fail
              go_meet
              case rel => exact ⟨by rw [decide_eq_false (show ¬ (0 ≤ K ∧ K < (nl : Int)) by omega)], Below.refl _ _⟩
          · go_wp2_with fail
            go_meet
            case rel => exact ⟨by rw [decide_eq_false (show ¬ (0 ≤ K ∧ K < (nl : Int)) by omega)], Below.refl _ _⟩
        obtain ⟨rfl, hbq⟩ := hcut
        have HBC := Lib.hid (bel_step HBC.out hbq)
        have HBD := Lib.hid (bel_step HBD.out hbq)
        clear hbq x0 x1
        obtain ⟨W4, rfl⟩ : ∃ W4, W4 = wc := ⟨_, rfl⟩
        obtain ⟨x0, x1⟩ := (HS4.out.later HBC.out).cells
        go_upto_if 51 with fail
        go_cut [11, 12] (fun s11 s12 wx => ∃ (D : Int) (pa : Option Addr) (pm pc : Nat), s11 = .int .i64 D ∧ s12 = .slice pa pm pc ∧ depV L K = D ∧ (pathV L K).length = pm ∧ (∀ W' : World, Below wx.heap.size wx W' → SlK .u64 W' pa pm (pathV L K)) ∧ pm ≤ 5 ∧ Below W4.heap.size W4 wx)
        case first =>
          by_cases hK0 : K < 0
          · have hK1 : ¬ 0 ≤ K := by omega
            have e1 : depV L K = -1 := by unfold depV; rw [if_pos (.inl hK0)]
            have e2 : pathV L K = [] := by unfold pathV; rw [if_pos (.inl hK0)]
            have HE1 := Lib.hid e1
            have HE2 := Lib.hid e2
            clear e1 e2
            go_wp2_with fail
            go_meet
            case rel => exact ⟨-1, none, 0, 0, rfl, rfl, HE1.out, by rw [HE2.out]; rfl, fun W' _ => by rw [HE2.out]; exact ⟨rfl, .inl rfl⟩, by omega, Below.refl _ _⟩
          · have hK1 : 0 ≤ K := by omega
            by_cases hKn : K < (nl : Int)
            · have hKd : decide (0 ≤ K ∧ K < (nl : Int)) = true := decide_eq_true (by omega)
              rw [hKd]
              clear hKd
              obtain ⟨c, rfl⟩ : ∃ c : Nat, K = (c : Int) := ⟨K.toNat, by omega⟩
              have hcn : c < nl := by omega
              have hcL : c < L.length := by rw [HNL.out]; exact hcn
              have e1 : depV L (c : Int) = ((L.getD c []).length : Int) := by unfold depV; rw [if_neg (by unfold out; omega), Int.toNat_natCast]
              have e2 : pathV L (c : Int) = L.getD c [] := by unfold pathV; rw [if_neg (by unfold out; omega), Int.toNat_natCast]
              have e5 := HTD.out _ (gD_mem (d := []) hcL)
              obtain ⟨ai, ci, ev, h1, hc1, hc2⟩ := (HRL2.out.later HBC.out).each c hcn
              have hcl : ∃ b o, la = some ⟨b, o, none⟩ ∧ W4.cell? ⟨b, o + c, none⟩ = some (.slice ai (L.getD c []).length ci) := by
                rcases (HRL2.out.later HBC.out).cells with h0 | ⟨b, o, e, hc⟩
                · omega
                · exact ⟨b, o, e, by rw [hc c hcn, ev]⟩
              obtain ⟨b, o, rfl, hcell⟩ := hcl
              obtain ⟨P, hP⟩ : ∃ P, L.getD c [] = P := ⟨_, rfl⟩
              rw [hP] at h1 hcell hc1 e5 e1 e2
              obtain ⟨m, hm⟩ : ∃ m, P.length = m := ⟨_, rfl⟩
              rw [hm] at h1 hcell hc1 e5 e1
              have HH1 := Lib.hid h1
              have HM := Lib.hid hm
              have HE1 := Lib.hid e1
              have HE2 := Lib.hid e2
              have hc0 : (0 : Int) ≤ (c : Int) := Int.natCast_nonneg _
              clear e1 e2 ev h1 hcL hP hm
              go_wp2_with fail
              go_meet
              case rel => exact ⟨(m : Int), ai, m, ci, rfl, rfl, HE1.out, by rw [HE2.out]; exact HM.out, fun W' hw => by rw [HE2.out]; exact HH1.out.below hw, e5, Below.refl _ _⟩
            · have hKd : decide (0 ≤ K ∧ K < (nl : Int)) = false := decide_eq_false (by omega)
              rw [hKd]
              have e1 : depV L K = -1 := by unfold depV; rw [if_pos (.inr (by rw [HNL.out]; omega))]
              have e2 : pathV L K = [] := by unfold pathV; rw [if_pos (.inr (by rw [HNL.out]; omega))]
              have HE1 := Lib.hid e1
              have HE2 := Lib.hid e2
              clear e1 e2
              go_wp2_with fail
              go_meet
              case rel => exact ⟨-1, none, 0, 0, rfl, rfl, HE1.out, by rw [HE2.out]; rfl, fun W' _ => by rw [HE2.out]; exact ⟨rfl, .inl rfl⟩, by omega, Below.refl _ _⟩
        case rest =>
          obtain ⟨D, pa, pm, pc, rfl, rfl, hD, hpm, hps, hp5, hbc⟩ := hcut
          obtain ⟨W8, rfl⟩ : ∃ W8, W8 = wc := ⟨_, rfl⟩
          have HB5 := Lib.hid (bel_step HBC.out hbc)
          have HB6 := Lib.hid (bel_step HBD.out hbc)
          have HPS := Lib.hid hps
          have HPM := Lib.hid hpm
          clear hbc x0 x1 hps hpm
          have HTx := Lib.hid (fun (W' : World) (hw : Below W8.heap.size W8 W') => HT2.out.later (bel_step HB5.out hw))
          have HRx := Lib.hid (fun (W' : World) (hw : Below W8.heap.size W8 W') => HRL2.out.later (bel_step HB5.out hw))
          have HWx := Lib.hid (fun (W' : World) (hw : Below W8.heap.size W8 W') => HRW2.out.later (bel_step HB5.out hw))
          have HX0 := Lib.hid (fun (W' : World) (hw : Below W8.heap.size W8 W') => load_tv (HS4.out.later (bel_step HB5.out hw)))
          have HX1 := Lib.hid (fun (W' : World) (hw : Below W8.heap.size W8 W') => (HS4.out.later (bel_step HB5.out hw)).cells)
          have hL1 : L.length ≤ 1000 := by rw [HNL.out]; omega
          have hW1 : W.length ≤ 1000000 := by rw [HNW.out]; omega
          have HPa := Lib.hid (fun (W' : World) (hw : Below W8.heap.size W8 W') => parent_tr (HTx.out W' hw) K)
          have HPb := Lib.hid (fun (W' : World) (hw : Below W8.heap.size W8 W') => refParent_tr (wa := wa) (wn := nw) (wc := wq) (lc := lc) (HRx.out W' hw) HIW.out.inv (by omega) K)
          have HDe := Lib.hid (fun (W' : World) (hw : Below W8.heap.size W8 W') => depth_tr (HTx.out W' hw) K)
          have HPt := Lib.hid (fun (W' : World) (hw : Below W8.heap.size W8 W') => path_tr (HTx.out W' hw) HIW.out.inv K (fun p hp => Nat.le_trans (HTD.out p hp) (by omega)))
          have HKa := Lib.hid (fun (W' : World) (hw : Below W8.heap.size W8 W') => kids_tr (HTx.out W' hw) K hL1)
          have HKb := Lib.hid (fun (W' : World) (hw : Below W8.heap.size W8 W') => refKids_tr (wa := wa) (wn := nw) (wq := wq) (lc := lc) (HRx.out W' hw) HIW.out.inv (by omega) K)
          have HWa := Lib.hid (fun (W' : World) (hw : Below W8.heap.size W8 W') => words_tr (HTx.out W' hw) (fun x hx => (HIW.out.ws x hx).1) hW1 K)
          have HWb := Lib.hid (fun (W' : World) (hw : Below W8.heap.size W8 W') => refWords_tr (lc := lc) (wc := wq) (HRx.out W' hw) (HWx.out W' hw) (by omega) (by omega) K)
          have hKl : (kidsV L K).length ≤ 1000 := by rw [← ksN_all]; exact Nat.le_trans (ksN_len L K _) hL1
          have hWl := wordsV_len L W K
          have HWO : Hid (D < 0 → wordsV L W K = []) := Lib.hid (fun h => wordsV_out (fun x hx => (HIW.out.ws x hx).1) (by
            by_cases ho : out L K
            · exact ho
            · rw [← hD] at h; unfold depV at h; rw [if_neg ho] at h; omega))
          unfold KidsR at HPt HKa HKb
          rw [HPM.out] at HPt
          obtain ⟨P, hP⟩ : ∃ P, pathV L K = P := ⟨_, rfl⟩
          obtain ⟨Ks, hKs⟩ : ∃ Ks, kidsV L K = Ks := ⟨_, rfl⟩
          obtain ⟨Ws, hWs⟩ : ∃ Ws, wordsV L W K = Ws := ⟨_, rfl⟩
          rw [hP] at HPt HPS HPM
          rw [hKs] at HKa HKb hKl
          rw [hWs] at HWa HWb HWO hWl
          rw [hD] at HDe
          obtain ⟨nk, hnk⟩ : ∃ nk, Ks.length = nk := ⟨_, rfl⟩
          obtain ⟨nv, hnv⟩ : ∃ nv, Ws.length = nv := ⟨_, rfl⟩
          rw [hnk] at HKa HKb hKl
          rw [hnv] at HWa HWb hWl
          rw [HNW.out] at hWl
          obtain ⟨x, hx⟩ : ∃ x, parV L K = x := ⟨_, rfl⟩
          rw [hx] at HPa HPb
          have HNV := Lib.hid hnv
          have e1 : (x != x) = false := by simp
          have e2 : (D != D) = false := by simp
          have hBt := (Below.refl W8.heap.size W8).drew
          obtain ⟨z0, z1⟩ := HX1.out _ (Below.refl _ _)
          have ldz := HX0.out _ (Below.refl _ _)
          clear hD hP hKs hWs hnk hnv hx hL1 hW1
          go_wp2_with fail
          go_cut [94] from 29 to 105 (fun s94 wx => s94 = .bool false ∧ Below W8.heap.size W8 wx)
          case first =>
           go_region_law (first
             | (go_simp; go_at_call 11; refine (HPa.out _ hBt).mono ?_; rintro e y1 ⟨rfl, hb1⟩; replace hBt := bel_step hBt hb1; have ld1 := HX0.out _ hBt; obtain ⟨q10, q11⟩ := HX1.out _ hBt; clear hb1)
             | (go_simp; go_at_call 12; refine (HPb.out _ hBt).mono ?_; rintro e y2 ⟨rfl, hb1⟩; replace hBt := bel_step hBt hb1; have ld2 := HX0.out _ hBt; obtain ⟨q20, q21⟩ := HX1.out _ hBt; clear hb1)
             | (go_simp; go_at_call 13; refine (HDe.out _ hBt).mono ?_; rintro e y3 ⟨rfl, hb1⟩; replace hBt := bel_step hBt hb1; have ld3 := HX0.out _ hBt; obtain ⟨q30, q31⟩ := HX1.out _ hBt; clear hb1)
             | (go_simp; go_at_call 15; refine (HPt.out _ hBt).mono ?_; rintro e y4 ⟨v4, rfl, ho4, hb1⟩; obtain ⟨a4, c4, e4, s4⟩ := slot_px (w' := y4) ho4; subst e4; replace hBt := bel_step hBt hb1; have ld4 := HX0.out _ hBt; obtain ⟨q40, q41⟩ := HX1.out _ hBt; have HS4x := Lib.hid s4; clear hb1 ho4 s4)
             | (go_simp; go_at_call 14; refine (Su.sameRow_any _ _ pm pm _ _ P P _ (by omega) HS4x.out (HPS.out _ hBt)).mono ?_; rw [decide_eq_true (rfl : P = P)]; rintro e y5 ⟨rfl, hb1⟩; replace hBt := bel_step hBt hb1; have ld5 := HX0.out _ hBt; obtain ⟨q50, q51⟩ := HX1.out _ hBt; clear hb1)
             | (go_simp; go_at_call 16; refine (HKa.out _ hBt).mono ?_; rintro e y6 ⟨v6, rfl, ho6, hb1⟩; obtain ⟨a6, c6, e6, s6⟩ := slot_px (w' := y6) ho6; subst e6; replace hBt := bel_step hBt hb1; have ld6 := HX0.out _ hBt; obtain ⟨q60, q61⟩ := HX1.out _ hBt; have HS6x := Lib.hid s6; clear hb1 ho6 s6)
             | (go_simp; go_at_call 17; refine (HKb.out _ hBt).mono ?_; rintro e y7 ⟨v7, rfl, ho7, hb1⟩; obtain ⟨a7, c7, e7, s7⟩ := slot_px (w' := y7) ho7; subst e7; replace hBt := bel_step hBt hb1; have HS7x := Lib.hid s7; have HS8x := Lib.hid (HS6x.out.below hb1); clear hb1 ho7 s7)
             | (go_simp; go_at_call 14; refine (Su.sameRow_any _ _ nk nk _ _ Ks Ks _ (by omega) HS8x.out HS7x.out).mono ?_; rw [decide_eq_true (rfl : Ks = Ks)]; rintro e y8 ⟨rfl, hb1⟩; replace hBt := bel_step hBt hb1; clear hb1))
           all_goals
             go_wp2_with fail
             go_meet
             case rel => exact ⟨rfl, hBt⟩
          obtain ⟨rfl, hbq⟩ := hcut
          have HBQ := Lib.hid hbq
          clear hBt z0 z1 ldz hbq
          obtain ⟨z0, z1⟩ := HX1.out _ HBQ.out
          have ldz := HX0.out _ HBQ.out
          have hBt := HBQ.out
          by_cases hD0 : 0 ≤ D
          · go_wp2_with (first
              | (go_at_call 18; refine (HWb.out _ hBt).mono ?_; rintro e y1 ⟨v1, rfl, ho1, hb1⟩; obtain ⟨a5, c5, e5, s5⟩ := slot_int ho1; subst e5; replace hBt := bel_step hBt hb1; have HW5 := Lib.hid s5; clear ho1 hb1 s5)
              | (go_at_call 20; refine (HWa.out _ hBt).mono ?_; rintro e y2 ⟨v2, rfl, ho2, hb2⟩; obtain ⟨a6, c6, e6, s6⟩ := slot_int ho2; subst e6; replace hBt := bel_step hBt hb2; have HW6 := Lib.hid s6; have HW7 := Lib.hid (HW5.out.below hb2); clear ho2 hb2 s6)
              | (go_at_call 19; refine (Sm.same_any _ _ nv nv _ _ Ws Ws _ (by omega) HW6.out HW7.out).mono ?_; rw [decide_eq_true (rfl : Ws = Ws)]; rintro e y3 ⟨rfl, hb3⟩; replace hBt := bel_step hBt hb3; clear hb3))
            go_roundw
            case rel =>
              have := HK.out
              rw [IntWalk.wrap64_in (ii + 1) (by omega)]
              exact ⟨j + 1, by omega, congrArg (Value.int IntKind.i64) (by omega), bel_step HB.out (bel_step HB6.out hBt)⟩
            case measure =>
              have := HK.out
              rw [IntWalk.wrap64_in (ii + 1) (by omega)]
              simp only [intOf]; omega
          · have hws := HWO.out (by omega)
            have hv0 : nv = 0 := by rw [← HNV.out, hws]; rfl
            subst hws
            subst hv0
            go_wp2_with (first
              | (go_at_call 20; refine (HWa.out _ hBt).mono ?_; rintro e y2 ⟨v2, rfl, ho2, hb2⟩; obtain ⟨a6, c6, e6, s6⟩ := slot_int ho2; subst e6; replace hBt := bel_step hBt hb2; have HW6 := Lib.hid s6; clear ho2 hb2 s6)
              | (go_at_call 19; refine (Sm.same_any _ _ 0 0 _ _ [] [] _ (by omega) HW6.out ⟨rfl, .inl rfl⟩).mono ?_; rw [decide_eq_true (rfl : ([] : List Int) = [])]; rintro e y3 ⟨rfl, hb3⟩; replace hBt := bel_step hBt hb3; clear hb3))
            go_roundw
            case rel =>
              have := HK.out
              rw [IntWalk.wrap64_in (ii + 1) (by omega)]
              exact ⟨j + 1, by omega, congrArg (Value.int IntKind.i64) (by omega), bel_step HB.out (bel_step HB6.out hBt)⟩
            case measure =>
              have := HK.out
              rw [IntWalk.wrap64_in (ii + 1) (by omega)]
              simp only [intOf]; omega
    · have hj3 : j = nl + 2 := by omega
      clear hk
      obtain ⟨W5, rfl⟩ : ∃ W5, W5 = wr := ⟨_, rfl⟩
      go_wp2_with fail
      go_loopw [14] (fun s14 wz => ∃ i : Nat, i ≤ nw ∧ s14 = .int .i64 i ∧ Below W5.heap.size W5 wz) (fun s14 _ => nw - (intOf s14).toNat)
      case atStart => exact ⟨0, Nat.zero_le _, rfl, Below.refl _ _⟩
      case round =>
        obtain ⟨i, hi, rfl, hbx⟩ := hrel
        have HBX := Lib.hid hbx
        have HBr := Lib.hid (bel_step HB.out hbx)
        clear hbx x0 x1
        obtain ⟨x0, x1⟩ := (HS4.out.later HBr.out).cells
        have ld := load_tv (HS4.out.later HBr.out)
        by_cases hil : i < nw
        · have hiI : (i : Int) < (nw : Int) := by omega
          have hi0 : (0 : Int) ≤ (i : Int) := Int.natCast_nonneg _
          have hkW : i < W.length := by rw [HNW.out]; exact hil
          obtain ⟨ai, ci, ev, h1, hc1, hc2⟩ := HRW2.out.each i hil
          have hcl : ∃ b o, wa = some ⟨b, o, none⟩ ∧ wr.cell? ⟨b, o + i, none⟩ = some (.slice ai (W.getD i []).length ci) := by
            rcases (HRW2.out.later HBr.out).cells with h0 | ⟨b, o, e, hc⟩
            · omega
            · exact ⟨b, o, e, by rw [hc i hil, ev]⟩
          obtain ⟨b, o, rfl, hcell⟩ := hcl
          have HWo := Lib.hid (fun (W' : World) (hw : Below wr.heap.size wr W') => word_tr (HT2.out.later (bel_step HBr.out hw)) (i : Int))
          rw [wordV_at hkW] at HWo
          have HFi := Lib.hid (fun (W' : World) (hw : Below wr.heap.size wr W') => find_tr (wa := some ⟨b, o, none⟩) (wn := nw) (wc := wq) (lc := lc) (pc := ci) (HRL2.out.later (bel_step HBr.out hw)) (by omega) (h1.below (bel_step HBr.out hw)) (by omega))
          obtain ⟨x, hx⟩ : ∃ x, findV L (W.getD i []) = x := ⟨_, rfl⟩
          obtain ⟨y, hy⟩ : ∃ y, (W.getD i []).length = y := ⟨_, rfl⟩
          rw [hx] at HWo HFi
          rw [hy] at HFi hcell
          have e1 : (x != x) = false := by simp
          have hBt := (Below.refl wr.heap.size wr).drew
          clear hkW ev h1 hc1 hc2 hx hy
          go_wp2_with fail
          go_region_law (first
            | (go_simp; go_at_call 21; refine (HWo.out _ hBt).mono ?_; rintro e y1 ⟨rfl, rfl⟩)
            | (go_simp; go_at_call 22; refine (HFi.out _ hBt).mono ?_; rintro e y2 ⟨rfl, hb2⟩; replace hBt := bel_step hBt hb2; clear hb2))
          all_goals
            go_wp2_with fail
            go_roundw
            case rel => exact ⟨i + 1, by omega, by go_num, bel_step HBX.out hBt⟩
            case measure => simp [intOf]; omega
        · obtain rfl : i = nw := by omega
          have hiI : ¬ (i : Int) < (i : Int) := by omega
          have HWm := Lib.hid (word_tr (HT2.out.later HBr.out) (-1))
          have HWn := Lib.hid (word_tr (HT2.out.later HBr.out) (i : Int))
          rw [show wordV L W (-1) = -1 from by unfold wordV; rw [if_pos (.inl (by omega))]] at HWm
          rw [show wordV L W (i : Int) = -1 from by unfold wordV; rw [if_pos (.inr (by rw [HNW.out]; omega))]] at HWn
          go_wp2_with (first
            | (go_at_call 21; (first | (with_reducible refine HWm.out.mono ?_) | (with_reducible refine HWn.out.mono ?_)); rintro e w9 ⟨rfl, rfl⟩)
            | (go_at_call 23; refine (lives12_any _).mono ?_; rintro e w9 ⟨rfl, hb9⟩; have HB9 := Lib.hid hb9; clear hb9))
          go_ret
          exact ⟨rfl, bel_step HB2.out (bel_step HBr.out HB9.out)⟩
end Go.Proofs.Ytaechkdmijgfiaa
