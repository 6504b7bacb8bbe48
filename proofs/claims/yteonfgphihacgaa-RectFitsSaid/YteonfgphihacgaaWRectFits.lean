/- RectFits: whether all numbers are pixels of a format is told as the document says: the walk of the law. No condition. -/
import Derived.Test.YteonfgphihacgaaFitC
import Derived.Deep.AppendLies
import Derived.Deep.RegionLaw
namespace Go.Proofs.Yteonfgphihacgaa
open Go.RowKit
set_option linter.unusedVariables false

theorem slk_put {w : World} {base g n cap q : Nat} {e : TypeId} {L : List Int} {a : Int} (h : w.ownsRow base e 1 (.slice (some ⟨g, 0, none⟩) n cap) n (L.map (Value.int .u64))) (hl : L.length = n) (hq : q < n) :
    SlK .u64 (w.setCell ⟨g, q, none⟩ (.int .u64 a)) (some ⟨g, 0, none⟩) n (L.set q a) := by
  have H := h
  rcases h.2 with ⟨e1, _⟩ | ⟨g', cap', cur, e1, hb, hg, hle, hm, hsz, htk⟩
  · cases e1
  · cases e1
    have h1 := Go.heap_setCell_same w g q _ _ (.int .u64 a) hg
    refine ⟨by simp [hl], .inr ⟨g, 0, rfl, fun i hi => ?_⟩⟩
    have hc := H.cellAt i (by omega)
    have hlen : n ≤ cur.size := by
      have := congrArg List.length htk
      simp at this
      omega
    rw [Nat.zero_add]
    by_cases hiq : i = q
    · subst hiq
      have hcs : i < cur.size := by omega
      have hls : i < L.length := by omega
      simp [World.cell?, h1, List.getD_eq_getElem?_getD, hcs, hls]
    · have hc2 : (w.setCell ⟨g, q, none⟩ (.int .u64 a)).cell? ⟨g, i, none⟩ = w.cell? ⟨g, i, none⟩ := by
        simp [World.cell?, h1, hg, Ne.symm hiq]
      rw [hc2, hc, List.getElem?_map, List.getElem?_eq_getElem (by omega), List.getD_eq_getElem?_getD, List.getElem?_set_ne (Ne.symm hiq), List.getElem?_eq_getElem (by omega)]
      rfl
theorem Pb.setO {w : World} {b : Nat} {x y : Int} (h : Pb w b x y) (a : Addr) (v : Value) (hne : b ≠ a.block) : Pb (w.setCell a v) b x y :=
  ⟨(World.cell?_of_block (a := ⟨b, 0, none⟩) (Below.heap_setCell w a v b hne)).trans h.1, (World.cell?_of_block (a := ⟨b, 1, none⟩) (Below.heap_setCell w a v b hne)).trans h.2⟩
theorem Pb.grown {w w' : World} {b : Nat} {x y : Int} {row : Option Nat} (h : Pb w b x y) (hg : w.grownBy w' row) (hne : some b ≠ row) : Pb w' b x y := ⟨hg.cell h.1 hne, hg.cell h.2 hne⟩
set_option maxRecDepth 100000 in
set_option maxHeartbeats 16000000 in
theorem rectFits_walk (a0c0 a0m1 : Int) (a1 : Option Addr) (len1 cap1 : Nat) (z1 : List Int) (a2 : Int) (a3 : Int) (w : World) (w00 : (Lit.int .i64 a0c0).wf = true) (w01 : (Lit.int .i64 a0m1).wf = true) (w1 : IsRow .i64 w a1 len1 cap1 z1) (w2 : (Lit.int .i64 a2).wf = true) (w3 : (Lit.int .u64 a3).wf = true) :
    Calls Try.prog 10 #[.agg #[.int .i64 a0c0, .int .i64 a0m1], .slice a1 len1 cap1, .int .i64 a2, .int .u64 a3] w fun e w' => e = .returned (.bool true) ∧ Below w.heap.size w w' := by
  have h0 := Lib.hid (wfI w00)
  have h1 := Lib.hid (wfI w01)
  have h2 := Lib.hid (wfI w2)
  have hp : Hid (Pq.Px.U a3) := by
    show Pq.Px.U a3
    simp [Lit.wf, IntKind.min, IntKind.max, IntKind.bits, IntKind.signed] at w3
    unfold Pq.Px.U; omega
  obtain ⟨l1, l2, l3, l4⟩ := isrow_len w1
  have S1 := Lib.hid (row_slk w1)
  have hI : Hid (∀ x ∈ z1.take len1, Pq.Px.I x) := fun x hx => wfI (isrow_wfK w1 x (List.mem_of_mem_take hx))
  generalize z1.take len1 = zs at S1 hI
  obtain ⟨C, hC⟩ : ∃ C, Pq.Px.formC a0c0 = C := ⟨_, rfl⟩
  obtain ⟨D, hD⟩ : ∃ D, Pq.Px.formM a0m1 = D := ⟨_, rfl⟩
  have hC1 : Hid (C = 1 ∨ C = 3) := by show _ ∨ _; rw [← hC]; unfold Pq.Px.formC; split <;> omega
  have hD1 : Hid (1 ≤ D ∧ D ≤ 65535) := by
    show _ ∧ _
    rw [← hD]; unfold Pq.Px.formM Pq.Px.aroundV
    have q1 := Int.emod_nonneg (if a0m1 < 0 then -(a0m1 + 1) else a0m1) (show (65535 : Int) ≠ 0 by omega)
    have q2 := Int.emod_lt_of_pos (if a0m1 < 0 then -(a0m1 + 1) else a0m1) (show (0 : Int) < 65535 by omega)
    omega
  have HF := Pq.form_any a0c0 a0m1 h0.out h1.out
  rw [hC, hD] at HF
  have HF' := Lib.hid HF
  have B := box1 w (.cells #[.int .i64 a0c0, .int .i64 a0m1] 74)
  obtain ⟨i0, hi, hz0, hz1, hz2⟩ := info_parts Try.info_px
  clear w00 w01 w1 w2 w3 HF hC hD
  go_enter Try.func10, Try.ntmps10
  go_wp2_with fail
  refine (HF'.out _).mono ?_
  rintro e w1 ⟨rfl, hb1⟩
  have hfb : Pb w1 w.heap.size a0c0 a0m1 := Pb.later (w := w.alloc (.cells #[.int .i64 a0c0, .int .i64 a0m1] 74)) ⟨by simp [go_sem], by simp [go_sem]⟩ hb1
  replace B := bel_step B hb1
  have b2 := box1 w1 (.cells #[.int .i64 C, .int .i64 D] 74)
  have hgb : Pb (w1.alloc (.cells #[.int .i64 C, .int .i64 D] 74)) w1.heap.size C D := ⟨by simp [go_sem], by simp [go_sem]⟩
  have hfb2 := hfb.later b2
  replace B := bel_step B b2
  have hzw : w.heap.size < w1.heap.size := by have := hb1.size; simp at this; omega
  obtain ⟨W2, hW2⟩ : ∃ W2, w1.alloc (.cells #[.int .i64 C, .int .i64 D] 74) = W2 := ⟨_, rfl⟩
  have hz2' : W2.heap.size = w1.heap.size + 1 := by rw [← hW2]; simp
  rw [hW2] at hgb hfb2 B
  have b3 := box1 W2 (.cells #[.int .i64 2, .int .i64 2, .slice none 0 0] 53)
  have hmb := Sb.new W2 53 (.int .i64 2) (.int .i64 2) (.slice none 0 0)
  have HW2 := Lib.hid hW2
  have HFB := Lib.hid (hfb2.later b3)
  have HGB := Lib.hid (hgb.later b3)
  have HBB := Lib.hid (bel_step B b3)
  obtain ⟨V, hV⟩ : ∃ V, W2.alloc (.cells #[.int .i64 2, .int .i64 2, .slice none 0 0] 53) = V := ⟨_, rfl⟩
  rw [hV] at HFB HGB HBB hmb
  rw [hz2'] at hmb
  have HMB := Lib.hid hmb
  have HV := Lib.hid hV
  have hzV : V.heap.size = w1.heap.size + 1 + 1 := by rw [← hV]; simp [hz2']
  obtain ⟨gb, hgbe⟩ : ∃ gb, w1.heap.size = gb := ⟨_, rfl⟩
  rw [hgbe] at HGB HMB hzw hzV
  obtain ⟨fb, hfbe⟩ : ∃ fb, w.heap.size = fb := ⟨_, rfl⟩
  have hbw : w.heap.size ≤ gb + 1 := by omega
  rw [hfbe] at HFB
  clear hfb hb1 b2 hgb hfb2 hW2 b3 hmb B hV hz2'
  go_upto_region 3 with (fail)
  rw [HW2.out, HV.out]
  go_wp2_with fail
  go_loopw [11] (fun u11 wr => ∃ (i : Nat) (v : Value) (gs : List Int), i ≤ 4 ∧ u11 = .int .i64 i ∧ Below w.heap.size w wr ∧ gb + 1 + 1 ≤ wr.heap.size ∧ Pb wr fb a0c0 a0m1 ∧ Pb wr gb C D ∧ Sb wr (gb + 1) 53 (.int .i64 2) (.int .i64 2) v ∧ wr.ownsRow (gb + 1 + 1) 76 1 v i (gs.map (Value.int .u64)) ∧ gs.length = i ∧ Hid (∀ g ∈ gs, Pq.GoodP g C D)) (fun u11 _ => 4 - (intOf u11).toNat)
  case atStart => exact ⟨0, _, [], by omega, rfl, HBB.out, by omega, HFB.out, HGB.out, HMB.out, World.ownsRow_nil _ _ _ _, rfl, fun g hg => absurd hg (by simp)⟩
  case round =>
    obtain ⟨i, v, gs, hi4, rfl, hB, hzr, hF, hG, hM, hrow, hgl, hgs⟩ := hrel
    by_cases hlt : i < 4
    · obtain ⟨p, hp3⟩ : ∃ p : Nat, 3 * i = p := ⟨_, rfl⟩
      have HROW := Lib.hid hrow
      have HM := Lib.hid hM
      have HB := Lib.hid hB
      obtain ⟨m0, m1, m2⟩ := hM.cells
      obtain ⟨n0, n1, n2⟩ := hM.fr
      have hG' := Lib.hid hG
      have hF' := Lib.hid hF
      obtain ⟨g0, g1⟩ := hG
      have HSW := Lib.hid (S1.out.below hB)
      have j1 : IntKind.i64.wrap (3 * (i : Int)) = (p : Int) := by rw [IntWalk.i64_in] <;> omega
      have hi0 : (0 : Int) ≤ (i : Int) := by omega
      have hi4I : (i : Int) < 4 := by omega
      have HGL := Lib.hid hgl
      have HP0 := Lib.hid hp3
      clear hrow hM hB hgl hp3 hF
      by_cases hlt1 : p < len1
      · have q1 : decide ((p : Int) ≤ (len1 : Int)) = true := decide_eq_true (by omega)
        have q2 : decide ((len1 : Int) < (p : Int)) = false := decide_eq_false (by omega)
        have q3 : (p : Int) ≤ (len1 : Int) := by omega
        have q4 : ¬ cap1 = p := by omega
        have q5 : (0 : Int) ≤ (p : Int) := by omega
        have q6 : ¬ len1 < p := by omega
        obtain ⟨hzl, h00 | ⟨ab, ao, rfl, hcell⟩⟩ := HSW.out
        · omega
        obtain ⟨x, hx⟩ : ∃ x, Pq.Px.goodV (zs.drop p) C D = x := ⟨_, rfl⟩
        have HXG : Hid (Pq.GoodP x C D) := by show Pq.GoodP x C D; rw [← hx]; exact Pq.good_is _ hC1.out (by have := hD1.out; omega) hD1.out.2
        have HSD : Hid (SlK .i64 wr (some ⟨ab, ao + p, none⟩) (len1 - p) (zs.drop p)) := by
          show SlK .i64 wr (some ⟨ab, ao + p, none⟩) (len1 - p) (zs.drop p)
          have h := cut_sl HSW.out (Nat.le_of_lt hlt1) l3
          unfold cutA at h
          rw [if_neg q4] at h
          simpa [addrK_add] using h
        have HGD : Hid (∀ W' (A' : Option Addr) (c' : Nat), SlK .i64 W' A' (len1 - p) (zs.drop p) → Calls Try.prog 51 #[.slice A' (len1 - p) c', .agg #[.int .i64 C, .int .i64 D]] W' fun e w' => e = .returned (.int .u64 x) ∧ Below W'.heap.size W' w') := fun W' A' c' h => by
          have := Pq.good_sl A' (len1 - p) c' (zs.drop p) C D (by omega) (fun z hz => hI.out z (List.mem_of_mem_drop hz)) hC1.out (by have := hD1.out; omega) hD1.out.2 W' h
          rw [hx] at this
          exact this
        clear hx hzl hcell
        go_wp2_with fail
        go_region_law
          (first
            | (refine step_append_lies _ rfl _ _ 51 rfl (gb + 1 + 1) 76 i0 (.int .u64 0) 1 8 Try.underlying51 hi hz0 hz1 hz2 rfl (by decide) v i _ rfl (HR9.out.alloc _) ⟨w9.heap.size, 0, none⟩ 1 1 [.int .u64 x] rfl rfl (cell_one_new _ _ _) (by simp [Value.oneCell']) (by omega) (by unfold maxLen; omega) (by omega) (by simp; omega) _ rfl ?_; intro gg cc w5 hown' hgrow' _ _; obtain ⟨u1, u2, u3, u4, u5⟩ := pushL (W := w9) HM9.out HR9.out (Nat.lt_succ_self _) hz9 hown' hgrow'; obtain ⟨k3, k4, k2⟩ := u1.cells; obtain ⟨k5, k6, k7⟩ := u1.fr; have kf := Pb.grown (HF9.out.later (box1 w9 (.cells #[.int .u64 x] 76))) hgrow' (by intro e; have := (HR9.out.lt _ e.symm).1; omega); have kg := Pb.grown (HG9.out.later (box1 w9 (.cells #[.int .u64 x] 76))) hgrow' (by intro e; have := (HR9.out.lt _ e.symm).1; omega); have k0 := (hgrow'.cell ((HG9.out.later (box1 w9 _)).1) (by intro e; have := (HR9.out.lt _ e.symm).1; simp at this; omega)); have k1 := (hgrow'.cell ((HG9.out.later (box1 w9 _)).2) (by intro e; have := (HR9.out.lt _ e.symm).1; simp at this; omega)))
            | (go_simp; go_at_call 51; refine (HGD.out _ _ _ (HSD.out.below (by first | exact Below.refl _ _ | exact ⟨rfl, rfl, rfl, Nat.le_refl _, fun _ _ => rfl⟩))).mono ?_; rintro e w9 ⟨rfl, hb9⟩; have hB9 : Below wr.heap.size wr w9 := (by first | exact hb9 | exact fit_drew hb9); have hB9a := hB9.alloc hB9.size (.cells #[.int .u64 x] 76); have HR9 := Lib.hid (ownsRow_later HROW.out hB9); have HM9 := Lib.hid (HM.out.later hB9); have HG9 := Lib.hid (hG'.out.later hB9); have HF9 := Lib.hid (hF'.out.later hB9); have m2a := cell_later hB9a m2; have g0a := cell_later hB9a g0; have g1a := cell_later hB9a g1; have m2' := cell_later hB9 m2; have g0' := cell_later hB9 g0; have g1' := cell_later hB9 g1; have hz9 : gb + 1 + 1 ≤ w9.heap.size := Nat.le_trans hzr hB9.size))
        all_goals
          have HFF := Lib.hid (kf.setO ⟨gb + 1, 2, none⟩ (.slice (some ⟨gg, 0, none⟩) (i + 1) cc) (by simp; omega))
          have HGF := Lib.hid (kg.setO ⟨gb + 1, 2, none⟩ (.slice (some ⟨gg, 0, none⟩) (i + 1) cc) (by simp))
          have HU2 := Lib.hid u2
          have HU3 := Lib.hid u3
          have HU4 := Lib.hid (HB.out.trans ((hB9.mono HB.out.size).trans (u4 _ hbw)))
          have HU5 := Lib.hid u5
          clear u1 u2 u3 u4 u5 k0 k1 k2 k3 k4 k5 k6 k7 kf kg hown' hgrow'
          go_wp2
          go_roundw
          case rel => exact ⟨i + 1, _, gs ++ [x], by omega, by go_num, HU4.out, HU5.out, HFF.out, HGF.out, HU2.out, by rw [List.map_append]; exact HU3.out, by rw [List.length_append, HGL.out]; rfl, fun g hg => by
            rcases List.mem_append.1 hg with h | h
            · exact hgs.out g h
            · rw [List.mem_singleton.1 h]; exact HXG.out⟩
          case measure => simp [intOf]; omega
      · have q6 : len1 ≤ p := by omega
        obtain ⟨x, hx⟩ : ∃ x, Pq.Px.goodV [] C D = x := ⟨_, rfl⟩
        have HXG : Hid (Pq.GoodP x C D) := by show Pq.GoodP x C D; rw [← hx]; exact Pq.good_is _ hC1.out (by have := hD1.out; omega) hD1.out.2
        have HGD : Hid (∀ W' (A' : Option Addr) (c' : Nat), Calls Try.prog 51 #[.slice A' 0 c', .agg #[.int .i64 C, .int .i64 D]] W' fun e w' => e = .returned (.int .u64 x) ∧ Below W'.heap.size W' w') := fun W' A' c' => by
          have := Pq.good_sl A' 0 c' [] C D (by omega) (fun z hz => absurd hz (by simp)) hC1.out (by have := hD1.out; omega) hD1.out.2 W' ⟨rfl, .inl rfl⟩
          rw [hx] at this
          exact this
        clear hx
        have q5 : (0 : Int) ≤ (p : Int) := by omega
        by_cases q7 : len1 < p
        · have q8 : ¬ (p : Int) ≤ (len1 : Int) := by omega
          go_wp2_with fail
          go_region_law
            (first
              | (refine step_append_lies _ rfl _ _ 51 rfl (gb + 1 + 1) 76 i0 (.int .u64 0) 1 8 Try.underlying51 hi hz0 hz1 hz2 rfl (by decide) v i _ rfl (HR9.out.alloc _) ⟨w9.heap.size, 0, none⟩ 1 1 [.int .u64 x] rfl rfl (cell_one_new _ _ _) (by simp [Value.oneCell']) (by omega) (by unfold maxLen; omega) (by omega) (by simp; omega) _ rfl ?_; intro gg cc w5 hown' hgrow' _ _; obtain ⟨u1, u2, u3, u4, u5⟩ := pushL (W := w9) HM9.out HR9.out (Nat.lt_succ_self _) hz9 hown' hgrow'; obtain ⟨k3, k4, k2⟩ := u1.cells; obtain ⟨k5, k6, k7⟩ := u1.fr; have kf := Pb.grown (HF9.out.later (box1 w9 (.cells #[.int .u64 x] 76))) hgrow' (by intro e; have := (HR9.out.lt _ e.symm).1; omega); have kg := Pb.grown (HG9.out.later (box1 w9 (.cells #[.int .u64 x] 76))) hgrow' (by intro e; have := (HR9.out.lt _ e.symm).1; omega); have k0 := (hgrow'.cell ((HG9.out.later (box1 w9 _)).1) (by intro e; have := (HR9.out.lt _ e.symm).1; simp at this; omega)); have k1 := (hgrow'.cell ((HG9.out.later (box1 w9 _)).2) (by intro e; have := (HR9.out.lt _ e.symm).1; simp at this; omega)))
              | (go_simp; go_at_call 51; refine (HGD.out _ _ _).mono ?_; rintro e w9 ⟨rfl, hb9⟩; have hB9 : Below wr.heap.size wr w9 := (by first | exact hb9 | exact fit_drew hb9); have hB9a := hB9.alloc hB9.size (.cells #[.int .u64 x] 76); have HR9 := Lib.hid (ownsRow_later HROW.out hB9); have HM9 := Lib.hid (HM.out.later hB9); have HG9 := Lib.hid (hG'.out.later hB9); have HF9 := Lib.hid (hF'.out.later hB9); have m2a := cell_later hB9a m2; have g0a := cell_later hB9a g0; have g1a := cell_later hB9a g1; have m2' := cell_later hB9 m2; have g0' := cell_later hB9 g0; have g1' := cell_later hB9 g1; have hz9 : gb + 1 + 1 ≤ w9.heap.size := Nat.le_trans hzr hB9.size))
          all_goals
            have HFF := Lib.hid (kf.setO ⟨gb + 1, 2, none⟩ (.slice (some ⟨gg, 0, none⟩) (i + 1) cc) (by simp; omega))
            have HGF := Lib.hid (kg.setO ⟨gb + 1, 2, none⟩ (.slice (some ⟨gg, 0, none⟩) (i + 1) cc) (by simp))
            have HU2 := Lib.hid u2
            have HU3 := Lib.hid u3
            have HU4 := Lib.hid (HB.out.trans ((hB9.mono HB.out.size).trans (u4 _ hbw)))
            have HU5 := Lib.hid u5
            clear u1 u2 u3 u4 u5 k0 k1 k2 k3 k4 k5 k6 k7 kf kg hown' hgrow'
            go_wp2
            go_roundw
            case rel => exact ⟨i + 1, _, gs ++ [x], by omega, by go_num, HU4.out, HU5.out, HFF.out, HGF.out, HU2.out, by rw [List.map_append]; exact HU3.out, by rw [List.length_append, HGL.out]; rfl, fun g hg => by
              rcases List.mem_append.1 hg with h | h
              · exact hgs.out g h
              · rw [List.mem_singleton.1 h]; exact HXG.out⟩
            case measure => simp [intOf]; omega
        · have q8 : len1 = p := by omega
          subst q8
          go_wp2_with fail
          go_region_law
            (first
              | (refine step_append_lies _ rfl _ _ 51 rfl (gb + 1 + 1) 76 i0 (.int .u64 0) 1 8 Try.underlying51 hi hz0 hz1 hz2 rfl (by decide) v i _ rfl (HR9.out.alloc _) ⟨w9.heap.size, 0, none⟩ 1 1 [.int .u64 x] rfl rfl (cell_one_new _ _ _) (by simp [Value.oneCell']) (by omega) (by unfold maxLen; omega) (by omega) (by simp; omega) _ rfl ?_; intro gg cc w5 hown' hgrow' _ _; obtain ⟨u1, u2, u3, u4, u5⟩ := pushL (W := w9) HM9.out HR9.out (Nat.lt_succ_self _) hz9 hown' hgrow'; obtain ⟨k3, k4, k2⟩ := u1.cells; obtain ⟨k5, k6, k7⟩ := u1.fr; have kf := Pb.grown (HF9.out.later (box1 w9 (.cells #[.int .u64 x] 76))) hgrow' (by intro e; have := (HR9.out.lt _ e.symm).1; omega); have kg := Pb.grown (HG9.out.later (box1 w9 (.cells #[.int .u64 x] 76))) hgrow' (by intro e; have := (HR9.out.lt _ e.symm).1; omega); have k0 := (hgrow'.cell ((HG9.out.later (box1 w9 _)).1) (by intro e; have := (HR9.out.lt _ e.symm).1; simp at this; omega)); have k1 := (hgrow'.cell ((HG9.out.later (box1 w9 _)).2) (by intro e; have := (HR9.out.lt _ e.symm).1; simp at this; omega)))
              | (go_simp; go_at_call 51; refine (HGD.out _ _ _).mono ?_; rintro e w9 ⟨rfl, hb9⟩; have hB9 : Below wr.heap.size wr w9 := (by first | exact hb9 | exact fit_drew hb9); have hB9a := hB9.alloc hB9.size (.cells #[.int .u64 x] 76); have HR9 := Lib.hid (ownsRow_later HROW.out hB9); have HM9 := Lib.hid (HM.out.later hB9); have HG9 := Lib.hid (hG'.out.later hB9); have HF9 := Lib.hid (hF'.out.later hB9); have m2a := cell_later hB9a m2; have g0a := cell_later hB9a g0; have g1a := cell_later hB9a g1; have m2' := cell_later hB9 m2; have g0' := cell_later hB9 g0; have g1' := cell_later hB9 g1; have hz9 : gb + 1 + 1 ≤ w9.heap.size := Nat.le_trans hzr hB9.size))
          all_goals
            have HFF := Lib.hid (kf.setO ⟨gb + 1, 2, none⟩ (.slice (some ⟨gg, 0, none⟩) (i + 1) cc) (by simp; omega))
            have HGF := Lib.hid (kg.setO ⟨gb + 1, 2, none⟩ (.slice (some ⟨gg, 0, none⟩) (i + 1) cc) (by simp))
            have HU2 := Lib.hid u2
            have HU3 := Lib.hid u3
            have HU4 := Lib.hid (HB.out.trans ((hB9.mono HB.out.size).trans (u4 _ hbw)))
            have HU5 := Lib.hid u5
            clear u1 u2 u3 u4 u5 k0 k1 k2 k3 k4 k5 k6 k7 kf kg hown' hgrow'
            go_wp2
            go_roundw
            case rel => exact ⟨i + 1, _, gs ++ [x], by omega, by go_num, HU4.out, HU5.out, HFF.out, HGF.out, HU2.out, by rw [List.map_append]; exact HU3.out, by rw [List.length_append, HGL.out]; rfl, fun g hg => by
              rcases List.mem_append.1 hg with h | h
              · exact hgs.out g h
              · rw [List.mem_singleton.1 h]; exact HXG.out⟩
            case measure => simp [intOf]; omega
    · have hi4' : i = 4 := by omega
      subst hi4'
      have hB' := Lib.hid hB
      have hF' := Lib.hid hF
      have hG' := Lib.hid hG
      obtain ⟨g, cp, rfl⟩ := ownsRow_pos hrow (by omega)
      have HM := Lib.hid hM
      have HROW := Lib.hid hrow
      have hgw : gb + 1 + 1 ≤ g := (hrow.lt g rfl).1
      have HSL : Hid (SlK .u64 wr (some ⟨g, 0, none⟩) 4 gs) := by
        obtain ⟨ad, cap', e, ho, hle⟩ := ownK_row hgl hrow
        injection e with e1 e2 e3
        subst e1
        have := ho.sl
        rw [hgl] at this
        exact this
      have HU : Hid (∀ x ∈ gs, Pq.Px.U x) := fun x hx => Pq.goodU (hgs.out x hx)
      have HFT : Hid (fitL C D gs = true) := by
        show fitL C D gs = true
        unfold fitL
        rw [List.all_eq_true]
        exact fun x hx => fit_good (hgs.out x hx) hC1.out hD1.out.1 hD1.out.2
      have hmay : Rc.mayV 2 2 4 = true := by decide
      have HON : Hid (∀ W', SlK .u64 W' (some ⟨g, 0, none⟩) 4 gs → Calls Try.prog 52 #[.agg #[.int .i64 2, .int .i64 2, .slice (some ⟨g, 0, none⟩) 4 cp], .agg #[.int .i64 C, .int .i64 D]] W' fun e w' => e = .returned (.bool true) ∧ Below W'.heap.size W' w') := fun W' h => by
        have := fitsM_any 2 2 (some ⟨g, 0, none⟩) 4 cp C D gs (by omega) HU.out W' h
        rw [hmay, HFT.out] at this
        exact this
      obtain ⟨r, hr⟩ : ∃ r, (Rc.mayV 2 2 4 && fitL a0c0 a0m1 gs) = r := ⟨_, rfl⟩
      have HTW : Hid (∀ W', SlK .u64 W' (some ⟨g, 0, none⟩) 4 gs → Calls Try.prog 52 #[.agg #[.int .i64 2, .int .i64 2, .slice (some ⟨g, 0, none⟩) 4 cp], .agg #[.int .i64 a0c0, .int .i64 a0m1]] W' fun e w' => e = .returned (.bool r) ∧ Below W'.heap.size W' w') := fun W' h => by
        have := fitsM_any 2 2 (some ⟨g, 0, none⟩) 4 cp a0c0 a0m1 gs (by omega) HU.out W' h
        rw [hr] at this
        exact this
      have HTR : Hid (∀ W', SlK .u64 W' (some ⟨g, 0, none⟩) 4 gs → Calls Try.prog 53 #[.agg #[.int .i64 2, .int .i64 2, .slice (some ⟨g, 0, none⟩) 4 cp], .agg #[.int .i64 a0c0, .int .i64 a0m1]] W' fun e w' => e = .returned (.bool r) ∧ Below W'.heap.size W' w') := fun W' h => by
        have := refFitsM_any 2 2 (some ⟨g, 0, none⟩) 4 cp a0c0 a0m1 gs (by omega) HU.out W' h
        rw [hr] at this
        exact this
      obtain ⟨m0, m1, m2⟩ := hM.cells
      obtain ⟨g0, g1⟩ := hG
      obtain ⟨f0, f1⟩ := hF
      have hBt : Below wr.heap.size wr wr := .refl _ _
      have HGL := Lib.hid hgl
      clear hB hrow hM hgl hr
      go_wp2_with fail
      go_cut [12] (fun s12 wx => s12 = .bool true ∧ Below wr.heap.size wr wx)
      case first =>
        go_region_held3 (fun w' => w'.cell? ⟨gb + 1, 0, none⟩ = some (.int .i64 2) ∧ w'.cell? ⟨gb + 1, 1, none⟩ = some (.int .i64 2) ∧ w'.cell? ⟨gb + 1, 2, none⟩ = some (.slice (some ⟨g, 0, none⟩) 4 cp) ∧ w'.cell? ⟨gb, 0, none⟩ = some (.int .i64 C) ∧ w'.cell? ⟨gb, 1, none⟩ = some (.int .i64 D))
          (first | exact ⟨m0, m1, m2, g0, g1⟩ | exact ⟨cell_later (by repeat' (first | (with_reducible exact hBt) | (with_reducible refine Below.alloc ?_ ?_ _) | (with_reducible refine Below.drew ?_) | (with_reducible refine below_drewN ?_ _) | (with_reducible refine Below.setCell ?_ ?_ _) | exact hBt.size | (have := hBt.size; first | omega | (simp; done) | (simp; omega)))) m0, cell_later (by repeat' (first | (with_reducible exact hBt) | (with_reducible refine Below.alloc ?_ ?_ _) | (with_reducible refine Below.drew ?_) | (with_reducible refine below_drewN ?_ _) | (with_reducible refine Below.setCell ?_ ?_ _) | exact hBt.size | (have := hBt.size; first | omega | (simp; done) | (simp; omega)))) m1, cell_later (by repeat' (first | (with_reducible exact hBt) | (with_reducible refine Below.alloc ?_ ?_ _) | (with_reducible refine Below.drew ?_) | (with_reducible refine below_drewN ?_ _) | (with_reducible refine Below.setCell ?_ ?_ _) | exact hBt.size | (have := hBt.size; first | omega | (simp; done) | (simp; omega)))) m2, cell_later (by repeat' (first | (with_reducible exact hBt) | (with_reducible refine Below.alloc ?_ ?_ _) | (with_reducible refine Below.drew ?_) | (with_reducible refine below_drewN ?_ _) | (with_reducible refine Below.setCell ?_ ?_ _) | exact hBt.size | (have := hBt.size; first | omega | (simp; done) | (simp; omega)))) g0, cell_later (by repeat' (first | (with_reducible exact hBt) | (with_reducible refine Below.alloc ?_ ?_ _) | (with_reducible refine Below.drew ?_) | (with_reducible refine below_drewN ?_ _) | (with_reducible refine Below.setCell ?_ ?_ _) | exact hBt.size | (have := hBt.size; first | omega | (simp; done) | (simp; omega)))) g1⟩)
          (first
            | (go_at_call 44; refine (of_any _ _ _ _ _ _).mono ?_; rintro e w9 ⟨rfl, hb9⟩; replace hBt := bel_step (w := wr) (by repeat' (first | (with_reducible exact hBt) | (with_reducible refine Below.alloc ?_ ?_ _) | (with_reducible refine Below.drew ?_) | (with_reducible refine below_drewN ?_ _) | (with_reducible refine Below.setCell ?_ ?_ _) | exact hBt.size | (have := hBt.size; first | omega | (simp; done) | (simp; omega)))) hb9; have hsz9 := hBt.size)
            | (go_at_call 52; refine (HON.out _ (HSL.out.below (by repeat' (first | (with_reducible exact hBt) | (with_reducible refine Below.alloc ?_ ?_ _) | (with_reducible refine Below.drew ?_) | (with_reducible refine below_drewN ?_ _) | (with_reducible refine Below.setCell ?_ ?_ _) | exact hBt.size | (have := hBt.size; first | omega | (simp; done) | (simp; omega)))))).mono ?_; rintro e w9 ⟨rfl, hb9⟩; replace hBt := bel_step (w := wr) (by repeat' (first | (with_reducible exact hBt) | (with_reducible refine Below.alloc ?_ ?_ _) | (with_reducible refine Below.drew ?_) | (with_reducible refine below_drewN ?_ _) | (with_reducible refine Below.setCell ?_ ?_ _) | exact hBt.size | (have := hBt.size; first | omega | (simp; done) | (simp; omega)))) hb9; have hsz9 := hBt.size))
        all_goals
          go_wp2_with fail
          go_meet
          case rel => exact ⟨rfl, (by repeat' (first | (with_reducible exact hBt) | (with_reducible refine Below.alloc ?_ ?_ _) | (with_reducible refine Below.drew ?_) | (with_reducible refine below_drewN ?_ _) | (with_reducible refine Below.setCell ?_ ?_ _) | exact hBt.size | (have := hBt.size; first | omega | (simp; done) | (simp; omega))))⟩
      case rest =>
        obtain ⟨rfl, hBx⟩ := hcut
        have HBx := Lib.hid hBx
        clear hBx hBt
        have m0' := cell_later HBx.out m0
        have m1' := cell_later HBx.out m1
        have m2' := cell_later HBx.out m2
        have f0' := cell_later HBx.out f0
        have f1' := cell_later HBx.out f1
        clear m0 m1 m2 f0 f1 g0 g1
        obtain ⟨wd, hwd⟩ : ∃ wd : World, wd = wc := ⟨_, rfl⟩
        subst hwd
        have HS8 := Lib.hid (HSL.out.below HBx.out)
        have hBt : Below wd.heap.size wd wd := .refl _ _
        have hrr : (r == r) = true := by simp
        go_wp2_with fail
        go_cut [13] (fun s13 wx => s13 = .bool true ∧ Below wd.heap.size wd wx)
        case first =>
          go_region_held3 (fun w' => w'.cell? ⟨gb + 1, 0, none⟩ = some (.int .i64 2) ∧ w'.cell? ⟨gb + 1, 1, none⟩ = some (.int .i64 2) ∧ w'.cell? ⟨gb + 1, 2, none⟩ = some (.slice (some ⟨g, 0, none⟩) 4 cp) ∧ w'.cell? ⟨fb, 0, none⟩ = some (.int .i64 a0c0) ∧ w'.cell? ⟨fb, 1, none⟩ = some (.int .i64 a0m1))
            (first | exact ⟨m0', m1', m2', f0', f1'⟩ | exact ⟨cell_later (by repeat' (first | (with_reducible exact hBt) | (with_reducible refine Below.alloc ?_ ?_ _) | (with_reducible refine Below.drew ?_) | (with_reducible refine below_drewN ?_ _) | (with_reducible refine Below.setCell ?_ ?_ _) | exact hBt.size | (have := hBt.size; first | omega | (simp; done) | (simp; omega)))) m0', cell_later (by repeat' (first | (with_reducible exact hBt) | (with_reducible refine Below.alloc ?_ ?_ _) | (with_reducible refine Below.drew ?_) | (with_reducible refine below_drewN ?_ _) | (with_reducible refine Below.setCell ?_ ?_ _) | exact hBt.size | (have := hBt.size; first | omega | (simp; done) | (simp; omega)))) m1', cell_later (by repeat' (first | (with_reducible exact hBt) | (with_reducible refine Below.alloc ?_ ?_ _) | (with_reducible refine Below.drew ?_) | (with_reducible refine below_drewN ?_ _) | (with_reducible refine Below.setCell ?_ ?_ _) | exact hBt.size | (have := hBt.size; first | omega | (simp; done) | (simp; omega)))) m2', cell_later (by repeat' (first | (with_reducible exact hBt) | (with_reducible refine Below.alloc ?_ ?_ _) | (with_reducible refine Below.drew ?_) | (with_reducible refine below_drewN ?_ _) | (with_reducible refine Below.setCell ?_ ?_ _) | exact hBt.size | (have := hBt.size; first | omega | (simp; done) | (simp; omega)))) f0', cell_later (by repeat' (first | (with_reducible exact hBt) | (with_reducible refine Below.alloc ?_ ?_ _) | (with_reducible refine Below.drew ?_) | (with_reducible refine below_drewN ?_ _) | (with_reducible refine Below.setCell ?_ ?_ _) | exact hBt.size | (have := hBt.size; first | omega | (simp; done) | (simp; omega)))) f1'⟩)
            (first
              | (go_at_call 44; refine (of_any _ _ _ _ _ _).mono ?_; rintro e w9 ⟨rfl, hb9⟩; replace hBt := bel_step (w := wd) (by repeat' (first | (with_reducible exact hBt) | (with_reducible refine Below.alloc ?_ ?_ _) | (with_reducible refine Below.drew ?_) | (with_reducible refine below_drewN ?_ _) | (with_reducible refine Below.setCell ?_ ?_ _) | exact hBt.size | (have := hBt.size; first | omega | (simp; done) | (simp; omega)))) hb9; have hsz9 := hBt.size)
              | (go_at_call 52; refine (HTW.out _ (HS8.out.below (by repeat' (first | (with_reducible exact hBt) | (with_reducible refine Below.alloc ?_ ?_ _) | (with_reducible refine Below.drew ?_) | (with_reducible refine below_drewN ?_ _) | (with_reducible refine Below.setCell ?_ ?_ _) | exact hBt.size | (have := hBt.size; first | omega | (simp; done) | (simp; omega)))))).mono ?_; rintro e w9 ⟨rfl, hb9⟩; replace hBt := bel_step (w := wd) (by repeat' (first | (with_reducible exact hBt) | (with_reducible refine Below.alloc ?_ ?_ _) | (with_reducible refine Below.drew ?_) | (with_reducible refine below_drewN ?_ _) | (with_reducible refine Below.setCell ?_ ?_ _) | exact hBt.size | (have := hBt.size; first | omega | (simp; done) | (simp; omega)))) hb9; have hsz9 := hBt.size)
              | (go_at_call 53; refine (HTR.out _ (HS8.out.below (by repeat' (first | (with_reducible exact hBt) | (with_reducible refine Below.alloc ?_ ?_ _) | (with_reducible refine Below.drew ?_) | (with_reducible refine below_drewN ?_ _) | (with_reducible refine Below.setCell ?_ ?_ _) | exact hBt.size | (have := hBt.size; first | omega | (simp; done) | (simp; omega)))))).mono ?_; rintro e w9 ⟨rfl, hb9⟩; replace hBt := bel_step (w := wd) (by repeat' (first | (with_reducible exact hBt) | (with_reducible refine Below.alloc ?_ ?_ _) | (with_reducible refine Below.drew ?_) | (with_reducible refine below_drewN ?_ _) | (with_reducible refine Below.setCell ?_ ?_ _) | exact hBt.size | (have := hBt.size; first | omega | (simp; done) | (simp; omega)))) hb9; have hsz9 := hBt.size))
          all_goals
            go_wp2_with fail
            go_meet
            case rel => exact ⟨by simp, (by repeat' (first | (with_reducible exact hBt) | (with_reducible refine Below.alloc ?_ ?_ _) | (with_reducible refine Below.drew ?_) | (with_reducible refine below_drewN ?_ _) | (with_reducible refine Below.setCell ?_ ?_ _) | exact hBt.size | (have := hBt.size; first | omega | (simp; done) | (simp; omega))))⟩
        case rest =>
          obtain ⟨rfl, hBy⟩ := hcut
          have HBz := Lib.hid (HBx.out.trans (hBy.mono HBx.out.size))
          have HM9 := Lib.hid (HM.out.later HBz.out)
          have HG9 := Lib.hid (hG'.out.later HBz.out)
          have HR9 := Lib.hid (ownsRow_later HROW.out HBz.out)
          have HB9 := Lib.hid (hB'.out.trans (HBz.out.mono hB'.out.size))
          have hs9 := (HSL.out.below HBz.out).2
          obtain ⟨qq0, qq1⟩ := Ar.around_lt a2 4 (by omega)
          obtain ⟨q, hqe⟩ : ∃ q : Nat, Ar.around a2 4 = (q : Int) := ⟨(Ar.around a2 4).toNat, by omega⟩
          rw [hqe] at qq0 qq1
          have hq4 : q < 4 := by omega
          have HJ : Hid (∀ W, Calls Try.prog 29 #[.int .i64 a2, .int .i64 4] W fun e w' => e = .returned (.int .i64 (q : Int)) ∧ W = w') := fun W => by have := aroundOf a2 4 h2.out.1 h2.out.2 (by omega) (by omega) W; rw [hqe] at this; exact this
          have hcq : wc.cell? ⟨g, q, none⟩ = some (.int .u64 (gs.getD q 0)) := by
            rcases hs9 with h | ⟨b', o', he, hc⟩
            · omega
            · injection he with he
              injection he with e1 e2 e3
              subst e1
              subst e2
              have := hc q hq4
              rwa [Nat.zero_add] at this
          obtain ⟨old, hold⟩ : ∃ old, gs.getD q 0 = old := ⟨_, rfl⟩
          rw [hold] at hcq
          have hfq : wc.frozen? ⟨g, q, none⟩ = false := HR9.out.frozenAt q
          obtain ⟨n0, n1, n2⟩ := HM9.out.cells
          clear hs9 hold hqe hBy hBt m0' m1' m2' f0' f1'
          go_wp2_with fail
          go_cut [13] (fun s13 wx => s13 = .bool true ∧ Sb wx (gb + 1) 53 (.int .i64 2) (.int .i64 2) (.slice (some ⟨g, 0, none⟩) 4 cp) ∧ Pb wx gb C D ∧ SlK .u64 wx (some ⟨g, 0, none⟩) 4 (gs.set q a3) ∧ Below w.heap.size w wx)
          case first =>
            go_region_with (go_at_call 29; refine (HJ.out _).mono ?_; rintro e w9 ⟨rfl, rfl⟩)
            all_goals
              go_wp2_with fail
              go_meet
              case rel => exact ⟨rfl, Sb.set (w := wc.drew) HM9.out ⟨g, q, none⟩ _ (by simp; omega), Pb.setO (w := wc.drew) HG9.out ⟨g, q, none⟩ _ (by simp; omega), slk_put (w := wc.drew) HR9.out HGL.out hq4, (HB9.out.drew).setCell (p := ⟨g, q, none⟩) (by simp; omega) _⟩
          case rest =>
            obtain ⟨rfl, hM2, hG2, hS2, hB2⟩ := hcut
            have HU2 : Hid (∀ x ∈ gs.set q a3, Pq.Px.U x) := fun x hx => by
              rcases List.mem_or_eq_of_mem_set hx with h | h
              · exact HU.out x h
              · rw [h]; exact hp.out
            have HM2 := Lib.hid hM2
            have HG2 := Lib.hid hG2
            have HS2 := Lib.hid hS2
            have HB2 := Lib.hid hB2
            clear hM2 hG2 hS2 hB2 hcq hfq n0 n1 n2
            generalize gs.set q a3 = ls at HU2 HS2
            obtain ⟨t, ht⟩ : ∃ t, (Rc.mayV 2 2 4 && fitL C D ls) = t := ⟨_, rfl⟩
            have HA1 : Hid (∀ W', SlK .u64 W' (some ⟨g, 0, none⟩) 4 ls → Calls Try.prog 52 #[.agg #[.int .i64 2, .int .i64 2, .slice (some ⟨g, 0, none⟩) 4 cp], .agg #[.int .i64 C, .int .i64 D]] W' fun e w' => e = .returned (.bool t) ∧ Below W'.heap.size W' w') := fun W' h => by
              have := fitsM_any 2 2 (some ⟨g, 0, none⟩) 4 cp C D ls (by omega) HU2.out W' h
              rw [ht] at this
              exact this
            have HA2 : Hid (∀ W', SlK .u64 W' (some ⟨g, 0, none⟩) 4 ls → Calls Try.prog 53 #[.agg #[.int .i64 2, .int .i64 2, .slice (some ⟨g, 0, none⟩) 4 cp], .agg #[.int .i64 C, .int .i64 D]] W' fun e w' => e = .returned (.bool t) ∧ Below W'.heap.size W' w') := fun W' h => by
              have := refFitsM_any 2 2 (some ⟨g, 0, none⟩) 4 cp C D ls (by omega) HU2.out W' h
              rw [ht] at this
              exact this
            have HA3 : Hid (∀ W', Calls Try.prog 52 #[.agg #[.int .i64 0, .int .i64 0, .slice none 0 0], .agg #[.int .i64 C, .int .i64 D]] W' fun e w' => e = .returned (.bool false) ∧ Below W'.heap.size W' w') := fun W' => by
              have := fitsM_any 0 0 none 0 0 C D [] (by omega) (fun x hx => absurd hx (by simp)) W' ⟨rfl, .inl rfl⟩
              rw [show Rc.mayV 0 0 0 = false from by decide] at this
              exact this
            obtain ⟨m0, m1, m2⟩ := HM2.out.cells
            obtain ⟨g0, g1⟩ := HG2.out
            have htt : (t == t) = true := by simp
            clear ht
            obtain ⟨wd, hwd⟩ : ∃ wd : World, wd = wc := ⟨_, rfl⟩
            subst hwd
            have hBt : Below wd.heap.size wd wd := .refl _ _
            go_wp2_with fail
            go_region_held3 (fun w' => w'.cell? ⟨gb + 1, 0, none⟩ = some (.int .i64 2) ∧ w'.cell? ⟨gb + 1, 1, none⟩ = some (.int .i64 2) ∧ w'.cell? ⟨gb + 1, 2, none⟩ = some (.slice (some ⟨g, 0, none⟩) 4 cp) ∧ w'.cell? ⟨gb, 0, none⟩ = some (.int .i64 C) ∧ w'.cell? ⟨gb, 1, none⟩ = some (.int .i64 D))
              (first | exact ⟨m0, m1, m2, g0, g1⟩ | exact ⟨cell_later (by repeat' (first | (with_reducible exact hBt) | (with_reducible refine Below.alloc ?_ ?_ _) | (with_reducible refine Below.drew ?_) | (with_reducible refine below_drewN ?_ _) | (with_reducible refine Below.setCell ?_ ?_ _) | exact hBt.size | (have := hBt.size; first | omega | (simp; done) | (simp; omega)))) m0, cell_later (by repeat' (first | (with_reducible exact hBt) | (with_reducible refine Below.alloc ?_ ?_ _) | (with_reducible refine Below.drew ?_) | (with_reducible refine below_drewN ?_ _) | (with_reducible refine Below.setCell ?_ ?_ _) | exact hBt.size | (have := hBt.size; first | omega | (simp; done) | (simp; omega)))) m1, cell_later (by repeat' (first | (with_reducible exact hBt) | (with_reducible refine Below.alloc ?_ ?_ _) | (with_reducible refine Below.drew ?_) | (with_reducible refine below_drewN ?_ _) | (with_reducible refine Below.setCell ?_ ?_ _) | exact hBt.size | (have := hBt.size; first | omega | (simp; done) | (simp; omega)))) m2, cell_later (by repeat' (first | (with_reducible exact hBt) | (with_reducible refine Below.alloc ?_ ?_ _) | (with_reducible refine Below.drew ?_) | (with_reducible refine below_drewN ?_ _) | (with_reducible refine Below.setCell ?_ ?_ _) | exact hBt.size | (have := hBt.size; first | omega | (simp; done) | (simp; omega)))) g0, cell_later (by repeat' (first | (with_reducible exact hBt) | (with_reducible refine Below.alloc ?_ ?_ _) | (with_reducible refine Below.drew ?_) | (with_reducible refine below_drewN ?_ _) | (with_reducible refine Below.setCell ?_ ?_ _) | exact hBt.size | (have := hBt.size; first | omega | (simp; done) | (simp; omega)))) g1⟩)
              (first
                | (go_at_call 44; refine (of_any _ _ _ _ _ _).mono ?_; rintro e w9 ⟨rfl, hb9⟩; replace hBt := bel_step (w := wd) (by repeat' (first | (with_reducible exact hBt) | (with_reducible refine Below.alloc ?_ ?_ _) | (with_reducible refine Below.drew ?_) | (with_reducible refine below_drewN ?_ _) | (with_reducible refine Below.setCell ?_ ?_ _) | exact hBt.size | (have := hBt.size; first | omega | (simp; done) | (simp; omega)))) hb9; have hsz9 := hBt.size)
                | (go_at_call 52; with_reducible show Calls _ _ #[Value.agg #[Value.int .i64 0, _, _], _] _ _; refine (HA3.out _).mono ?_; rintro e w9 ⟨rfl, hb9⟩; replace hBt := bel_step (w := wd) (by repeat' (first | (with_reducible exact hBt) | (with_reducible refine Below.alloc ?_ ?_ _) | (with_reducible refine Below.drew ?_) | (with_reducible refine below_drewN ?_ _) | (with_reducible refine Below.setCell ?_ ?_ _) | exact hBt.size | (have := hBt.size; first | omega | (simp; done) | (simp; omega)))) hb9; have hsz9 := hBt.size)
                | (go_at_call 52; refine (HA1.out _ (HS2.out.below (by repeat' (first | (with_reducible exact hBt) | (with_reducible refine Below.alloc ?_ ?_ _) | (with_reducible refine Below.drew ?_) | (with_reducible refine below_drewN ?_ _) | (with_reducible refine Below.setCell ?_ ?_ _) | exact hBt.size | (have := hBt.size; first | omega | (simp; done) | (simp; omega)))))).mono ?_; rintro e w9 ⟨rfl, hb9⟩; replace hBt := bel_step (w := wd) (by repeat' (first | (with_reducible exact hBt) | (with_reducible refine Below.alloc ?_ ?_ _) | (with_reducible refine Below.drew ?_) | (with_reducible refine below_drewN ?_ _) | (with_reducible refine Below.setCell ?_ ?_ _) | exact hBt.size | (have := hBt.size; first | omega | (simp; done) | (simp; omega)))) hb9; have hsz9 := hBt.size)
                | (go_at_call 53; refine (HA2.out _ (HS2.out.below (by repeat' (first | (with_reducible exact hBt) | (with_reducible refine Below.alloc ?_ ?_ _) | (with_reducible refine Below.drew ?_) | (with_reducible refine below_drewN ?_ _) | (with_reducible refine Below.setCell ?_ ?_ _) | exact hBt.size | (have := hBt.size; first | omega | (simp; done) | (simp; omega)))))).mono ?_; rintro e w9 ⟨rfl, hb9⟩; replace hBt := bel_step (w := wd) (by repeat' (first | (with_reducible exact hBt) | (with_reducible refine Below.alloc ?_ ?_ _) | (with_reducible refine Below.drew ?_) | (with_reducible refine below_drewN ?_ _) | (with_reducible refine Below.setCell ?_ ?_ _) | exact hBt.size | (have := hBt.size; first | omega | (simp; done) | (simp; omega)))) hb9; have hsz9 := hBt.size)
                | (go_at_call 42; refine (lives_any _).mono ?_; rintro e w9 ⟨rfl, hb9⟩; replace hBt := bel_step (w := wd) (by repeat' (first | (with_reducible exact hBt) | (with_reducible refine Below.alloc ?_ ?_ _) | (with_reducible refine Below.drew ?_) | (with_reducible refine below_drewN ?_ _) | (with_reducible refine Below.setCell ?_ ?_ _) | exact hBt.size | (have := hBt.size; first | omega | (simp; done) | (simp; omega)))) hb9; have hsz9 := hBt.size))
            all_goals
              go_wp2
              go_ret
              exact ⟨ret_b (by simp), HB2.out.trans (Below.mono (by repeat' (first | (with_reducible exact hBt) | (with_reducible refine Below.alloc ?_ ?_ _) | (with_reducible refine Below.drew ?_) | (with_reducible refine below_drewN ?_ _) | (with_reducible refine Below.setCell ?_ ?_ _) | exact hBt.size | (have := hBt.size; first | omega | (simp; done) | (simp; omega)))) HB2.out.size)⟩
end Go.Proofs.Yteonfgphihacgaa
