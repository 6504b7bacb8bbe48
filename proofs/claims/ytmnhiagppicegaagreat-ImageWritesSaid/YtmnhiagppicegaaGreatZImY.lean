/- An image's bytes, of a raw kind, by the code, over any memory: Write. Condition: the kind may tell the image, at most 80 by 9. -/
import Derived.Test.YtmnhiagppicegaaGreatZgAH
import Derived.Deep.DeepCutAuto
import Derived.Deep.RegionHeld3
namespace Go.Proofs.YtmnhiagppicegaaGreat
open Go.RowKit
set_option linter.unusedVariables false
theorem Im.undrew {B : Nat} {w w' : World} (h : Below B w.drew w') : Below B w w' := ⟨h.os, h.tape, h.output, h.size, h.block⟩
theorem Im.step_conv {P : Program} {ops : Array Oper} {o : Oper} {a : Act} {w : World} {K : Act → World → Prop} {Q : Exit → Act → World → Prop} {E : Prop} (hgd : o.guard = none) (s : Operand) {t1 t2 : TypeId} (ho : o.op = .convert t1 t2 s) {x : Value} (hs : a.eval s = x)
    {v : Value} {w' : World} (hr : (convert t1 t2 x).run P w = .ok v w') (hK : K (a.put o.dst v) w') :
    if Region.wanted o (yielded ops a.tmps) = true then Oper.wp P o a w K Q else E := by
  have hw : Region.wanted o (yielded ops a.tmps) = true := by simp [Region.wanted, hgd]
  rw [if_pos hw]
  unfold Oper.wp execOp
  simp only [ho, Sem.run_bind, Sem.run_pure, Result.andThen_ok, hs, hr]
  exact hK
set_option maxRecDepth 100000 in
set_option maxHeartbeats 4000000 in
theorem imWrite_raw (c m kd : Int) (gw gh : Nat) (hc : Nu.I c) (hm : Nu.I m) (hk : Nu.I kd) (pb po n cap : Nat) (L : List Int) (hw80 : gw ≤ 80) (hh9 : gh ≤ 9) (hn : n = gw * gh) (hnc : n ≤ cap) (hcm : cap ≤ 9223372036854775807) (hU : ∀ x ∈ L, Pq.Px.U x)
    (ht : Im.tellV c m (gw : Int) (gh : Int) n L kd = true) (hk3 : 3 < kd) (w : World) (hs : SlK .u64 w (some ⟨pb, po, none⟩) n L) :
    Calls Tryz.prog 15 #[agI c m (gw : Int) (gh : Int) (.slice (some ⟨pb, po, none⟩) n cap), .int .i64 kd] w fun e w' => ∃ a' c', e = .returned (.tuple #[.slice a' (Im.rawV kd m gw gh L).length c', .int .i64 0]) ∧ SlK .u8 w' a' (Im.rawV kd m gw gh L).length (Im.rawV kd m gw gh L) ∧ Below w.heap.size w w' := by
  have hn9 : n ≤ 720 := by rw [hn]; exact Nat.mul_le_mul hw80 hh9
  have hmay : Im.mayV c m (gw : Int) (gh : Int) n L = true := by unfold Im.tellV at ht; simp only [Bool.and_eq_true] at ht; exact ht.2
  have htk : Im.tellsV ⟨kd, (gw : Int), (gh : Int), m⟩ c m = true := by
    rw [Im.tells_may hmay]; unfold Im.tellV at ht; simp only [Bool.and_eq_true] at ht; exact ht.1
  obtain ⟨hHd, hs2⟩ : Hd.May ⟨kd, (gw : Int), (gh : Int), m⟩ ∧ Hj.same2 (Hj.chan ⟨kd, (gw : Int), (gh : Int), m⟩) m c m = true := by
    unfold Im.tellsV at htk
    rw [Bool.and_eq_true, decide_eq_true_eq] at htk
    exact htk
  have hcc : Hj.chan ⟨kd, (gw : Int), (gh : Int), m⟩ = c := by unfold Hj.same2 at hs2; simp only [Bool.and_eq_true, beq_iff_eq] at hs2; exact hs2.1
  have hRM : Rw.May ⟨kd, (gw : Int), (gh : Int), m⟩ := ⟨hHd, by simp only; omega⟩
  have hFit := Hj.may_fit hHd
  have hfa : Pl.fitAll ⟨kd, (gw : Int), (gh : Int), m⟩ L = true := by
    unfold Im.mayV at hmay
    rw [Bool.and_eq_true] at hmay
    unfold Pl.fitAll
    rw [hcc]
    exact hmay.2
  have hFits := Im.fits_of_all hU hfa
  have hL : L.length = gw * gh := by rw [hs.1, hn]
  have HRW : Hid (∀ W, Below w.heap.size w W → Calls Tryz.prog 90 #[.slice (some ⟨pb, po, none⟩) n cap, agH ⟨kd, (gw : Int), (gh : Int), m⟩] W (RwwR (Rw.wRows ⟨kd, (gw : Int), (gh : Int), m⟩ L gw gh, 0) W)) := Lib.hid fun W hb => rwWrite_good pb po n cap L ⟨kd, (gw : Int), (gh : Int), m⟩ hFit hRM gw gh rfl rfl hw80 hh9 hL hn hnc hcm hFits W (hs.below hb)
  have HHD : Hid (∀ W, Below w.heap.size w W → Calls Tryz.prog 17 #[agI c m (gw : Int) (gh : Int) (.slice (some ⟨pb, po, none⟩) n cap), .int .i64 kd] W (ImHeadR (⟨kd, (gw : Int), (gh : Int), m⟩, 0) W)) := Lib.hid fun W hb => by
    have := imHead_any c m (gw : Int) (gh : Int) hc hm hFit.2.1 hFit.2.2.1 (some ⟨pb, po, none⟩) n cap L (by omega) hU kd hk W (hs.below hb)
    unfold Im.headV at this
    rw [if_pos ht] at this
    exact this
  have HHW := Lib.hid (hwrite_any ⟨kd, (gw : Int), (gh : Int), m⟩ hFit)
  rw [Hj.wr_may hHd] at HHW
  have hTs := Hj.text_size hFit
  have hTb := Hj.text_bytes ⟨kd, (gw : Int), (gh : Int), m⟩
  have hT1 : 1 ≤ (Hj.text ⟨kd, (gw : Int), (gh : Int), m⟩).size := by
    have h := Hj.text_len ⟨kd, (gw : Int), (gh : Int), m⟩
    have : 1 ≤ (Hd.bytes ⟨kd, (gw : Int), (gh : Int), m⟩).length := by unfold Hd.bytes; simp
    omega
  have HWT := Lib.hid (Im.writer_raw ⟨kd, (gw : Int), (gh : Int), m⟩ hHd (by simp only; omega))
  have hRl := Rw.wRows_len hRM hFits rfl hL gh (Nat.le_refl _)
  have hst := Rw.stride_at hRM
  have hmm := hRM.m
  unfold Im.rawV
  obtain ⟨R, hR⟩ : ∃ R, Rw.wRows ⟨kd, (gw : Int), (gh : Int), m⟩ L gw gh = R := ⟨_, rfl⟩
  rw [hR] at HRW hRl ⊢
  have HRA : Hid (∀ W b9, Below w.heap.size w W → Hb W b9 49 ⟨kd, (gw : Int), (gh : Int), m⟩ → Calls Tryz.prog 89 #[.slice (some ⟨pb, po, none⟩) n cap, .pointer (some ⟨b9, 0, none⟩)] W fun e w' => ∃ a' c', e = .returned (.slice a' R.length c') ∧ SlK .u8 w' a' R.length R ∧ Below W.heap.size W w') := Lib.hid fun W b9 hb hX => Im.raster_raw _ n cap R _ b9 W hX fun W2 hb2 => HRW.out W2 (hb.trans (hb2.mono hb.size))
  have hR1 : 1 ≤ R.length := by
    rw [hRl]
    simp only at hmm
    exact Nat.mul_pos (by omega) hst.1
  have hR9 : R.length ≤ 300000 := by
    rw [hRl]
    exact Nat.le_trans (Nat.mul_le_mul hh9 hst.2.1) (by decide)
  rw [← hTb]
  obtain ⟨T, hT⟩ : ∃ T, Hj.text ⟨kd, (gw : Int), (gh : Int), m⟩ = T := ⟨_, rfl⟩
  rw [hT] at HHW hTs hT1 ⊢
  obtain ⟨N, hN⟩ : ∃ N, R.length = N := ⟨_, rfl⟩
  rw [hN] at HRA hR1 hR9
  have HNR := Lib.hid hN
  have hTl : (bytesOf T ++ R).length = T.size + N := by rw [List.length_append, bytesOf_length, hN]
  rw [hTl]
  unfold agH at HHW HWT
  simp only at HHW HWT
  have X := Ib.new w 40 c m (gw : Int) (gh : Int) (.slice (some ⟨pb, po, none⟩) n cap)
  have hbx := (Below.refl w.heap.size w).alloc (Nat.le_refl _) (.cells #[.int .i64 c, .int .i64 m, .int .i64 gw, .int .i64 gh, .slice (some ⟨pb, po, none⟩) n cap] 40)
  obtain ⟨W0, hW0⟩ : ∃ W0, w.alloc (.cells #[.int .i64 c, .int .i64 m, .int .i64 gw, .int .i64 gh, .slice (some ⟨pb, po, none⟩) n cap] 40) = W0 := ⟨_, rfl⟩
  rw [hW0] at X hbx
  have HT1 := Lib.hid hT1; have HTS := Lib.hid hTs; have HR1 := Lib.hid hR1; have HR9 := Lib.hid hR9
  clear hmay htk hs2 hcc hfa hL hTb hRl hst hmm hR hT hN hTl hs hU ht HRW hHd hRM hFit hFits hn hnc hcm hn9 hw80 hh9 hc hm hk hk3 hT1 hTs hR1 hR9
  unfold agI at HHD ⊢
  unfold ImHeadR agH at HHD
  simp only at HHD
  go_enter Tryz.func15, Tryz.ntmps15
  go_upto_region 1 with fail
  try rw [hW0]
  clear hW0
  obtain ⟨n0, n1, n2, n3, n4⟩ := X.cells
  go_wp2_with fail
  refine (HHD.out _ hbx).mono ?_
  rintro e w2 ⟨rfl, hb2⟩
  replace X := X.later hb2
  replace hbx := hbx.trans (hb2.mono hbx.size)
  clear n0 n1 n2 n3 n4 hb2 HHD
  go_upto_region 2 with fail
  have Y := Hb.new w2 49 ⟨kd, (gw : Int), (gh : Int), m⟩
  have hb1 := (Below.refl w2.heap.size w2).alloc (Nat.le_refl _) (.cells #[.int .i64 kd, .int .i64 gw, .int .i64 gh, .int .i64 m] 49)
  simp only at Y
  obtain ⟨yb, hyb⟩ : ∃ yb, w2.heap.size = yb := ⟨_, rfl⟩
  obtain ⟨W1, hW1⟩ : ∃ W1, w2.alloc (.cells #[.int .i64 kd, .int .i64 gw, .int .i64 gh, .int .i64 m] 49) = W1 := ⟨_, rfl⟩
  rw [hW1] at Y hb1
  try rw [hW1]
  rw [hyb] at Y
  try rw [hyb]
  clear hW1 hyb
  replace X := X.later hb1
  replace hbx := hbx.trans (hb1.mono hbx.size)
  clear hb1
  obtain ⟨k0, k1, k2, k3⟩ := Y.cells
  simp only at k0 k1 k2 k3
  go_wp2_with fail
  refine (HHW.out _).mono ?_
  rintro e w3 ⟨rfl, hb3⟩
  replace X := X.later hb3
  replace Y := Y.later hb3
  replace hbx := hbx.trans (hb3.mono hbx.size)
  clear k0 k1 k2 k3 hb3 HHW
  obtain ⟨k0, k1, k2, k3⟩ := Y.cells
  obtain ⟨n0, n1, n2, n3, n4⟩ := X.cells
  simp only at k0 k1 k2 k3
  clear n0 n1 n2 n3
  go_upto_region 5 with fail
  refine wp_region_held_drew (S := (fun w' => w'.cell? ⟨yb, 0, none⟩ = some (.int .i64 kd) ∧ w'.cell? ⟨yb, 1, none⟩ = some (.int .i64 gw) ∧ w'.cell? ⟨yb, 2, none⟩ = some (.int .i64 gh) ∧ w'.cell? ⟨yb, 3, none⟩ = some (.int .i64 m) ∧ w'.cell? ⟨w.heap.size, 4, none⟩ = some (.slice (some ⟨pb, po, none⟩) n cap))) (by kernel_rfl) (by (try dsimp only); exact ⟨k0, k1, k2, k3, n4⟩) (fun hHeld => ?_)
  refine wpAnyH_take (i := 0) (v := .string T) rfl (by kernel_rfl) (by kernel_rfl) (by kernel_rfl) (fun _ _ _ h => h) (Or.inl ⟨by rfl, by intro w hSw; (try dsimp only at hSw); go_simp⟩) (by assumption) ?_
  (try simp only [Act.put, List.setIfInBounds_toArray])
  refine wpAnyH_take (i := 2) (v := .agg #[.int .i64 kd, .int .i64 gw, .int .i64 gh, .int .i64 m]) rfl (by kernel_rfl) (by kernel_rfl) (by kernel_rfl) (fun _ _ _ h => h) (Or.inl ⟨by rfl, by intro w hSw; (try dsimp only at hSw); go_simp⟩) (by assumption) ?_
  (try simp only [Act.put])
  refine wpAnyH_take (i := 4) (v := .pointer (some ⟨w.heap.size, 2, none⟩)) rfl (by kernel_rfl) (by kernel_rfl) (by kernel_rfl) (fun _ _ _ h => h) (Or.inl ⟨by rfl, by intro w hSw; (try dsimp only at hSw); go_simp⟩) (by assumption) ?_
  (try simp only [Act.put])
  refine wpAnyH_take (i := 5) (v := .pointer (some ⟨w.heap.size, 4, none⟩)) rfl (by kernel_rfl) (by kernel_rfl) (by kernel_rfl) (fun _ _ _ h => h) (Or.inl ⟨by rfl, by intro w hSw; (try dsimp only at hSw); go_simp⟩) (by assumption) ?_
  (try simp only [Act.put])
  refine wpAnyH_take (i := 6) (v := .slice (some ⟨pb, po, none⟩) n cap) rfl (by kernel_rfl) (by kernel_rfl) (by kernel_rfl) (fun _ _ _ h => h) (Or.inl ⟨by rfl, by intro w hSw; (try dsimp only at hSw); go_simp⟩) (by assumption) ?_
  (try simp only [Act.put])
  refine wpAnyH_ready (rs := [1, 3]) (by kernel_rfl) (by simp) ?_
  refine AllReadyH.cons rfl (fun K hK => ?_) ?_
  · obtain ⟨qa, va, hqa, hra, hza⟩ := Im.conv_rm (w3.drew) T (by have := HTS.out; omega)
    have hBA : Below w3.heap.size w3 va := Im.undrew hza
    refine Im.step_conv rfl _ rfl rfl hqa ?_
    change K (Act.put _ (some 25) _) _
    refine hK.out _ _ ⟨cell_later hBA k0, cell_later hBA k1, cell_later hBA k2, cell_later hBA k3, cell_later hBA n4⟩ (fun hHeld => ?_)
    clear hK K
    (try simp only [Act.put])
    refine wpAnyH_ready (rs := [3]) (by kernel_rfl) (by simp) ?_
    refine AllReadyH.cons rfl (fun K hK => ?_) ?_
    · go_simp
      go_at_call 51
      refine (HWT.out _).mono ?_
      rintro e w9 ⟨b9, rfl, hX9, hb9⟩
      have hB9 : Below w3.heap.size w3 w9 := bel_step (w := w3) hBA hb9
      go_wp2_with fail
      refine hK.out _ _ ⟨cell_later hB9 k0, cell_later hB9 k1, cell_later hB9 k2, cell_later hB9 k3, cell_later hB9 n4⟩ (fun hHeld => ?_)
      clear hK K
      (try simp only [Act.put, List.setIfInBounds_toArray, List.set_cons_zero, List.set_cons_succ])
      refine wpAnyH_ready (rs := [7]) (by kernel_rfl) (by simp) ?_
      refine AllReadyH.cons rfl (fun K hK => ?_) ?_
      · go_simp
        go_at_call 89
        refine (HRA.out _ b9 (hbx.trans (hB9.mono hbx.size)) hX9).mono ?_
        rintro e w10 ⟨ra, rc, rfl, hrs, hb10⟩
        have hB10 : Below w3.heap.size w3 w10 := bel_step (w := w3) hB9 hb10
        go_wp2_with fail
        refine hK.out _ _ ⟨cell_later hB10 k0, cell_later hB10 k1, cell_later hB10 k2, cell_later hB10 k3, cell_later hB10 n4⟩ (fun hHeld => ?_)
        clear hK K
        (try simp only [Act.put, List.setIfInBounds_toArray, List.set_cons_zero, List.set_cons_succ])
        have hrX := (hra.later hb9).later hb10
        have hzX : w3.heap.size ≤ w3.drew.heap.size := Nat.le_refl _
        refine wpAnyH_ready (rs := [8]) (by kernel_rfl) (by simp) ?_
        refine AllReadyH.cons rfl (fun K hK => ?_) ?_
        · refine Im.step_app rfl _ _ rfl hrX HT1.out hrs HR1.out (by have := HTS.out; have := HR9.out; omega) rfl rfl (fun a' c' w' hs' hb' => ?_)
          have hBf : Below w3.heap.size w3 w' := hB10.trans (hb' _ hzX)
          change K (Act.put _ (some 32) _) _
          refine hK.out _ _ ⟨cell_later hBf k0, cell_later hBf k1, cell_later hBf k2, cell_later hBf k3, cell_later hBf n4⟩ (fun hHeld => ?_)
          clear hK K
          (try simp only [Act.put, List.setIfInBounds_toArray, List.set_cons_zero, List.set_cons_succ])
          refine wpAnyH_take (i := 9) (v := .slice a' (T.size + N) c') rfl (by kernel_rfl) (by kernel_rfl) (by kernel_rfl) (fun _ _ _ h => h) (Or.inl ⟨by rfl, by intro w hSw; (try dsimp only at hSw); go_simp⟩) (by assumption) ?_
          change wpAnyH _ _ _ _ _ _ _ (Act.put _ (some 4) _) _
          (try simp only [Act.put, List.setIfInBounds_toArray, List.set_cons_zero, List.set_cons_succ])
          refine wpAnyH_take (i := 10) (v := .int .i64 0) rfl (by kernel_rfl) (by kernel_rfl) (by kernel_rfl) (fun _ _ _ h => h) (Or.inl ⟨by rfl, by intro w hSw; (try dsimp only at hSw); go_simp⟩) (by assumption) ?_
          change wpAnyH _ _ _ _ _ _ _ (Act.put _ (some 5) _) _
          (try simp only [Act.put, List.setIfInBounds_toArray, List.set_cons_zero, List.set_cons_succ])
          refine wpAnyH_done (by kernel_rfl) ?_ _
          go_wp2
          go_returns
          exact ⟨a', c', rfl, hs', hbx.trans (hBf.mono hbx.size)⟩
        exact AllReadyH.nil
      exact AllReadyH.nil
    exact AllReadyH.nil
  refine AllReadyH.cons rfl (fun K hK => ?_) ?_
  · go_simp
    go_at_call 51
    refine (HWT.out _).mono ?_
    rintro e w9 ⟨b9, rfl, hX9, hb9⟩
    have hB9 : Below w3.heap.size w3 w9 := Im.undrew hb9
    go_wp2_with fail
    refine hK.out _ _ ⟨cell_later hB9 k0, cell_later hB9 k1, cell_later hB9 k2, cell_later hB9 k3, cell_later hB9 n4⟩ (fun hHeld => ?_)
    clear hK K
    (try simp only [Act.put, List.setIfInBounds_toArray, List.set_cons_zero, List.set_cons_succ])
    refine wpAnyH_ready (rs := [1, 7]) (by kernel_rfl) (by simp) ?_
    refine AllReadyH.cons rfl (fun K hK => ?_) ?_
    · obtain ⟨qb, vb, hqb, hrb, hzb⟩ := Im.conv_rm (w9) T (by have := HTS.out; omega)
      have hBB : Below w3.heap.size w3 vb := bel_step (w := w3) hB9 hzb
      refine Im.step_conv rfl _ rfl rfl hqb ?_
      change K (Act.put _ (some 25) _) _
      refine hK.out _ _ ⟨cell_later hBB k0, cell_later hBB k1, cell_later hBB k2, cell_later hBB k3, cell_later hBB n4⟩ (fun hHeld => ?_)
      clear hK K
      (try simp only [Act.put, List.setIfInBounds_toArray, List.set_cons_zero, List.set_cons_succ])
      refine wpAnyH_ready (rs := [7]) (by kernel_rfl) (by simp) ?_
      refine AllReadyH.cons rfl (fun K hK => ?_) ?_
      · go_simp
        go_at_call 89
        refine (HRA.out _ b9 (hbx.trans (hBB.mono hbx.size)) (hX9.later hzb)).mono ?_
        rintro e w10 ⟨ra, rc, rfl, hrs, hb10⟩
        have hB10 : Below w3.heap.size w3 w10 := bel_step (w := w3) hBB hb10
        go_wp2_with fail
        refine hK.out _ _ ⟨cell_later hB10 k0, cell_later hB10 k1, cell_later hB10 k2, cell_later hB10 k3, cell_later hB10 n4⟩ (fun hHeld => ?_)
        clear hK K
        (try simp only [Act.put, List.setIfInBounds_toArray, List.set_cons_zero, List.set_cons_succ])
        have hrX := hrb.later hb10
        have hzX : w3.heap.size ≤ w9.heap.size := hB9.size
        refine wpAnyH_ready (rs := [8]) (by kernel_rfl) (by simp) ?_
        refine AllReadyH.cons rfl (fun K hK => ?_) ?_
        · refine Im.step_app rfl _ _ rfl hrX HT1.out hrs HR1.out (by have := HTS.out; have := HR9.out; omega) rfl rfl (fun a' c' w' hs' hb' => ?_)
          have hBf : Below w3.heap.size w3 w' := hB10.trans (hb' _ hzX)
          change K (Act.put _ (some 32) _) _
          refine hK.out _ _ ⟨cell_later hBf k0, cell_later hBf k1, cell_later hBf k2, cell_later hBf k3, cell_later hBf n4⟩ (fun hHeld => ?_)
          clear hK K
          (try simp only [Act.put, List.setIfInBounds_toArray, List.set_cons_zero, List.set_cons_succ])
          refine wpAnyH_take (i := 9) (v := .slice a' (T.size + N) c') rfl (by kernel_rfl) (by kernel_rfl) (by kernel_rfl) (fun _ _ _ h => h) (Or.inl ⟨by rfl, by intro w hSw; (try dsimp only at hSw); go_simp⟩) (by assumption) ?_
          change wpAnyH _ _ _ _ _ _ _ (Act.put _ (some 4) _) _
          (try simp only [Act.put, List.setIfInBounds_toArray, List.set_cons_zero, List.set_cons_succ])
          refine wpAnyH_take (i := 10) (v := .int .i64 0) rfl (by kernel_rfl) (by kernel_rfl) (by kernel_rfl) (fun _ _ _ h => h) (Or.inl ⟨by rfl, by intro w hSw; (try dsimp only at hSw); go_simp⟩) (by assumption) ?_
          change wpAnyH _ _ _ _ _ _ _ (Act.put _ (some 5) _) _
          (try simp only [Act.put, List.setIfInBounds_toArray, List.set_cons_zero, List.set_cons_succ])
          refine wpAnyH_done (by kernel_rfl) ?_ _
          go_wp2
          go_returns
          exact ⟨a', c', rfl, hs', hbx.trans (hBf.mono hbx.size)⟩
        exact AllReadyH.nil
      exact AllReadyH.nil
    refine AllReadyH.cons rfl (fun K hK => ?_) ?_
    · go_simp
      go_at_call 89
      refine (HRA.out _ b9 (hbx.trans (hB9.mono hbx.size)) hX9).mono ?_
      rintro e w10 ⟨ra, rc, rfl, hrs, hb10⟩
      have hB10 : Below w3.heap.size w3 w10 := bel_step (w := w3) hB9 hb10
      go_wp2_with fail
      refine hK.out _ _ ⟨cell_later hB10 k0, cell_later hB10 k1, cell_later hB10 k2, cell_later hB10 k3, cell_later hB10 n4⟩ (fun hHeld => ?_)
      clear hK K
      (try simp only [Act.put, List.setIfInBounds_toArray, List.set_cons_zero, List.set_cons_succ])
      refine wpAnyH_ready (rs := [1]) (by kernel_rfl) (by simp) ?_
      refine AllReadyH.cons rfl (fun K hK => ?_) ?_
      · obtain ⟨qc, vc, hqc, hrc, hzc⟩ := Im.conv_rm (w10) T (by have := HTS.out; omega)
        have hBC : Below w3.heap.size w3 vc := bel_step (w := w3) hB10 hzc
        refine Im.step_conv rfl _ rfl rfl hqc ?_
        change K (Act.put _ (some 25) _) _
        refine hK.out _ _ ⟨cell_later hBC k0, cell_later hBC k1, cell_later hBC k2, cell_later hBC k3, cell_later hBC n4⟩ (fun hHeld => ?_)
        clear hK K
        (try simp only [Act.put, List.setIfInBounds_toArray, List.set_cons_zero, List.set_cons_succ])
        have hrX := hrc
        have hrs2 := hrs.below hzc
        have hzX : w3.heap.size ≤ w10.heap.size := hB10.size
        refine wpAnyH_ready (rs := [8]) (by kernel_rfl) (by simp) ?_
        refine AllReadyH.cons rfl (fun K hK => ?_) ?_
        · refine Im.step_app rfl _ _ rfl hrX HT1.out hrs2 HR1.out (by have := HTS.out; have := HR9.out; omega) rfl rfl (fun a' c' w' hs' hb' => ?_)
          have hBf : Below w3.heap.size w3 w' := hBC.trans (hb' _ hzX)
          change K (Act.put _ (some 32) _) _
          refine hK.out _ _ ⟨cell_later hBf k0, cell_later hBf k1, cell_later hBf k2, cell_later hBf k3, cell_later hBf n4⟩ (fun hHeld => ?_)
          clear hK K
          (try simp only [Act.put, List.setIfInBounds_toArray, List.set_cons_zero, List.set_cons_succ])
          refine wpAnyH_take (i := 9) (v := .slice a' (T.size + N) c') rfl (by kernel_rfl) (by kernel_rfl) (by kernel_rfl) (fun _ _ _ h => h) (Or.inl ⟨by rfl, by intro w hSw; (try dsimp only at hSw); go_simp⟩) (by assumption) ?_
          change wpAnyH _ _ _ _ _ _ _ (Act.put _ (some 4) _) _
          (try simp only [Act.put, List.setIfInBounds_toArray, List.set_cons_zero, List.set_cons_succ])
          refine wpAnyH_take (i := 10) (v := .int .i64 0) rfl (by kernel_rfl) (by kernel_rfl) (by kernel_rfl) (fun _ _ _ h => h) (Or.inl ⟨by rfl, by intro w hSw; (try dsimp only at hSw); go_simp⟩) (by assumption) ?_
          change wpAnyH _ _ _ _ _ _ _ (Act.put _ (some 5) _) _
          (try simp only [Act.put, List.setIfInBounds_toArray, List.set_cons_zero, List.set_cons_succ])
          refine wpAnyH_done (by kernel_rfl) ?_ _
          go_wp2
          go_returns
          exact ⟨a', c', rfl, hs', hbx.trans (hBf.mono hbx.size)⟩
        exact AllReadyH.nil
      exact AllReadyH.nil
    exact AllReadyH.nil
  exact AllReadyH.nil
end Go.Proofs.YtmnhiagppicegaaGreat
