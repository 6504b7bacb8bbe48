/- An image's bytes, of a kind of digits, by the code, over any memory: Write. Condition: the kind may tell the image, at most 80 wide, 240 pixels. -/
import Derived.Test.YtmnhiagppicegaaGreatZgAH
import Derived.Test.YtmnhiagppicegaaGreatZImY
import Derived.Test.YtmnhiagppicegaaGreatZgAE
import Derived.Deep.DeepCutAuto
import Derived.Deep.RegionHeld3
import Derived.Test.YtmnhiagppicegaaGreatZgAD
namespace Go.Proofs.YtmnhiagppicegaaGreat
open Go.RowKit
set_option linter.unusedVariables false
theorem Im.wAll_pos {G : Hd.H} {l : List Int} {gw gh n : Nat} (hw : G.w = (gw : Int)) (hn : n = gw * gh) (h1 : 1 ≤ n) : 1 ≤ (Pl.wAll G l n).length := by
  obtain ⟨j, rfl⟩ : ∃ j, n = j + 1 := ⟨n - 1, by omega⟩
  have hw0 : 1 ≤ gw := by
    rcases Nat.eq_zero_or_pos gw with h | h
    · rw [h, Nat.zero_mul] at hn; omega
    · exact h
  have hh0 : 1 ≤ gh := by
    rcases Nat.eq_zero_or_pos gh with h | h
    · rw [h, Nat.mul_zero] at hn; omega
    · exact h
  obtain ⟨g, rfl⟩ : ∃ g, gh = g + 1 := ⟨gh - 1, by omega⟩
  rw [Nat.mul_succ] at hn
  have hj : j % gw = gw - 1 := by
    rw [show j = gw * g + (gw - 1) by omega, Nat.mul_add_mod, Nat.mod_eq_of_lt (by omega)]
  have hI : ((j : Int) % G.w == G.w - 1) = true := by
    rw [beq_iff_eq, hw, ← Int.natCast_emod, hj]; omega
  have hL : Pl.wLn G j = true := by unfold Pl.wLn; rw [hI]; simp
  unfold Pl.wAll
  rw [if_pos hL, List.length_append]
  simp
set_option maxRecDepth 100000 in
set_option maxHeartbeats 4000000 in
theorem imWriteC_plain (c m kd : Int) (gw gh : Nat) (hc : Nu.I c) (hm : Nu.I m) (hk : Nu.I kd) (pb po n cap : Nat) (L : List Int) (hw80 : gw ≤ 80) (hh9 : gh ≤ 1000) (hn240 : n ≤ 240) (hn1 : 1 ≤ n) (hn : n = gw * gh) (hnc : n ≤ cap) (hcm : cap ≤ 9223372036854775807) (hU : ∀ x ∈ L, Pq.Px.U x)
    (ht : Im.tellV c m (gw : Int) (gh : Int) n L kd = true) (hk3 : ¬ 3 < kd) (w : World) (hs : SlK .u64 w (some ⟨pb, po, none⟩) n L) :
    Calls Tryz.prog 15 #[agI c m (gw : Int) (gh : Int) (.slice (some ⟨pb, po, none⟩) n cap), .int .i64 kd] w fun e w' => ∃ a' c', e = .returned (.tuple #[.slice a' (Im.plainV kd m gw gh L).length c', .int .i64 0]) ∧ Im.Sc w' a' (Im.plainV kd m gw gh L).length c' (Im.plainV kd m gw gh L) ∧ Below w.heap.size w w' := by
  have hn9 : n ≤ 720 := by omega
  have hmay : Im.mayV c m (gw : Int) (gh : Int) n L = true := by unfold Im.tellV at ht; simp only [Bool.and_eq_true] at ht; exact ht.2
  have htk : Im.tellsV ⟨kd, (gw : Int), (gh : Int), m⟩ c m = true := by
    rw [Im.tells_may hmay]; unfold Im.tellV at ht; simp only [Bool.and_eq_true] at ht; exact ht.1
  obtain ⟨hHd, hs2⟩ : Hd.May ⟨kd, (gw : Int), (gh : Int), m⟩ ∧ Hj.same2 (Hj.chan ⟨kd, (gw : Int), (gh : Int), m⟩) m c m = true := by
    unfold Im.tellsV at htk
    rw [Bool.and_eq_true, decide_eq_true_eq] at htk
    exact htk
  have hcc : Hj.chan ⟨kd, (gw : Int), (gh : Int), m⟩ = c := by unfold Hj.same2 at hs2; simp only [Bool.and_eq_true, beq_iff_eq] at hs2; exact hs2.1
  have hRM : Pl.May ⟨kd, (gw : Int), (gh : Int), m⟩ := ⟨hHd, by simp only; omega⟩
  have hFit := Hj.may_fit hHd
  have hfa : Pl.fitAll ⟨kd, (gw : Int), (gh : Int), m⟩ L = true := by
    unfold Im.mayV at hmay
    rw [Bool.and_eq_true] at hmay
    unfold Pl.fitAll
    rw [hcc]
    exact hmay.2
  have hFits := Im.fits_of_all hU hfa
  have hL : L.length = gw * gh := by rw [hs.1, hn]
  have hRb := Pl.wAll_bytes hFits L.length (Nat.le_refl _)
  have hRl := Pl.wAll_len (G := ⟨kd, (gw : Int), (gh : Int), m⟩) hU L.length (Nat.le_refl _)
  have hR0 : 1 ≤ (Pl.wAll ⟨kd, (gw : Int), (gh : Int), m⟩ L L.length).length := Im.wAll_pos (gw := gw) (gh := gh) rfl hL (by rw [hs.1]; exact hn1)
  have HRW : Hid (∀ W, Below w.heap.size w W → Calls Tryz.prog 92 #[.slice (some ⟨pb, po, none⟩) n cap, agH ⟨kd, (gw : Int), (gh : Int), m⟩] W fun e w' => e = .returned (.tuple #[.string (strOfNums (Pl.wAll ⟨kd, (gw : Int), (gh : Int), m⟩ L L.length)), .int .i64 0]) ∧ Below W.heap.size W w') := Lib.hid fun W hb => by
    have := plWrite_any pb po n cap L ⟨kd, (gw : Int), (gh : Int), m⟩ hRM hU gw gh rfl rfl hn.symm hw80 (by omega) hn240 hnc hcm W (hs.below hb)
    unfold Pl.wV at this
    rw [if_pos hfa] at this
    exact this
  have HHD : Hid (∀ W, Below w.heap.size w W → Calls Tryz.prog 17 #[agI c m (gw : Int) (gh : Int) (.slice (some ⟨pb, po, none⟩) n cap), .int .i64 kd] W (ImHeadR (⟨kd, (gw : Int), (gh : Int), m⟩, 0) W)) := Lib.hid fun W hb => by
    have := imHead_any c m (gw : Int) (gh : Int) hc hm hFit.2.1 hFit.2.2.1 (some ⟨pb, po, none⟩) n cap L (by omega) hU kd hk W (hs.below hb)
    unfold Im.headV at this
    rw [if_pos ht] at this
    exact this
  have HHW := Lib.hid (hwrite_any ⟨kd, (gw : Int), (gh : Int), m⟩ hFit)
  rw [Hj.wr_may hHd] at HHW
  have hTs := Hj.text_size hFit
  have hTb := Hj.text_bytes ⟨kd, (gw : Int), (gh : Int), m⟩
  have hT1 : 1 ≤ (Hj.text ⟨kd, (gw : Int), (gh : Int), m⟩).size := by
    have h := Hj.text_len ⟨kd, (gw : Int), (gh : Int), m⟩
    have : 1 ≤ (Hd.bytes ⟨kd, (gw : Int), (gh : Int), m⟩).length := by unfold Hd.bytes; simp
    omega
  have HWT := Lib.hid (Im.writer_pl ⟨kd, (gw : Int), (gh : Int), m⟩ hHd (by simp only; omega))
  unfold Im.plainV
  obtain ⟨R, hR⟩ : ∃ R, Pl.wAll ⟨kd, (gw : Int), (gh : Int), m⟩ L L.length = R := ⟨_, rfl⟩
  rw [hR] at HRW hRl hRb hR0 ⊢
  have HRA : Hid (∀ W b9, Below w.heap.size w W → Hb W b9 49 ⟨kd, (gw : Int), (gh : Int), m⟩ → Calls Tryz.prog 91 #[.slice (some ⟨pb, po, none⟩) n cap, .pointer (some ⟨b9, 0, none⟩)] W fun e w' => ∃ a' c', e = .returned (.slice a' R.length c') ∧ SlK .u8 w' a' R.length R ∧ Below W.heap.size W w') := Lib.hid fun W b9 hb hX => Im.raster_pl _ n cap R hRb (by rw [hL, ← hn] at hRl; omega) _ b9 W hX fun W2 hb2 => HRW.out W2 (hb.trans (hb2.mono hb.size))
  have hR1 : 1 ≤ R.length := hR0
  have hR9 : R.length ≤ 300000 := by rw [hL, ← hn] at hRl; omega
  rw [← hTb]
  obtain ⟨T, hT⟩ : ∃ T, Hj.text ⟨kd, (gw : Int), (gh : Int), m⟩ = T := ⟨_, rfl⟩
  rw [hT] at HHW hTs hT1 ⊢
  obtain ⟨N, hN⟩ : ∃ N, R.length = N := ⟨_, rfl⟩
  rw [hN] at HRA hR1 hR9
  have HNR := Lib.hid hN
  have hTl : (bytesOf T ++ R).length = T.size + N := by rw [List.length_append, bytesOf_length, hN]
  rw [hTl]
  unfold agH at HHW HWT
  simp only at HHW HWT
  have X := Ib.new w 40 c m (gw : Int) (gh : Int) (.slice (some ⟨pb, po, none⟩) n cap)
  have hbx := (Below.refl w.heap.size w).alloc (Nat.le_refl _) (.cells #[.int .i64 c, .int .i64 m, .int .i64 gw, .int .i64 gh, .slice (some ⟨pb, po, none⟩) n cap] 40)
  obtain ⟨W0, hW0⟩ : ∃ W0, w.alloc (.cells #[.int .i64 c, .int .i64 m, .int .i64 gw, .int .i64 gh, .slice (some ⟨pb, po, none⟩) n cap] 40) = W0 := ⟨_, rfl⟩
  rw [hW0] at X hbx
  have HT1 := Lib.hid hT1; have HTS := Lib.hid hTs; have HR1 := Lib.hid hR1; have HR9 := Lib.hid hR9
  clear hmay htk hs2 hcc hfa hL hTb hRl hRb hR0 hR hT hN hTl hs hU ht HRW hHd hRM hFit hFits hn hn1 hn240 hnc hcm hn9 hw80 hh9 hc hm hk hk3 hT1 hTs hR1 hR9
  unfold agI at HHD ⊢
  unfold ImHeadR agH at HHD
  simp only at HHD
  go_enter Tryz.func15, Tryz.ntmps15
  go_upto_region 1 with fail
  try rw [hW0]
  clear hW0
  obtain ⟨n0, n1, n2, n3, n4⟩ := X.cells
  go_wp2_with fail
  refine (HHD.out _ hbx).mono ?_
  rintro e w2 ⟨rfl, hb2⟩
  replace X := X.later hb2
  replace hbx := hbx.trans (hb2.mono hbx.size)
  clear n0 n1 n2 n3 n4 hb2 HHD
  go_upto_region 2 with fail
  have Y := Hb.new w2 49 ⟨kd, (gw : Int), (gh : Int), m⟩
  have hb1 := (Below.refl w2.heap.size w2).alloc (Nat.le_refl _) (.cells #[.int .i64 kd, .int .i64 gw, .int .i64 gh, .int .i64 m] 49)
  simp only at Y
  obtain ⟨yb, hyb⟩ : ∃ yb, w2.heap.size = yb := ⟨_, rfl⟩
  obtain ⟨W1, hW1⟩ : ∃ W1, w2.alloc (.cells #[.int .i64 kd, .int .i64 gw, .int .i64 gh, .int .i64 m] 49) = W1 := ⟨_, rfl⟩
  rw [hW1] at Y hb1
  try rw [hW1]
  rw [hyb] at Y
  try rw [hyb]
  clear hW1 hyb
  replace X := X.later hb1
  replace hbx := hbx.trans (hb1.mono hbx.size)
  clear hb1
  obtain ⟨k0, k1, k2, k3⟩ := Y.cells
  simp only at k0 k1 k2 k3
  go_wp2_with fail
  refine (HHW.out _).mono ?_
  rintro e w3 ⟨rfl, hb3⟩
  replace X := X.later hb3
  replace Y := Y.later hb3
  replace hbx := hbx.trans (hb3.mono hbx.size)
  clear k0 k1 k2 k3 hb3 HHW
  obtain ⟨k0, k1, k2, k3⟩ := Y.cells
  obtain ⟨n0, n1, n2, n3, n4⟩ := X.cells
  simp only at k0 k1 k2 k3
  clear n0 n1 n2 n3
  go_upto_region 5 with fail
  refine wp_region_held_drew (S := (fun w' => w'.cell? ⟨yb, 0, none⟩ = some (.int .i64 kd) ∧ w'.cell? ⟨yb, 1, none⟩ = some (.int .i64 gw) ∧ w'.cell? ⟨yb, 2, none⟩ = some (.int .i64 gh) ∧ w'.cell? ⟨yb, 3, none⟩ = some (.int .i64 m) ∧ w'.cell? ⟨w.heap.size, 4, none⟩ = some (.slice (some ⟨pb, po, none⟩) n cap))) (by kernel_rfl) (by (try dsimp only); exact ⟨k0, k1, k2, k3, n4⟩) (fun hHeld => ?_)
  refine wpAnyH_take (i := 0) (v := .string T) rfl (by kernel_rfl) (by kernel_rfl) (by kernel_rfl) (fun _ _ _ h => h) (Or.inl ⟨by rfl, by intro w hSw; (try dsimp only at hSw); go_simp⟩) (by assumption) ?_
  (try simp only [Act.put, List.setIfInBounds_toArray])
  refine wpAnyH_take (i := 2) (v := .agg #[.int .i64 kd, .int .i64 gw, .int .i64 gh, .int .i64 m]) rfl (by kernel_rfl) (by kernel_rfl) (by kernel_rfl) (fun _ _ _ h => h) (Or.inl ⟨by rfl, by intro w hSw; (try dsimp only at hSw); go_simp⟩) (by assumption) ?_
  (try simp only [Act.put])
  refine wpAnyH_take (i := 4) (v := .pointer (some ⟨w.heap.size, 2, none⟩)) rfl (by kernel_rfl) (by kernel_rfl) (by kernel_rfl) (fun _ _ _ h => h) (Or.inl ⟨by rfl, by intro w hSw; (try dsimp only at hSw); go_simp⟩) (by assumption) ?_
  (try simp only [Act.put])
  refine wpAnyH_take (i := 5) (v := .pointer (some ⟨w.heap.size, 4, none⟩)) rfl (by kernel_rfl) (by kernel_rfl) (by kernel_rfl) (fun _ _ _ h => h) (Or.inl ⟨by rfl, by intro w hSw; (try dsimp only at hSw); go_simp⟩) (by assumption) ?_
  (try simp only [Act.put])
  refine wpAnyH_take (i := 6) (v := .slice (some ⟨pb, po, none⟩) n cap) rfl (by kernel_rfl) (by kernel_rfl) (by kernel_rfl) (fun _ _ _ h => h) (Or.inl ⟨by rfl, by intro w hSw; (try dsimp only at hSw); go_simp⟩) (by assumption) ?_
  (try simp only [Act.put])
  refine wpAnyH_ready (rs := [1, 3]) (by kernel_rfl) (by simp) ?_
  refine AllReadyH.cons rfl (fun K hK => ?_) ?_
  · obtain ⟨qa, va, hqa, hra, hza⟩ := Im.conv_rm (w3.drew) T (by have := HTS.out; omega)
    have hBA : Below w3.heap.size w3 va := Im.undrew hza
    refine Im.step_conv rfl _ rfl rfl hqa ?_
    change K (Act.put _ (some 25) _) _
    refine hK.out _ _ ⟨cell_later hBA k0, cell_later hBA k1, cell_later hBA k2, cell_later hBA k3, cell_later hBA n4⟩ (fun hHeld => ?_)
    clear hK K
    (try simp only [Act.put])
    refine wpAnyH_ready (rs := [3]) (by kernel_rfl) (by simp) ?_
    refine AllReadyH.cons rfl (fun K hK => ?_) ?_
    · go_simp
      go_at_call 51
      refine (HWT.out _).mono ?_
      rintro e w9 ⟨b9, rfl, hX9, hb9⟩
      have hB9 : Below w3.heap.size w3 w9 := bel_step (w := w3) hBA hb9
      go_wp2_with fail
      refine hK.out _ _ ⟨cell_later hB9 k0, cell_later hB9 k1, cell_later hB9 k2, cell_later hB9 k3, cell_later hB9 n4⟩ (fun hHeld => ?_)
      clear hK K
      (try simp only [Act.put, List.setIfInBounds_toArray, List.set_cons_zero, List.set_cons_succ])
      refine wpAnyH_ready (rs := [7]) (by kernel_rfl) (by simp) ?_
      refine AllReadyH.cons rfl (fun K hK => ?_) ?_
      · go_simp
        go_at_call 91
        refine (HRA.out _ b9 (hbx.trans (hB9.mono hbx.size)) hX9).mono ?_
        rintro e w10 ⟨ra, rc, rfl, hrs, hb10⟩
        have hB10 : Below w3.heap.size w3 w10 := bel_step (w := w3) hB9 hb10
        go_wp2_with fail
        refine hK.out _ _ ⟨cell_later hB10 k0, cell_later hB10 k1, cell_later hB10 k2, cell_later hB10 k3, cell_later hB10 n4⟩ (fun hHeld => ?_)
        clear hK K
        (try simp only [Act.put, List.setIfInBounds_toArray, List.set_cons_zero, List.set_cons_succ])
        have hrX := (hra.later hb9).later hb10
        have hzX : w3.heap.size ≤ w3.drew.heap.size := Nat.le_refl _
        refine wpAnyH_ready (rs := [8]) (by kernel_rfl) (by simp) ?_
        refine AllReadyH.cons rfl (fun K hK => ?_) ?_
        · refine Im.step_appC rfl _ _ rfl hrX HT1.out hrs HR1.out (by have := HTS.out; have := HR9.out; omega) rfl rfl (fun a' c' w' hs' hb' => ?_)
          have hBf : Below w3.heap.size w3 w' := hB10.trans (hb' _ hzX)
          change K (Act.put _ (some 32) _) _
          refine hK.out _ _ ⟨cell_later hBf k0, cell_later hBf k1, cell_later hBf k2, cell_later hBf k3, cell_later hBf n4⟩ (fun hHeld => ?_)
          clear hK K
          (try simp only [Act.put, List.setIfInBounds_toArray, List.set_cons_zero, List.set_cons_succ])
          refine wpAnyH_take (i := 9) (v := .slice a' (T.size + N) c') rfl (by kernel_rfl) (by kernel_rfl) (by kernel_rfl) (fun _ _ _ h => h) (Or.inl ⟨by rfl, by intro w hSw; (try dsimp only at hSw); go_simp⟩) (by assumption) ?_
          change wpAnyH _ _ _ _ _ _ _ (Act.put _ (some 4) _) _
          (try simp only [Act.put, List.setIfInBounds_toArray, List.set_cons_zero, List.set_cons_succ])
          refine wpAnyH_take (i := 10) (v := .int .i64 0) rfl (by kernel_rfl) (by kernel_rfl) (by kernel_rfl) (fun _ _ _ h => h) (Or.inl ⟨by rfl, by intro w hSw; (try dsimp only at hSw); go_simp⟩) (by assumption) ?_
          change wpAnyH _ _ _ _ _ _ _ (Act.put _ (some 5) _) _
          (try simp only [Act.put, List.setIfInBounds_toArray, List.set_cons_zero, List.set_cons_succ])
          refine wpAnyH_done (by kernel_rfl) ?_ _
          go_wp2
          go_returns
          exact ⟨a', c', rfl, hs', hbx.trans (hBf.mono hbx.size)⟩
        exact AllReadyH.nil
      exact AllReadyH.nil
    exact AllReadyH.nil
  refine AllReadyH.cons rfl (fun K hK => ?_) ?_
  · go_simp
    go_at_call 51
    refine (HWT.out _).mono ?_
    rintro e w9 ⟨b9, rfl, hX9, hb9⟩
    have hB9 : Below w3.heap.size w3 w9 := Im.undrew hb9
    go_wp2_with fail
    refine hK.out _ _ ⟨cell_later hB9 k0, cell_later hB9 k1, cell_later hB9 k2, cell_later hB9 k3, cell_later hB9 n4⟩ (fun hHeld => ?_)
    clear hK K
    (try simp only [Act.put, List.setIfInBounds_toArray, List.set_cons_zero, List.set_cons_succ])
    refine wpAnyH_ready (rs := [1, 7]) (by kernel_rfl) (by simp) ?_
    refine AllReadyH.cons rfl (fun K hK => ?_) ?_
    · obtain ⟨qb, vb, hqb, hrb, hzb⟩ := Im.conv_rm (w9) T (by have := HTS.out; omega)
      have hBB : Below w3.heap.size w3 vb := bel_step (w := w3) hB9 hzb
      refine Im.step_conv rfl _ rfl rfl hqb ?_
      change K (Act.put _ (some 25) _) _
      refine hK.out _ _ ⟨cell_later hBB k0, cell_later hBB k1, cell_later hBB k2, cell_later hBB k3, cell_later hBB n4⟩ (fun hHeld => ?_)
      clear hK K
      (try simp only [Act.put, List.setIfInBounds_toArray, List.set_cons_zero, List.set_cons_succ])
      refine wpAnyH_ready (rs := [7]) (by kernel_rfl) (by simp) ?_
      refine AllReadyH.cons rfl (fun K hK => ?_) ?_
      · go_simp
        go_at_call 91
        refine (HRA.out _ b9 (hbx.trans (hBB.mono hbx.size)) (hX9.later hzb)).mono ?_
        rintro e w10 ⟨ra, rc, rfl, hrs, hb10⟩
        have hB10 : Below w3.heap.size w3 w10 := bel_step (w := w3) hBB hb10
        go_wp2_with fail
        refine hK.out _ _ ⟨cell_later hB10 k0, cell_later hB10 k1, cell_later hB10 k2, cell_later hB10 k3, cell_later hB10 n4⟩ (fun hHeld => ?_)
        clear hK K
        (try simp only [Act.put, List.setIfInBounds_toArray, List.set_cons_zero, List.set_cons_succ])
        have hrX := hrb.later hb10
        have hzX : w3.heap.size ≤ w9.heap.size := hB9.size
        refine wpAnyH_ready (rs := [8]) (by kernel_rfl) (by simp) ?_
        refine AllReadyH.cons rfl (fun K hK => ?_) ?_
        · refine Im.step_appC rfl _ _ rfl hrX HT1.out hrs HR1.out (by have := HTS.out; have := HR9.out; omega) rfl rfl (fun a' c' w' hs' hb' => ?_)
          have hBf : Below w3.heap.size w3 w' := hB10.trans (hb' _ hzX)
          change K (Act.put _ (some 32) _) _
          refine hK.out _ _ ⟨cell_later hBf k0, cell_later hBf k1, cell_later hBf k2, cell_later hBf k3, cell_later hBf n4⟩ (fun hHeld => ?_)
          clear hK K
          (try simp only [Act.put, List.setIfInBounds_toArray, List.set_cons_zero, List.set_cons_succ])
          refine wpAnyH_take (i := 9) (v := .slice a' (T.size + N) c') rfl (by kernel_rfl) (by kernel_rfl) (by kernel_rfl) (fun _ _ _ h => h) (Or.inl ⟨by rfl, by intro w hSw; (try dsimp only at hSw); go_simp⟩) (by assumption) ?_
          change wpAnyH _ _ _ _ _ _ _ (Act.put _ (some 4) _) _
          (try simp only [Act.put, List.setIfInBounds_toArray, List.set_cons_zero, List.set_cons_succ])
          refine wpAnyH_take (i := 10) (v := .int .i64 0) rfl (by kernel_rfl) (by kernel_rfl) (by kernel_rfl) (fun _ _ _ h => h) (Or.inl ⟨by rfl, by intro w hSw; (try dsimp only at hSw); go_simp⟩) (by assumption) ?_
          change wpAnyH _ _ _ _ _ _ _ (Act.put _ (some 5) _) _
          (try simp only [Act.put, List.setIfInBounds_toArray, List.set_cons_zero, List.set_cons_succ])
          refine wpAnyH_done (by kernel_rfl) ?_ _
          go_wp2
          go_returns
          exact ⟨a', c', rfl, hs', hbx.trans (hBf.mono hbx.size)⟩
        exact AllReadyH.nil
      exact AllReadyH.nil
    refine AllReadyH.cons rfl (fun K hK => ?_) ?_
    · go_simp
      go_at_call 91
      refine (HRA.out _ b9 (hbx.trans (hB9.mono hbx.size)) hX9).mono ?_
      rintro e w10 ⟨ra, rc, rfl, hrs, hb10⟩
      have hB10 : Below w3.heap.size w3 w10 := bel_step (w := w3) hB9 hb10
      go_wp2_with fail
      refine hK.out _ _ ⟨cell_later hB10 k0, cell_later hB10 k1, cell_later hB10 k2, cell_later hB10 k3, cell_later hB10 n4⟩ (fun hHeld => ?_)
      clear hK K
      (try simp only [Act.put, List.setIfInBounds_toArray, List.set_cons_zero, List.set_cons_succ])
      refine wpAnyH_ready (rs := [1]) (by kernel_rfl) (by simp) ?_
      refine AllReadyH.cons rfl (fun K hK => ?_) ?_
      · obtain ⟨qc, vc, hqc, hrc, hzc⟩ := Im.conv_rm (w10) T (by have := HTS.out; omega)
        have hBC : Below w3.heap.size w3 vc := bel_step (w := w3) hB10 hzc
        refine Im.step_conv rfl _ rfl rfl hqc ?_
        change K (Act.put _ (some 25) _) _
        refine hK.out _ _ ⟨cell_later hBC k0, cell_later hBC k1, cell_later hBC k2, cell_later hBC k3, cell_later hBC n4⟩ (fun hHeld => ?_)
        clear hK K
        (try simp only [Act.put, List.setIfInBounds_toArray, List.set_cons_zero, List.set_cons_succ])
        have hrX := hrc
        have hrs2 := hrs.below hzc
        have hzX : w3.heap.size ≤ w10.heap.size := hB10.size
        refine wpAnyH_ready (rs := [8]) (by kernel_rfl) (by simp) ?_
        refine AllReadyH.cons rfl (fun K hK => ?_) ?_
        · refine Im.step_appC rfl _ _ rfl hrX HT1.out hrs2 HR1.out (by have := HTS.out; have := HR9.out; omega) rfl rfl (fun a' c' w' hs' hb' => ?_)
          have hBf : Below w3.heap.size w3 w' := hBC.trans (hb' _ hzX)
          change K (Act.put _ (some 32) _) _
          refine hK.out _ _ ⟨cell_later hBf k0, cell_later hBf k1, cell_later hBf k2, cell_later hBf k3, cell_later hBf n4⟩ (fun hHeld => ?_)
          clear hK K
          (try simp only [Act.put, List.setIfInBounds_toArray, List.set_cons_zero, List.set_cons_succ])
          refine wpAnyH_take (i := 9) (v := .slice a' (T.size + N) c') rfl (by kernel_rfl) (by kernel_rfl) (by kernel_rfl) (fun _ _ _ h => h) (Or.inl ⟨by rfl, by intro w hSw; (try dsimp only at hSw); go_simp⟩) (by assumption) ?_
          change wpAnyH _ _ _ _ _ _ _ (Act.put _ (some 4) _) _
          (try simp only [Act.put, List.setIfInBounds_toArray, List.set_cons_zero, List.set_cons_succ])
          refine wpAnyH_take (i := 10) (v := .int .i64 0) rfl (by kernel_rfl) (by kernel_rfl) (by kernel_rfl) (fun _ _ _ h => h) (Or.inl ⟨by rfl, by intro w hSw; (try dsimp only at hSw); go_simp⟩) (by assumption) ?_
          change wpAnyH _ _ _ _ _ _ _ (Act.put _ (some 5) _) _
          (try simp only [Act.put, List.setIfInBounds_toArray, List.set_cons_zero, List.set_cons_succ])
          refine wpAnyH_done (by kernel_rfl) ?_ _
          go_wp2
          go_returns
          exact ⟨a', c', rfl, hs', hbx.trans (hBf.mono hbx.size)⟩
        exact AllReadyH.nil
      exact AllReadyH.nil
    exact AllReadyH.nil
  exact AllReadyH.nil
end Go.Proofs.YtmnhiagppicegaaGreat

/- An image's bytes, of a raw kind, by the code, with the room they have: Write. Condition: the kind may tell the image, at most 80 by 9. -/
namespace Go.Proofs.YtmnhiagppicegaaGreat
open Go.RowKit
set_option linter.unusedVariables false
set_option maxRecDepth 100000 in
set_option maxHeartbeats 4000000 in
theorem imWriteC_raw (c m kd : Int) (gw gh : Nat) (hc : Nu.I c) (hm : Nu.I m) (hk : Nu.I kd) (pb po n cap : Nat) (L : List Int) (hw80 : gw ≤ 80) (hh9 : gh ≤ 9) (hn : n = gw * gh) (hnc : n ≤ cap) (hcm : cap ≤ 9223372036854775807) (hU : ∀ x ∈ L, Pq.Px.U x)
    (ht : Im.tellV c m (gw : Int) (gh : Int) n L kd = true) (hk3 : 3 < kd) (w : World) (hs : SlK .u64 w (some ⟨pb, po, none⟩) n L) :
    Calls Tryz.prog 15 #[agI c m (gw : Int) (gh : Int) (.slice (some ⟨pb, po, none⟩) n cap), .int .i64 kd] w fun e w' => ∃ a' c', e = .returned (.tuple #[.slice a' (Im.rawV kd m gw gh L).length c', .int .i64 0]) ∧ Im.Sc w' a' (Im.rawV kd m gw gh L).length c' (Im.rawV kd m gw gh L) ∧ Below w.heap.size w w' := by
  have hn9 : n ≤ 720 := by rw [hn]; exact Nat.mul_le_mul hw80 hh9
  have hmay : Im.mayV c m (gw : Int) (gh : Int) n L = true := by unfold Im.tellV at ht; simp only [Bool.and_eq_true] at ht; exact ht.2
  have htk : Im.tellsV ⟨kd, (gw : Int), (gh : Int), m⟩ c m = true := by
    rw [Im.tells_may hmay]; unfold Im.tellV at ht; simp only [Bool.and_eq_true] at ht; exact ht.1
  obtain ⟨hHd, hs2⟩ : Hd.May ⟨kd, (gw : Int), (gh : Int), m⟩ ∧ Hj.same2 (Hj.chan ⟨kd, (gw : Int), (gh : Int), m⟩) m c m = true := by
    unfold Im.tellsV at htk
    rw [Bool.and_eq_true, decide_eq_true_eq] at htk
    exact htk
  have hcc : Hj.chan ⟨kd, (gw : Int), (gh : Int), m⟩ = c := by unfold Hj.same2 at hs2; simp only [Bool.and_eq_true, beq_iff_eq] at hs2; exact hs2.1
  have hRM : Rw.May ⟨kd, (gw : Int), (gh : Int), m⟩ := ⟨hHd, by simp only; omega⟩
  have hFit := Hj.may_fit hHd
  have hfa : Pl.fitAll ⟨kd, (gw : Int), (gh : Int), m⟩ L = true := by
    unfold Im.mayV at hmay
    rw [Bool.and_eq_true] at hmay
    unfold Pl.fitAll
    rw [hcc]
    exact hmay.2
  have hFits := Im.fits_of_all hU hfa
  have hL : L.length = gw * gh := by rw [hs.1, hn]
  have HRW : Hid (∀ W, Below w.heap.size w W → Calls Tryz.prog 90 #[.slice (some ⟨pb, po, none⟩) n cap, agH ⟨kd, (gw : Int), (gh : Int), m⟩] W (RwwR (Rw.wRows ⟨kd, (gw : Int), (gh : Int), m⟩ L gw gh, 0) W)) := Lib.hid fun W hb => rwWrite_good pb po n cap L ⟨kd, (gw : Int), (gh : Int), m⟩ hFit hRM gw gh rfl rfl hw80 hh9 hL hn hnc hcm hFits W (hs.below hb)
  have HHD : Hid (∀ W, Below w.heap.size w W → Calls Tryz.prog 17 #[agI c m (gw : Int) (gh : Int) (.slice (some ⟨pb, po, none⟩) n cap), .int .i64 kd] W (ImHeadR (⟨kd, (gw : Int), (gh : Int), m⟩, 0) W)) := Lib.hid fun W hb => by
    have := imHead_any c m (gw : Int) (gh : Int) hc hm hFit.2.1 hFit.2.2.1 (some ⟨pb, po, none⟩) n cap L (by omega) hU kd hk W (hs.below hb)
    unfold Im.headV at this
    rw [if_pos ht] at this
    exact this
  have HHW := Lib.hid (hwrite_any ⟨kd, (gw : Int), (gh : Int), m⟩ hFit)
  rw [Hj.wr_may hHd] at HHW
  have hTs := Hj.text_size hFit
  have hTb := Hj.text_bytes ⟨kd, (gw : Int), (gh : Int), m⟩
  have hT1 : 1 ≤ (Hj.text ⟨kd, (gw : Int), (gh : Int), m⟩).size := by
    have h := Hj.text_len ⟨kd, (gw : Int), (gh : Int), m⟩
    have : 1 ≤ (Hd.bytes ⟨kd, (gw : Int), (gh : Int), m⟩).length := by unfold Hd.bytes; simp
    omega
  have HWT := Lib.hid (Im.writer_raw ⟨kd, (gw : Int), (gh : Int), m⟩ hHd (by simp only; omega))
  have hRl := Rw.wRows_len hRM hFits rfl hL gh (Nat.le_refl _)
  have hst := Rw.stride_at hRM
  have hmm := hRM.m
  unfold Im.rawV
  obtain ⟨R, hR⟩ : ∃ R, Rw.wRows ⟨kd, (gw : Int), (gh : Int), m⟩ L gw gh = R := ⟨_, rfl⟩
  rw [hR] at HRW hRl ⊢
  have HRA : Hid (∀ W b9, Below w.heap.size w W → Hb W b9 49 ⟨kd, (gw : Int), (gh : Int), m⟩ → Calls Tryz.prog 89 #[.slice (some ⟨pb, po, none⟩) n cap, .pointer (some ⟨b9, 0, none⟩)] W fun e w' => ∃ a' c', e = .returned (.slice a' R.length c') ∧ SlK .u8 w' a' R.length R ∧ Below W.heap.size W w') := Lib.hid fun W b9 hb hX => Im.raster_raw _ n cap R _ b9 W hX fun W2 hb2 => HRW.out W2 (hb.trans (hb2.mono hb.size))
  have hR1 : 1 ≤ R.length := by
    rw [hRl]
    simp only at hmm
    exact Nat.mul_pos (by omega) hst.1
  have hR9 : R.length ≤ 300000 := by
    rw [hRl]
    exact Nat.le_trans (Nat.mul_le_mul hh9 hst.2.1) (by decide)
  rw [← hTb]
  obtain ⟨T, hT⟩ : ∃ T, Hj.text ⟨kd, (gw : Int), (gh : Int), m⟩ = T := ⟨_, rfl⟩
  rw [hT] at HHW hTs hT1 ⊢
  obtain ⟨N, hN⟩ : ∃ N, R.length = N := ⟨_, rfl⟩
  rw [hN] at HRA hR1 hR9
  have HNR := Lib.hid hN
  have hTl : (bytesOf T ++ R).length = T.size + N := by rw [List.length_append, bytesOf_length, hN]
  rw [hTl]
  unfold agH at HHW HWT
  simp only at HHW HWT
  have X := Ib.new w 40 c m (gw : Int) (gh : Int) (.slice (some ⟨pb, po, none⟩) n cap)
  have hbx := (Below.refl w.heap.size w).alloc (Nat.le_refl _) (.cells #[.int .i64 c, .int .i64 m, .int .i64 gw, .int .i64 gh, .slice (some ⟨pb, po, none⟩) n cap] 40)
  obtain ⟨W0, hW0⟩ : ∃ W0, w.alloc (.cells #[.int .i64 c, .int .i64 m, .int .i64 gw, .int .i64 gh, .slice (some ⟨pb, po, none⟩) n cap] 40) = W0 := ⟨_, rfl⟩
  rw [hW0] at X hbx
  have HT1 := Lib.hid hT1; have HTS := Lib.hid hTs; have HR1 := Lib.hid hR1; have HR9 := Lib.hid hR9
  clear hmay htk hs2 hcc hfa hL hTb hRl hst hmm hR hT hN hTl hs hU ht HRW hHd hRM hFit hFits hn hnc hcm hn9 hw80 hh9 hc hm hk hk3 hT1 hTs hR1 hR9
  unfold agI at HHD ⊢
  unfold ImHeadR agH at HHD
  simp only at HHD
  go_enter Tryz.func15, Tryz.ntmps15
  go_upto_region 1 with fail
  try rw [hW0]
  clear hW0
  obtain ⟨n0, n1, n2, n3, n4⟩ := X.cells
  go_wp2_with fail
  refine (HHD.out _ hbx).mono ?_
  rintro e w2 ⟨rfl, hb2⟩
  replace X := X.later hb2
  replace hbx := hbx.trans (hb2.mono hbx.size)
  clear n0 n1 n2 n3 n4 hb2 HHD
  go_upto_region 2 with fail
  have Y := Hb.new w2 49 ⟨kd, (gw : Int), (gh : Int), m⟩
  have hb1 := (Below.refl w2.heap.size w2).alloc (Nat.le_refl _) (.cells #[.int .i64 kd, .int .i64 gw, .int .i64 gh, .int .i64 m] 49)
  simp only at Y
  obtain ⟨yb, hyb⟩ : ∃ yb, w2.heap.size = yb := ⟨_, rfl⟩
  obtain ⟨W1, hW1⟩ : ∃ W1, w2.alloc (.cells #[.int .i64 kd, .int .i64 gw, .int .i64 gh, .int .i64 m] 49) = W1 := ⟨_, rfl⟩
  rw [hW1] at Y hb1
  try rw [hW1]
  rw [hyb] at Y
  try rw [hyb]
  clear hW1 hyb
  replace X := X.later hb1
  replace hbx := hbx.trans (hb1.mono hbx.size)
  clear hb1
  obtain ⟨k0, k1, k2, k3⟩ := Y.cells
  simp only at k0 k1 k2 k3
  go_wp2_with fail
  refine (HHW.out _).mono ?_
  rintro e w3 ⟨rfl, hb3⟩
  replace X := X.later hb3
  replace Y := Y.later hb3
  replace hbx := hbx.trans (hb3.mono hbx.size)
  clear k0 k1 k2 k3 hb3 HHW
  obtain ⟨k0, k1, k2, k3⟩ := Y.cells
  obtain ⟨n0, n1, n2, n3, n4⟩ := X.cells
  simp only at k0 k1 k2 k3
  clear n0 n1 n2 n3
  go_upto_region 5 with fail
  refine wp_region_held_drew (S := (fun w' => w'.cell? ⟨yb, 0, none⟩ = some (.int .i64 kd) ∧ w'.cell? ⟨yb, 1, none⟩ = some (.int .i64 gw) ∧ w'.cell? ⟨yb, 2, none⟩ = some (.int .i64 gh) ∧ w'.cell? ⟨yb, 3, none⟩ = some (.int .i64 m) ∧ w'.cell? ⟨w.heap.size, 4, none⟩ = some (.slice (some ⟨pb, po, none⟩) n cap))) (by kernel_rfl) (by (try dsimp only); exact ⟨k0, k1, k2, k3, n4⟩) (fun hHeld => ?_)
  refine wpAnyH_take (i := 0) (v := .string T) rfl (by kernel_rfl) (by kernel_rfl) (by kernel_rfl) (fun _ _ _ h => h) (Or.inl ⟨by rfl, by intro w hSw; (try dsimp only at hSw); go_simp⟩) (by assumption) ?_
  (try simp only [Act.put, List.setIfInBounds_toArray])
  refine wpAnyH_take (i := 2) (v := .agg #[.int .i64 kd, .int .i64 gw, .int .i64 gh, .int .i64 m]) rfl (by kernel_rfl) (by kernel_rfl) (by kernel_rfl) (fun _ _ _ h => h) (Or.inl ⟨by rfl, by intro w hSw; (try dsimp only at hSw); go_simp⟩) (by assumption) ?_
  (try simp only [Act.put])
  refine wpAnyH_take (i := 4) (v := .pointer (some ⟨w.heap.size, 2, none⟩)) rfl (by kernel_rfl) (by kernel_rfl) (by kernel_rfl) (fun _ _ _ h => h) (Or.inl ⟨by rfl, by intro w hSw; (try dsimp only at hSw); go_simp⟩) (by assumption) ?_
  (try simp only [Act.put])
  refine wpAnyH_take (i := 5) (v := .pointer (some ⟨w.heap.size, 4, none⟩)) rfl (by kernel_rfl) (by kernel_rfl) (by kernel_rfl) (fun _ _ _ h => h) (Or.inl ⟨by rfl, by intro w hSw; (try dsimp only at hSw); go_simp⟩) (by assumption) ?_
  (try simp only [Act.put])
  refine wpAnyH_take (i := 6) (v := .slice (some ⟨pb, po, none⟩) n cap) rfl (by kernel_rfl) (by kernel_rfl) (by kernel_rfl) (fun _ _ _ h => h) (Or.inl ⟨by rfl, by intro w hSw; (try dsimp only at hSw); go_simp⟩) (by assumption) ?_
  (try simp only [Act.put])
  refine wpAnyH_ready (rs := [1, 3]) (by kernel_rfl) (by simp) ?_
  refine AllReadyH.cons rfl (fun K hK => ?_) ?_
  · obtain ⟨qa, va, hqa, hra, hza⟩ := Im.conv_rm (w3.drew) T (by have := HTS.out; omega)
    have hBA : Below w3.heap.size w3 va := Im.undrew hza
    refine Im.step_conv rfl _ rfl rfl hqa ?_
    change K (Act.put _ (some 25) _) _
    refine hK.out _ _ ⟨cell_later hBA k0, cell_later hBA k1, cell_later hBA k2, cell_later hBA k3, cell_later hBA n4⟩ (fun hHeld => ?_)
    clear hK K
    (try simp only [Act.put])
    refine wpAnyH_ready (rs := [3]) (by kernel_rfl) (by simp) ?_
    refine AllReadyH.cons rfl (fun K hK => ?_) ?_
    · go_simp
      go_at_call 51
      refine (HWT.out _).mono ?_
      rintro e w9 ⟨b9, rfl, hX9, hb9⟩
      have hB9 : Below w3.heap.size w3 w9 := bel_step (w := w3) hBA hb9
      go_wp2_with fail
      refine hK.out _ _ ⟨cell_later hB9 k0, cell_later hB9 k1, cell_later hB9 k2, cell_later hB9 k3, cell_later hB9 n4⟩ (fun hHeld => ?_)
      clear hK K
      (try simp only [Act.put, List.setIfInBounds_toArray, List.set_cons_zero, List.set_cons_succ])
      refine wpAnyH_ready (rs := [7]) (by kernel_rfl) (by simp) ?_
      refine AllReadyH.cons rfl (fun K hK => ?_) ?_
      · go_simp
        go_at_call 89
        refine (HRA.out _ b9 (hbx.trans (hB9.mono hbx.size)) hX9).mono ?_
        rintro e w10 ⟨ra, rc, rfl, hrs, hb10⟩
        have hB10 : Below w3.heap.size w3 w10 := bel_step (w := w3) hB9 hb10
        go_wp2_with fail
        refine hK.out _ _ ⟨cell_later hB10 k0, cell_later hB10 k1, cell_later hB10 k2, cell_later hB10 k3, cell_later hB10 n4⟩ (fun hHeld => ?_)
        clear hK K
        (try simp only [Act.put, List.setIfInBounds_toArray, List.set_cons_zero, List.set_cons_succ])
        have hrX := (hra.later hb9).later hb10
        have hzX : w3.heap.size ≤ w3.drew.heap.size := Nat.le_refl _
        refine wpAnyH_ready (rs := [8]) (by kernel_rfl) (by simp) ?_
        refine AllReadyH.cons rfl (fun K hK => ?_) ?_
        · refine Im.step_appC rfl _ _ rfl hrX HT1.out hrs HR1.out (by have := HTS.out; have := HR9.out; omega) rfl rfl (fun a' c' w' hs' hb' => ?_)
          have hBf : Below w3.heap.size w3 w' := hB10.trans (hb' _ hzX)
          change K (Act.put _ (some 32) _) _
          refine hK.out _ _ ⟨cell_later hBf k0, cell_later hBf k1, cell_later hBf k2, cell_later hBf k3, cell_later hBf n4⟩ (fun hHeld => ?_)
          clear hK K
          (try simp only [Act.put, List.setIfInBounds_toArray, List.set_cons_zero, List.set_cons_succ])
          refine wpAnyH_take (i := 9) (v := .slice a' (T.size + N) c') rfl (by kernel_rfl) (by kernel_rfl) (by kernel_rfl) (fun _ _ _ h => h) (Or.inl ⟨by rfl, by intro w hSw; (try dsimp only at hSw); go_simp⟩) (by assumption) ?_
          change wpAnyH _ _ _ _ _ _ _ (Act.put _ (some 4) _) _
          (try simp only [Act.put, List.setIfInBounds_toArray, List.set_cons_zero, List.set_cons_succ])
          refine wpAnyH_take (i := 10) (v := .int .i64 0) rfl (by kernel_rfl) (by kernel_rfl) (by kernel_rfl) (fun _ _ _ h => h) (Or.inl ⟨by rfl, by intro w hSw; (try dsimp only at hSw); go_simp⟩) (by assumption) ?_
          change wpAnyH _ _ _ _ _ _ _ (Act.put _ (some 5) _) _
          (try simp only [Act.put, List.setIfInBounds_toArray, List.set_cons_zero, List.set_cons_succ])
          refine wpAnyH_done (by kernel_rfl) ?_ _
          go_wp2
          go_returns
          exact ⟨a', c', rfl, hs', hbx.trans (hBf.mono hbx.size)⟩
        exact AllReadyH.nil
      exact AllReadyH.nil
    exact AllReadyH.nil
  refine AllReadyH.cons rfl (fun K hK => ?_) ?_
  · go_simp
    go_at_call 51
    refine (HWT.out _).mono ?_
    rintro e w9 ⟨b9, rfl, hX9, hb9⟩
    have hB9 : Below w3.heap.size w3 w9 := Im.undrew hb9
    go_wp2_with fail
    refine hK.out _ _ ⟨cell_later hB9 k0, cell_later hB9 k1, cell_later hB9 k2, cell_later hB9 k3, cell_later hB9 n4⟩ (fun hHeld => ?_)
    clear hK K
    (try simp only [Act.put, List.setIfInBounds_toArray, List.set_cons_zero, List.set_cons_succ])
    refine wpAnyH_ready (rs := [1, 7]) (by kernel_rfl) (by simp) ?_
    refine AllReadyH.cons rfl (fun K hK => ?_) ?_
    · obtain ⟨qb, vb, hqb, hrb, hzb⟩ := Im.conv_rm (w9) T (by have := HTS.out; omega)
      have hBB : Below w3.heap.size w3 vb := bel_step (w := w3) hB9 hzb
      refine Im.step_conv rfl _ rfl rfl hqb ?_
      change K (Act.put _ (some 25) _) _
      refine hK.out _ _ ⟨cell_later hBB k0, cell_later hBB k1, cell_later hBB k2, cell_later hBB k3, cell_later hBB n4⟩ (fun hHeld => ?_)
      clear hK K
      (try simp only [Act.put, List.setIfInBounds_toArray, List.set_cons_zero, List.set_cons_succ])
      refine wpAnyH_ready (rs := [7]) (by kernel_rfl) (by simp) ?_
      refine AllReadyH.cons rfl (fun K hK => ?_) ?_
      · go_simp
        go_at_call 89
        refine (HRA.out _ b9 (hbx.trans (hBB.mono hbx.size)) (hX9.later hzb)).mono ?_
        rintro e w10 ⟨ra, rc, rfl, hrs, hb10⟩
        have hB10 : Below w3.heap.size w3 w10 := bel_step (w := w3) hBB hb10
        go_wp2_with fail
        refine hK.out _ _ ⟨cell_later hB10 k0, cell_later hB10 k1, cell_later hB10 k2, cell_later hB10 k3, cell_later hB10 n4⟩ (fun hHeld => ?_)
        clear hK K
        (try simp only [Act.put, List.setIfInBounds_toArray, List.set_cons_zero, List.set_cons_succ])
        have hrX := hrb.later hb10
        have hzX : w3.heap.size ≤ w9.heap.size := hB9.size
        refine wpAnyH_ready (rs := [8]) (by kernel_rfl) (by simp) ?_
        refine AllReadyH.cons rfl (fun K hK => ?_) ?_
        · refine Im.step_appC rfl _ _ rfl hrX HT1.out hrs HR1.out (by have := HTS.out; have := HR9.out; omega) rfl rfl (fun a' c' w' hs' hb' => ?_)
          have hBf : Below w3.heap.size w3 w' := hB10.trans (hb' _ hzX)
          change K (Act.put _ (some 32) _) _
          refine hK.out _ _ ⟨cell_later hBf k0, cell_later hBf k1, cell_later hBf k2, cell_later hBf k3, cell_later hBf n4⟩ (fun hHeld => ?_)
          clear hK K
          (try simp only [Act.put, List.setIfInBounds_toArray, List.set_cons_zero, List.set_cons_succ])
          refine wpAnyH_take (i := 9) (v := .slice a' (T.size + N) c') rfl (by kernel_rfl) (by kernel_rfl) (by kernel_rfl) (fun _ _ _ h => h) (Or.inl ⟨by rfl, by intro w hSw; (try dsimp only at hSw); go_simp⟩) (by assumption) ?_
          change wpAnyH _ _ _ _ _ _ _ (Act.put _ (some 4) _) _
          (try simp only [Act.put, List.setIfInBounds_toArray, List.set_cons_zero, List.set_cons_succ])
          refine wpAnyH_take (i := 10) (v := .int .i64 0) rfl (by kernel_rfl) (by kernel_rfl) (by kernel_rfl) (fun _ _ _ h => h) (Or.inl ⟨by rfl, by intro w hSw; (try dsimp only at hSw); go_simp⟩) (by assumption) ?_
          change wpAnyH _ _ _ _ _ _ _ (Act.put _ (some 5) _) _
          (try simp only [Act.put, List.setIfInBounds_toArray, List.set_cons_zero, List.set_cons_succ])
          refine wpAnyH_done (by kernel_rfl) ?_ _
          go_wp2
          go_returns
          exact ⟨a', c', rfl, hs', hbx.trans (hBf.mono hbx.size)⟩
        exact AllReadyH.nil
      exact AllReadyH.nil
    refine AllReadyH.cons rfl (fun K hK => ?_) ?_
    · go_simp
      go_at_call 89
      refine (HRA.out _ b9 (hbx.trans (hB9.mono hbx.size)) hX9).mono ?_
      rintro e w10 ⟨ra, rc, rfl, hrs, hb10⟩
      have hB10 : Below w3.heap.size w3 w10 := bel_step (w := w3) hB9 hb10
      go_wp2_with fail
      refine hK.out _ _ ⟨cell_later hB10 k0, cell_later hB10 k1, cell_later hB10 k2, cell_later hB10 k3, cell_later hB10 n4⟩ (fun hHeld => ?_)
      clear hK K
      (try simp only [Act.put, List.setIfInBounds_toArray, List.set_cons_zero, List.set_cons_succ])
      refine wpAnyH_ready (rs := [1]) (by kernel_rfl) (by simp) ?_
      refine AllReadyH.cons rfl (fun K hK => ?_) ?_
      · obtain ⟨qc, vc, hqc, hrc, hzc⟩ := Im.conv_rm (w10) T (by have := HTS.out; omega)
        have hBC : Below w3.heap.size w3 vc := bel_step (w := w3) hB10 hzc
        refine Im.step_conv rfl _ rfl rfl hqc ?_
        change K (Act.put _ (some 25) _) _
        refine hK.out _ _ ⟨cell_later hBC k0, cell_later hBC k1, cell_later hBC k2, cell_later hBC k3, cell_later hBC n4⟩ (fun hHeld => ?_)
        clear hK K
        (try simp only [Act.put, List.setIfInBounds_toArray, List.set_cons_zero, List.set_cons_succ])
        have hrX := hrc
        have hrs2 := hrs.below hzc
        have hzX : w3.heap.size ≤ w10.heap.size := hB10.size
        refine wpAnyH_ready (rs := [8]) (by kernel_rfl) (by simp) ?_
        refine AllReadyH.cons rfl (fun K hK => ?_) ?_
        · refine Im.step_appC rfl _ _ rfl hrX HT1.out hrs2 HR1.out (by have := HTS.out; have := HR9.out; omega) rfl rfl (fun a' c' w' hs' hb' => ?_)
          have hBf : Below w3.heap.size w3 w' := hBC.trans (hb' _ hzX)
          change K (Act.put _ (some 32) _) _
          refine hK.out _ _ ⟨cell_later hBf k0, cell_later hBf k1, cell_later hBf k2, cell_later hBf k3, cell_later hBf n4⟩ (fun hHeld => ?_)
          clear hK K
          (try simp only [Act.put, List.setIfInBounds_toArray, List.set_cons_zero, List.set_cons_succ])
          refine wpAnyH_take (i := 9) (v := .slice a' (T.size + N) c') rfl (by kernel_rfl) (by kernel_rfl) (by kernel_rfl) (fun _ _ _ h => h) (Or.inl ⟨by rfl, by intro w hSw; (try dsimp only at hSw); go_simp⟩) (by assumption) ?_
          change wpAnyH _ _ _ _ _ _ _ (Act.put _ (some 4) _) _
          (try simp only [Act.put, List.setIfInBounds_toArray, List.set_cons_zero, List.set_cons_succ])
          refine wpAnyH_take (i := 10) (v := .int .i64 0) rfl (by kernel_rfl) (by kernel_rfl) (by kernel_rfl) (fun _ _ _ h => h) (Or.inl ⟨by rfl, by intro w hSw; (try dsimp only at hSw); go_simp⟩) (by assumption) ?_
          change wpAnyH _ _ _ _ _ _ _ (Act.put _ (some 5) _) _
          (try simp only [Act.put, List.setIfInBounds_toArray, List.set_cons_zero, List.set_cons_succ])
          refine wpAnyH_done (by kernel_rfl) ?_ _
          go_wp2
          go_returns
          exact ⟨a', c', rfl, hs', hbx.trans (hBf.mono hbx.size)⟩
        exact AllReadyH.nil
      exact AllReadyH.nil
    exact AllReadyH.nil
  exact AllReadyH.nil
end Go.Proofs.YtmnhiagppicegaaGreat

/- An image's bytes, of whatever kind, by the code, over any memory: Write, or refused. Condition: at most 80 by 9, 240 pixels. -/
namespace Go.Proofs.YtmnhiagppicegaaGreat
open Go.RowKit
set_option linter.unusedVariables false
set_option maxRecDepth 100000 in
set_option maxHeartbeats 4000000 in
theorem imWrite_no (c m kd : Int) (gw gh : Nat) (hc : Nu.I c) (hm : Nu.I m) (hw9 : gw ≤ 1000) (hh9 : gh ≤ 1000) (hk : Nu.I kd) (a : Option Addr) (n cap : Nat) (L : List Int) (hn9 : n ≤ 1000) (hU : ∀ x ∈ L, Pq.Px.U x)
    (ht : Im.tellV c m (gw : Int) (gh : Int) n L kd = false) (w : World) (hs : SlK .u64 w a n L) :
    Calls Tryz.prog 15 #[agI c m (gw : Int) (gh : Int) (.slice a n cap), .int .i64 kd] w fun e w' => e = .returned (.tuple #[.slice none 0 0, .int .i64 1]) ∧ Below w.heap.size w w' := by
  have HHD : Hid (∀ W, Below w.heap.size w W → Calls Tryz.prog 17 #[agI c m (gw : Int) (gh : Int) (.slice a n cap), .int .i64 kd] W (ImHeadR (Hd.none, 1) W)) := Lib.hid fun W hb => by
    have := imHead_any c m (gw : Int) (gh : Int) hc hm (by unfold Nu.I; omega) (by unfold Nu.I; omega) a n cap L (by omega) hU kd hk W (hs.below hb)
    unfold Im.headV at this
    rw [if_neg (by rw [ht]; decide)] at this
    exact this
  have X := Ib.new w 40 c m (gw : Int) (gh : Int) (.slice a n cap)
  have hbx := (Below.refl w.heap.size w).alloc (Nat.le_refl _) (.cells #[.int .i64 c, .int .i64 m, .int .i64 gw, .int .i64 gh, .slice a n cap] 40)
  obtain ⟨W0, hW0⟩ : ∃ W0, w.alloc (.cells #[.int .i64 c, .int .i64 m, .int .i64 gw, .int .i64 gh, .slice a n cap] 40) = W0 := ⟨_, rfl⟩
  rw [hW0] at X hbx
  clear hs hU ht hc hm hk hn9 hw9 hh9
  unfold agI at HHD ⊢
  unfold ImHeadR agH Hd.none at HHD
  simp only at HHD
  go_enter Tryz.func15, Tryz.ntmps15
  go_upto_region 1 with fail
  try rw [hW0]
  clear hW0
  obtain ⟨n0, n1, n2, n3, n4⟩ := X.cells
  go_wp2_with fail
  refine (HHD.out _ hbx).mono ?_
  rintro e w2 ⟨rfl, hb2⟩
  replace hbx := hbx.trans (hb2.mono hbx.size)
  have hb3 := hbx.trans ((box1 w2 (.cells #[.int .i64 0, .int .i64 0, .int .i64 0, .int .i64 0] 49)).mono hbx.size)
  clear n0 n1 n2 n3 n4 hb2 HHD hbx
  go_wp2
  go_returns
  exact ⟨rfl, hb3⟩
/-- what Write hands back, as numbers -/
def ImWrS (t : List Int × Int) (w : World) (e : Ending) (w' : World) : Prop := ∃ a cp, e = .returned (.tuple #[.slice a t.1.length cp, .int .i64 t.2]) ∧ Im.Sc w' a t.1.length cp t.1 ∧ Below w.heap.size w w'
theorem imWrite_any (c m kd : Int) (gw gh : Nat) (hc : Nu.I c) (hm : Nu.I m) (hk : Nu.I kd) (pb po n cap : Nat) (L : List Int) (hw80 : gw ≤ 80) (hh9 : gh ≤ 9) (hn240 : n ≤ 240) (hn1 : 1 ≤ n) (hn : n = gw * gh) (hnc : n ≤ cap) (hcm : cap ≤ 9223372036854775807) (hU : ∀ x ∈ L, Pq.Px.U x) (w : World) (hs : SlK .u64 w (some ⟨pb, po, none⟩) n L) :
    Calls Tryz.prog 15 #[agI c m (gw : Int) (gh : Int) (.slice (some ⟨pb, po, none⟩) n cap), .int .i64 kd] w (ImWrS (Im.writeV c m kd gw gh n L) w) := by
  unfold Im.writeV
  cases ht : Im.tellV c m (gw : Int) (gh : Int) n L kd with
  | false =>
    rw [if_neg (by decide)]
    refine (imWrite_no c m kd gw gh hc hm (by omega) (by omega) hk _ n cap L (by omega) hU ht w hs).mono ?_
    rintro e w' ⟨rfl, hb⟩
    exact ⟨none, 0, rfl, ⟨⟨rfl, .inl rfl⟩, Nat.le_refl _, by omega⟩, hb⟩
  | true =>
    rw [if_pos rfl]
    by_cases hk4 : kd < 4
    · rw [if_pos hk4]
      refine (imWriteC_plain c m kd gw gh hc hm hk pb po n cap L hw80 (by omega) hn240 hn1 hn hnc hcm hU ht (by omega) w hs).mono ?_
      rintro e w' ⟨a', c', he, h1, h2⟩
      exact ⟨a', c', he, h1, h2⟩
    · rw [if_neg hk4]
      refine (imWriteC_raw c m kd gw gh hc hm hk pb po n cap L hw80 hh9 hn hnc hcm hU ht (by omega) w hs).mono ?_
      rintro e w' ⟨a', c', he, h1, h2⟩
      exact ⟨a', c', he, h1, h2⟩
end Go.Proofs.YtmnhiagppicegaaGreat

/- What Write of an image comes to, as numbers, of whatever kind; five cells set; a row of pixels of the call's own. No condition. -/
namespace Go.Proofs.YtmnhiagppicegaaGreat
open Go.RowKit
set_option linter.unusedVariables false
section
variable {w : World} {b : Nat} {t : TypeId} {v0 v1 v2 v3 v4 : Value}
theorem Fv.set2 (hh : Fv w b t v0 v1 v2 v3 v4) (v : Value) : Fv (w.setCell ⟨b, 2, none⟩ v) b t v0 v1 v v3 v4 := by
  have h' : w.heap[b]? = _ := hh
  simpa [Fv] using Go.heap_setCell_same w b 2 _ _ v h'
theorem Fv.set3 (hh : Fv w b t v0 v1 v2 v3 v4) (v : Value) : Fv (w.setCell ⟨b, 3, none⟩ v) b t v0 v1 v2 v v4 := by
  have h' : w.heap[b]? = _ := hh
  simpa [Fv] using Go.heap_setCell_same w b 3 _ _ v h'
theorem Fv.set4 (hh : Fv w b t v0 v1 v2 v3 v4) (v : Value) : Fv (w.setCell ⟨b, 4, none⟩ v) b t v0 v1 v2 v3 v := by
  have h' : w.heap[b]? = _ := hh
  simpa [Fv] using Go.heap_setCell_same w b 4 _ _ v h'
end
theorem Im.own_px {w : World} {base n : Nat} {e : TypeId} {v : Value} {l : List Int} (h : w.ownsRow base e 1 v n (l.map (Value.int .u64))) (hn : l.length = n) (h1 : 1 ≤ n) :
    ∃ g cap, v = .slice (some ⟨g, 0, none⟩) n cap ∧ base ≤ g ∧ g < w.heap.size ∧ SlK .u64 w (some ⟨g, 0, none⟩) n l ∧ n ≤ cap ∧ cap ≤ 9223372036854775807 ∧ (∀ i, i < n → w.cell? ⟨g, i, none⟩ = some (.int .u64 (l.getD i 0))) ∧ ∀ i, w.frozen? ⟨g, i, none⟩ = false := by
  obtain ⟨ad, cap, rfl, ho, hle⟩ := ownK_row hn h
  have hc9 : cap ≤ 9223372036854775807 := by
    rcases h.2 with ⟨h2, h3⟩ | ⟨g', cap', cur, h2, hg, hc, h4, h5, hs, _⟩
    · cases h2; omega
    · cases h2; unfold maxLen at h5; omega
  have hsl := ho.sl
  rw [hn] at hsl
  rcases ho with h0 | ⟨g, rfl, g1, g2, g3, g4⟩
  · rw [h0] at hn; simp at hn; omega
  · exact ⟨g, cap, rfl, g1, g2, hsl, hle, hc9, fun i hi => g3 i (by omega), g4⟩
theorem Im.wr_facts {c m kd : Int} {gw gh n : Nat} {L : List Int} (hU : ∀ x ∈ L, Pq.Px.U x) (hL : L.length = gw * gh) (hw9 : gw ≤ 9) (hh9 : gh ≤ 9) :
    (Im.writeV c m kd gw gh n L = ([], 1) ∧ Im.headV c m (gw : Int) (gh : Int) n L kd = (Hd.none, 1)) ∨
    ∃ (bs : List Int) (u : Nat), Im.writeV c m kd gw gh n L = (bs, 0) ∧ Im.parseV (Hd.limits 4096 65536 65535) bs = ⟨c, m, gw, gh, L, (u : Int), 0⟩ ∧ (∀ x ∈ bs, 0 ≤ x ∧ x ≤ 255) ∧ bs.length ≤ 100000 ∧ Im.headV c m (gw : Int) (gh : Int) n L kd = (⟨kd, gw, gh, m⟩, 0) := by
  have hlen := Im.write_len c m kd gw gh n L hU hw9 hh9 hL
  unfold Im.headV
  unfold Im.writeV at hlen ⊢
  cases ht : Im.tellV c m (gw : Int) (gh : Int) n L kd with
  | false =>
    rw [if_neg (by decide)]
    exact .inl ⟨rfl, by rw [if_neg (by decide)]⟩
  | true =>
    rw [ht] at hlen
    rw [if_pos rfl] at hlen
    rw [if_pos rfl, if_pos rfl]
    obtain ⟨hHd, hcc, hfa, hFits, -⟩ := Im.tell_get hU ht
    by_cases h4 : kd < 4
    · rw [if_pos h4] at hlen ⊢
      obtain ⟨u, h1, h2⟩ := Im.parse_plain hU ht hL h4
      refine .inr ⟨_, u, rfl, h1, fun x hx => ?_, hlen, rfl⟩
      unfold Im.plainV at hx
      rcases List.mem_append.1 hx with h | h
      · exact Hj.bytes_fit _ x h
      · exact Pl.wAll_bytes hFits L.length (Nat.le_refl _) x h
    · rw [if_neg h4] at hlen ⊢
      refine .inr ⟨_, _, rfl, Im.parse_raw hU ht hL (by omega), fun x hx => ?_, hlen, rfl⟩
      have hRM : Rw.May ⟨kd, (gw : Int), (gh : Int), m⟩ := ⟨hHd, by simp only; omega⟩
      unfold Im.rawV at hx
      rcases List.mem_append.1 hx with h | h
      · exact Hj.bytes_fit _ x h
      · exact Rw.wRows_in hRM hFits _ x h
theorem Im.u_set {L : List Int} (h : ∀ x ∈ L, Pq.Px.U x) {p : Int} (hp : Pq.Px.U p) (k : Nat) : ∀ x ∈ L.set k p, Pq.Px.U x := fun x hx => by
  rcases List.mem_or_eq_of_mem_set hx with h1 | h1
  · exact h x h1
  · rw [h1]; exact hp
end Go.Proofs.YtmnhiagppicegaaGreat
