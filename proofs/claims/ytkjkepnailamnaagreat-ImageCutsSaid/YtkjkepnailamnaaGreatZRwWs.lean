/- A raster of bytes written by the code, over any memory. Condition: the head may be, at most 80 by 4; the pixels fit. -/
import Derived.Test.YtkjkepnailamnaaGreatZgAI
namespace Go.Proofs.YtkjkepnailamnaaGreat
open Go.RowKit Go.Shelf
attribute [local go_sem] Oper.semAt_some
set_option linter.unusedVariables false
theorem wr_app (i0 : TypeInfo) (hi : Tryz.prog.info? 5 = some i0) (hz1 : i0.size = 1) {W' V9 w9 : World} {g0 B K sz st : Nat} {xs R : List Int} {a9 : Option Addr} {V : Value} (hb : Below V9.heap.size V9 w9) (hV9 : V9 = W' ∨ V9 = W'.drew) (hrow : W'.ownsRow g0 5 1 (.slice (some ⟨g0, 0, none⟩) K sz) K (byts xs)) (hv : Boxed W' B 22 V) (hne : g0 < B) (hsr : SlK .u8 w9 a9 st R) (h1 : 1 ≤ st) (hl : R.length = st) (hks : K + st ≤ sz) :
    ∃ ad w10, a9 = some ad ∧ (loadCellsFrom ad 0 st #[]).run Tryz.prog w9 = .ok (byts R).toArray w9 ∧ (storeCells ⟨g0, K, none⟩ (byts R)).run Tryz.prog w9 = .ok () w10 ∧ w10.ownsRow g0 5 1 (.slice (some ⟨g0, 0, none⟩) (K + st) sz) (K + st) (byts (xs ++ R)) ∧ w9.cell? ⟨B, 0, none⟩ = some V ∧ w10.cell? ⟨B, 0, none⟩ = some V ∧ w10.frozen? ⟨B, 0, none⟩ = false ∧ Boxed w10 B 22 V ∧ w9.grownBy w10 (some g0) ∧ Below W'.heap.size W' w9 := by
  have hb99 : Below W'.heap.size W' w9 := by
    rcases hV9 with rfl | rfl
    · exact hb
    · exact Below.trans (b := W'.drew) ⟨rfl, rfl, rfl, Nat.le_refl _, fun _ _ => rfl⟩ hb
  obtain ⟨ad9, rfl, hsr9⟩ := wr_src hsr h1
  have hB : B < W'.heap.size := by have := block_lt_of_cell hv.cell; exact this
  have hv9 : Boxed w9 B 22 V := (hb99.block _ hB).trans hv
  have hB9 : B < w9.heap.size := Nat.lt_of_lt_of_le hB hb99.size
  have hrow9 := below_row hrow hb99
  have hL : (byts R).length = st := by unfold byts; rw [List.length_map, hl]
  obtain ⟨w10, hrun, r1, r2⟩ := run_append_fits (P := Tryz.prog) w9 g0 22 22 5 i0 1 Tryz.underlying22 hi hz1 g0 K sz (byts xs) hrow9 ad9 st st (byts R) (by rw [hL, Nat.mul_one]) hsr9 (byt_one R) hks
  have hld : (loadCellsFrom ad9 0 st #[]).run Tryz.prog w9 = .ok (byts R).toArray w9 := by
    have := run_loadCells_list (P := Tryz.prog) w9 ad9 (byts R) hsr9
    rw [hL] at this; exact this
  have hst : (storeCells ⟨g0, K, none⟩ (byts R)).run Tryz.prog w9 = .ok () w10 := by
    rcases hrow9.2 with ⟨h, _⟩ | ⟨g', cap', cur, h, hbg, hg, hnc, hcm, hcs, htake⟩
    · cases h
    · cases h
      have hfit : K + (byts R).length ≤ cur.size := by rw [hL]; omega
      have h2 := run_storeCells_at Tryz.prog g0 K 5 (byts R) 0 cur w9 hg (by simpa using hfit) (byt_one R)
      have h3 := run_append_room (P := Tryz.prog) w9 22 22 5 i0 Tryz.underlying22 hi g0 K sz cur hg ad9 st st (byts R) (by rw [hL, hz1, Nat.mul_one]) hsr9 (byt_one R) hks (by rw [hz1, Nat.mul_one]; exact hfit)
      rw [hrun] at h3
      rw [hz1, Nat.mul_one] at h3
      have h4 := (Result.ok.inj h3).2
      rw [h4]
      exact h2
  have hv10 : Boxed w10 B 22 V := (r2.block _ hB9 (by intro e; injection e with e; omega)).trans hv9
  refine ⟨ad9, w10, rfl, hld, hst, ?_, hv9.cell, hv10.cell, hv10.frozen, hv10, r2, hb99⟩
  have e : byts (xs ++ R) = byts xs ++ byts R := by unfold byts; rw [List.map_append]
  rw [e]; exact r1
set_option maxRecDepth 100000 in
set_option maxHeartbeats 8000000 in
theorem rwWrite_good (bk of : Nat) (n cap : Nat) (l : List Int) (G : Hd.H) (hf : Hj.Fit G) (hm : Rw.May G) (gw gh : Nat) (hgw : G.w = (gw : Int)) (hgh : G.h = (gh : Int)) (hw80 : gw ≤ 80) (hh4 : gh ≤ 9) (hL : l.length = gw * gh) (hn : n = gw * gh) (hnc : n ≤ cap) (hc : cap ≤ 9223372036854775807) (hl : Pl.Fits G l) (w : World) (hs : SlK .u64 w (some ⟨bk, of, none⟩) n l) :
    Calls Tryz.prog 119 #[.slice (some ⟨bk, of, none⟩) n cap, agH G] w (RwwR (Rw.wRows G l gw gh, 0) w) := by
  obtain ⟨i0, hi, hz0, hz1, hz2⟩ : ∃ i, Tryz.prog.info? 5 = some i ∧ i.zero = some (.int .u8 0) ∧ i.size = 1 ∧ i.bytes = 1 := (by have h := Bt.Tryz.info_byt; cases hh : Tryz.prog.info? 5 with | none => rw [hh] at h; cases h | some i => rw [hh] at h; simp at h; exact ⟨i, rfl, h.1, h.2.1, h.2.2⟩)
  have hMY := rwMay_any G hf
  rw [decide_eq_true hm] at hMY
  have hmm := hm.m
  have hF := hformat_any G hm.1
  unfold Hj.fm at hF
  have hFT := fun W hb => rwFit_any (some ⟨bk, of, none⟩) n cap l G (by omega) (Pl.goodU hl) W (hs.below hb)
  rw [Rw.fits_all hm hl] at hFT
  have hSZ := hsize_any G hm.1
  obtain ⟨st, hst⟩ : ∃ st, Rw.stride G = st := ⟨_, rfl⟩
  obtain ⟨sz, hsz⟩ : ∃ sz, gh * st = sz := ⟨_, rfl⟩
  have hse : Hj.size G = (sz : Int) := by rw [Rw.size_eq hm, hgh, hst, ← Int.natCast_mul, hsz]
  have hs9 := (Rw.stride_at hm).2.1
  have hs1 := (Rw.stride_at hm).1
  rw [hst] at hs9 hs1
  have hsz9 : sz ≤ 221184 := by rw [← hsz]; exact Nat.mul_le_mul hh4 hs9
  rw [hse] at hSZ
  obtain ⟨C, hC⟩ : ∃ C, Hj.chan G = C := ⟨_, rfl⟩
  rw [hC] at hF hFT
  have HRB := Lib.hid (fun y (hy : y < gh) W (hb : Below w.heap.size w W) => rwRowB_any (some ⟨bk, of + gw * y, none⟩) gw gw ((l.drop (y * gw)).take gw) G hm (Rw.fits_sub hl (y * gw) gw) (by omega) (by omega) W (wr_part (hs.below hb) hn hy))
  have HRL : Hid (∀ y, y < gh → (Rw.rowB G ((l.drop (y * gw)).take gw)).length = st) := Lib.hid fun y hy => by rw [← hst]; exact (Rw.row_back hm (Rw.fits_sub hl (y * gw) gw) hgw (Rw.part_len hL hy)).2
  have HWL : Hid (∀ y, y ≤ gh → (Rw.wRows G l gw y).length = y * st) := Lib.hid fun y hy => by rw [← hst]; exact Rw.wRows_len hm hl hgw hL y hy
  have HWS : Hid (∀ y, Rw.wRows G l gw (y + 1) = Rw.wRows G l gw y ++ Rw.rowB G ((l.drop (y * gw)).take gw)) := Lib.hid fun y => rfl
  unfold agH at hMY hF hSZ HRB ⊢
  have HMY := Lib.hid hMY
  have HF := Lib.hid hF
  have HFT := Lib.hid hFT
  have HSZ := Lib.hid hSZ
  have hN : G.w * G.h = (n : Int) := by rw [hgw, hgh, ← Int.natCast_mul, hn]
  have gN : wrap64 (G.w * G.h) = (n : Int) := by rw [hN, IntWalk.wrap64_in] <;> omega
  have gn : ((n : Int) != (n : Int)) = false := by simp
  have HGW := Lib.hid hgw
  have HGN := Lib.hid hn
  have HSS := Lib.hid hsz
  have HS1 : Hid (1 ≤ st) := Lib.hid hs1
  have hgw1 : 1 ≤ gw := by omega
  have hgh1 : 1 ≤ gh := by omega
  have hn1 : 1 ≤ n := by rw [hn]; exact Nat.mul_pos hgw1 hgh1
  have hn9 : n ≤ 4096 := by rw [hn]; exact Nat.le_trans (Nat.mul_le_mul hw80 hh4) (by decide)
  have HCM := Lib.hid (ch_made (some ⟨bk, of, none⟩) n cap gw hgw1)
  rw [← hgw] at HCM
  clear hMY hF hFT hSZ hs hl hN hC hm hf hst hse hgw hgh hsz hn hL
  refine calls_of_marks Tryz.func119 rfl ?_
  simp only [Tryz.ntmps119, List.size_toArray, List.length_cons, List.length_nil, Nat.reduceAdd, Nat.reduceSub, Array.replicate_succ, Array.replicate_zero, List.push_toArray, List.append_toArray, List.nil_append, List.cons_append]
  go_upto_region 1 with fail
  generalize hW : w.alloc (.cells #[.int .i64 G.kd, .int .i64 G.w, .int .i64 G.h, .int .i64 G.m] 62) = w1
  have HK1 : Hid (Hb w1 w.heap.size 62 G) := by show Hb _ _ _ _; rw [← hW]; exact Hb.new w 62 G
  have HB1 : Hid (Below w.heap.size w w1) := by show Below _ _ _; rw [← hW]; exact box1' _ _
  have HKL : Hid (w.heap.size < w1.heap.size) := Lib.hid (by rw [← hW]; simp)
  clear hW
  obtain ⟨k0, k1, k2, k3⟩ := HK1.out.cells
  go_upto_region 3 with (first
    | (go_at_call 154; refine (HMY.out _).mono ?_; rintro e w2 ⟨rfl, hb2⟩; have HB2 := Lib.hid (HB1.out.trans (hb2.mono HB1.out.size)); have HK2 := Lib.hid (HK1.out.later hb2); obtain ⟨m0, m1, m2, m3⟩ := HK2.out.cells; clear hb2)
    | (go_at_call 59; refine (HF.out _).mono ?_; rintro e w3 ⟨rfl, hb3⟩; have HB3 := Lib.hid (HB2.out.trans (hb3.mono HB2.out.size)); have HK3 := Lib.hid (HK2.out.later hb3); clear hb3)
    | (go_at_call 155; refine (HFT.out _ HB3.out).mono ?_; rintro e w4 ⟨rfl, hb4⟩; have HB4 := Lib.hid (HB3.out.trans (hb4.mono HB3.out.size)); have HK4 := Lib.hid (HK3.out.later hb4); clear hb4))
  clear k0 k1 k2 k3 m0 m1 m2 m3 gN gn
  obtain ⟨k0, k1, k2, k3⟩ := HK4.out.cells
  go_upto_region 4 with (first
    | (go_at_call 100; refine (HSZ.out _).mono ?_; rintro e w5 ⟨rfl, hb5⟩; have HB5 := Lib.hid (HB4.out.trans (hb5.mono HB4.out.size)); have HK5 := Lib.hid (HK4.out.later hb5); clear hb5)
    | (at_make; refine wpList_make_own _ rfl _ _ 22 rfl w5.heap.size 5 i0 (.int .u8 0) 1 Tryz.underlying22 hi hz0 hz1 .i64 .i64 (sz : Int) sz rfl rfl rfl (by rw [hz2]; omega) (by unfold maxLen; omega) (Nat.le_refl _) ?_; intro w6 hown hgrow; have HW := Lib.hid hown; have HG6 := Lib.hid hgrow; clear hown hgrow))
  clear k0 k1 k2 k3
  have HB6 : Hid (Below w.heap.size w w6) := Lib.hid (HB5.out.grown HG6.out HB5.out.size (by simp))
  have HK6 : Hid (Hb w6 w.heap.size 62 G) := Lib.hid ((HG6.out.block _ HK5.out.lt (by simp)).trans HK5.out)
  have hg0 : w5.heap.size < w6.heap.size := (Bt.ownsRow_blk HW.out).2
  obtain ⟨B, hB⟩ : ∃ B, w6.heap.size = B := ⟨_, rfl⟩
  have hKl := HK5.out.lt
  generalize hW : w6.alloc (.cells #[.slice (some ⟨w5.heap.size, 0, none⟩) 0 sz] 22) = w7
  have hv0 : Boxed w7 B 22 (.slice (some ⟨w5.heap.size, 0, none⟩) 0 sz) := by rw [← hB, ← hW]; exact Boxed.new w6 _ _
  have HR7 : Hid (w7.ownsRow w5.heap.size 5 1 (.slice (some ⟨w5.heap.size, 0, none⟩) 0 sz) 0 []) := by show World.ownsRow _ _ _ _ _ _ _; rw [← hW]; exact HW.out.alloc _
  have HB7 : Hid (Below w.heap.size w w7) := by show Below _ _ _; rw [← hW]; exact HB6.out.alloc HB6.out.size _
  have HK7 : Hid (Hb w7 w.heap.size 62 G) := by show Hb _ _ _ _; rw [← hW]; exact HK6.out.later (box1' _ _)
  have hs7 : w7.heap.size = B + 1 := by rw [← hW, ← hB]; simp
  rw [hB] at hg0 ⊢
  obtain ⟨g0, hgz⟩ : ∃ g0, w5.heap.size = g0 := ⟨_, rfl⟩
  rw [hgz] at hv0 HR7 hg0 hKl
  clear hW hB hgz HW HG6 HB6 HK6 HB5 HK5
  have HV7 := Lib.hid hv0
  obtain ⟨k0, k1, k2, k3⟩ := HK7.out.cells
  go_upto_region 5 with (go_at_call 156; refine (HCM.out _).mono ?_; rintro e w8 ⟨nb, bb, rfl, hne, l1, l2, l3, l4, cn, cb, hb⟩)
  clear k0 k1 k2 k3
  have hs8 := hb.size
  have hv8 : Boxed w8 B 22 (.slice (some ⟨g0, 0, none⟩) 0 sz) := (hb.block _ (by omega)).trans hv0
  have hr8 := Bt.ownsRow_same HR7.out (hb.block g0 (by omega))
  have hk8 := HK7.out.later hb
  have hb8 := HB7.out.trans (hb.mono HB7.out.size)
  have hb8s := hb8.size
  have hGV := Bt.ch_gives n gh gw cap bk of nb bb hgw1 hn1 (by rw [HGN.out]; exact Nat.le_refl _) (by rw [HGN.out]; omega) hnc hc hn9 (by omega) hne w8 2 (by omega) cn cb
  have hzB : ¬ ((B = nb ∨ B = bb) ∨ B = w8.heap.size ∨ B = w8.heap.size + 1) := by omega
  have hzg : ¬ ((g0 = nb ∨ g0 = bb) ∨ g0 = w8.heap.size ∨ g0 = w8.heap.size + 1) := by omega
  have hzk : ¬ ((w.heap.size = nb ∨ w.heap.size = bb) ∨ w.heap.size = w8.heap.size ∨ w.heap.size = w8.heap.size + 1) := by omega
  clear hb cn cb hv0
  refine range_wp (gf := 184) (lb := #[.pointer (some ⟨nb, 0, none⟩), .pointer (some ⟨bb, 0, none⟩)]) rfl (enters_of Tryz.func184 (by kernel_rfl) rfl)
    hGV (by rintro k (rfl | rfl) <;> assumption) (fun _ => rfl)
    (fun pre W' => Boxed W' B 22 (.slice (some ⟨g0, 0, none⟩) (pre.length * st) sz) ∧ W'.ownsRow g0 5 1 (.slice (some ⟨g0, 0, none⟩) (pre.length * st) sz) (pre.length * st) (byts (Rw.wRows G l gw pre.length)) ∧ Hb W' w.heap.size 62 G ∧ Below w.heap.size w W')
    (fun _ _ _ => False) ?hI (fun _ _ _ _ hh _ => hh) ⟨by simpa using hv8, by simpa [Rw.wRows, byts] using hr8, hk8, hb8⟩ ?_ ?assign ?body ?done ?stop
  case hI =>
    rintro p A B' ⟨h1, h2, h3, h4⟩ hs
    refine ⟨boxed_sep h1 hs hzB, Bt.ownsRow_same h2 (hs.block _ (Bt.ownsRow_blk h2).2 hzg), (hs.block _ h3.lt hzk).trans h3, ?_⟩
    exact h4.trans (hs.below h4.size (by intro k hk; omega))
  case assign =>
    intro l x W K hK
    unfold Bt.encCh
    gi_wp2
    exact hK
  case body =>
    rintro ll pre k rest W' hx hlt ⟨hv, hrow, hkk, hB⟩
    obtain ⟨rfl, hkm⟩ := Bt.range_mid hx
    obtain ⟨k, hk⟩ : ∃ k, pre.length = k := ⟨_, rfl⟩
    rw [hk] at hv hrow hkm ⊢
    have HK := Lib.hid hk
    clear hx hk hv8 hr8 hk8 hb8
    have hpc : Bt.partCh n gw k = gw := by
      unfold Bt.partCh
      have h1 : gw * (k + 1) ≤ gw * gh := Nat.mul_le_mul_left gw hkm
      rw [Nat.mul_succ, ← HGN.out] at h1
      omega
    rw [hpc]
    have hvc := hv.cell
    have hvf := hv.frozen
    obtain ⟨k0, k1, k2, k3⟩ := hkk.cells
    have HV := Lib.hid hv
    have HROW := Lib.hid hrow
    have HKK := Lib.hid hkk
    have HB' := Lib.hid hB
    have HRBk := Lib.hid (fun W hb => HRB.out k hkm W hb)
    have hrl := HRL.out k hkm
    obtain ⟨R, hR⟩ : ∃ R, Rw.rowB G ((l.drop (k * gw)).take gw) = R := ⟨_, rfl⟩
    rw [hR] at hrl HRBk
    rw [hrl] at HRBk
    have HWK := Lib.hid (HWS.out k)
    rw [hR] at HWK
    have HRLN := Lib.hid hrl
    have hks : k * st + st ≤ sz := by
      have h1 : (k + 1) * st ≤ gh * st := Nat.mul_le_mul_right st hkm
      rw [Nat.add_mul, Nat.one_mul, HSS.out] at h1; exact h1
    obtain ⟨K, hK⟩ : ∃ K, k * st = K := ⟨_, rfl⟩
    have HKe := Lib.hid hK
    rw [hK] at hks HV HROW hvc
    clear hv hrow hkk hB hpc hrl hR hK
    gi_wp2
    gi_region_with (first | (refine ⟨trivial, ?_⟩; gi_at_call 157; refine (((callsIn_wide (n := _)).2 (HRBk.out _ (by first | exact HB'.out | exact HB'.out.drew))).inRound ll).mono ?_; rintro e w9 ⟨a9, c9, rfl, hs9, hb9⟩; obtain ⟨ad9, w10, had9, hld, hst, r1, c7, c8, f8, v8, r2, hb99⟩ := wr_app i0 hi hz1 (W' := W') hb9 (by first | exact .inl rfl | exact .inr rfl) HROW.out HV.out hg0 hs9 HS1.out HRLN.out hks; subst had9; have HR1 := Lib.hid r1; have HR2 := Lib.hid r2; have HBB := Lib.hid hb99; have HV8 := Lib.hid v8; clear r1 r2 hb99 v8 hs9))
    all_goals
      have hBs := HBB.out
      have hgr := HR2.out
      have hss := hBs.size
      have hBg : ¬ B = g0 := by omega
      have hgB : ¬ g0 = B := by omega
      have hkg : ¬ w.heap.size = g0 := by omega
      have hkB : ¬ w.heap.size = B := by omega
      have hZ9 : Hold (fun k => (k = nb ∨ k = bb) ∨ k = w8.heap.size ∨ k = w8.heap.size + 1) w9 w10 := ⟨hgr.size, fun k hk hz => hgr.block k hk (by intro e; cases e; exact hzg hz)⟩
      have hhf := ((Hold.below hBs (by intro k hk; omega)).trans hZ9).trans (.setCell (b := B) (o := 0) (p := none) _ hzB (.slice (some ⟨g0, 0, none⟩) (K + st) sz))
      have hrF := HR1.out.kept (grownBy_setCell' _ B (.slice (some ⟨g0, 0, none⟩) (K + st) sz)) (.inr (by simpa [Value.ownBlock] using hgB))
      have hvF := HV8.out.set (.slice (some ⟨g0, 0, none⟩) (K + st) sz)
      have hbF := ((HB'.out.trans (hBs.mono HB'.out.size)).grown hgr (by omega) (by intro k e; cases e; omega)).setCell (p := ⟨B, 0, none⟩) (by show _ ≤ B; omega) (.slice (some ⟨g0, 0, none⟩) (K + st) sz)
      have hkF : Hb (w10.setCell ⟨B, 0, none⟩ (.slice (some ⟨g0, 0, none⟩) (K + st) sz)) w.heap.size 62 G := (Below.heap_setCell _ _ _ _ hkB).trans ((hgr.block _ (Nat.lt_of_lt_of_le (by omega) hss) (by intro e; cases e; omega)).trans ((hBs.block _ (by omega)).trans HKK.out))
      gi_wp2
      refine ⟨hhf, ?_, ?_, hkF, hbF⟩
      · rw [List.length_append, List.length_singleton, HK.out, Nat.add_mul, Nat.one_mul, HKe.out]; exact hvF
      · rw [List.length_append, List.length_singleton, HK.out, Nat.add_mul, Nat.one_mul, HKe.out, HWK.out]; exact hrF
  case done =>
    rintro W' ⟨hv, hrow, _, hB⟩ hK
    rw [List.length_range, HSS.out] at hv hrow
    have hvc := hv.cell
    have HR := Lib.hid hrow
    have hwl : (Rw.wRows G l gw gh).length = sz := by rw [HWL.out gh (Nat.le_refl _), HSS.out]
    have HWL9 := Lib.hid hwl
    clear hv8 hr8 hv hrow hk8 hb8 hwl
    go_wp2
    refine ret_mark hK (results_tmp2 rfl _ _ _) ?_
    have hlK : w8.heap.size < W'.heap.size := (Array.getElem?_eq_some_iff.1 hK).1
    have hr9 := Bt.ownsRow_same HR.out (B := W'.putObj w8.heap.size (.deferred none)) (World.putObj_heap_other (by omega))
    obtain ⟨a, c, e, hs⟩ := byt_row hr9 HWL9.out
    cases e
    exact ⟨some ⟨g0, 0, none⟩, sz, (by show Ending.returned (.tuple #[.slice (some ⟨g0, 0, none⟩) sz sz, .int .i64 0]) = Ending.returned (.tuple #[.slice (some ⟨g0, 0, none⟩) (Rw.wRows G l gw gh).length sz, .int .i64 0]); rw [HWL9.out]), (by show SlK _ _ _ (Rw.wRows G l gw gh).length _; rw [HWL9.out]; exact hs), (by show (Rw.wRows G l gw gh).length ≤ _ ∧ _; rw [HWL9.out]; exact ⟨Nat.le_refl _, by omega⟩), Below.putObj hB (by omega) _⟩
  case stop =>
    rintro c pre W _ hh _
    exact hh.elim
end Go.Proofs.YtkjkepnailamnaaGreat
