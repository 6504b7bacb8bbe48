/- A row's bytes, by the code, over any memory. Condition: the pixels fit their head, and are not too many. -/
import Derived.Test.YtkjkepnailamnaaGreatZRwJ
import Derived.Test.YtkjkepnailamnaaGreatZgAB
import Derived.Test.YtkjkepnailamnaaGreatZgAF
import Derived.Laws.MakeOwn
namespace Go.Proofs.YtkjkepnailamnaaGreat
open Go.RowKit
set_option linter.unusedVariables false
def RbR (w : World) (l : List Int) (n : Nat) (e : Ending) (w' : World) : Prop :=
  ∃ a c, e = .returned (.slice a n c) ∧ SlK .u8 w' a n l ∧ Below w.heap.size w w'
theorem rbr_row {w w' : World} {base k : Nat} {v : Value} {l : List Int} (hr : w'.ownsRow base 5 1 v k (byts l)) (hk : l.length = k) (hB : Below w.heap.size w w') : RbR w l k (.returned v) w' := by
  obtain ⟨a, c, rfl, hs⟩ := byt_row hr hk
  exact ⟨a, c, rfl, hs, hB⟩
theorem own_slk {base : Nat} {w : World} {ad : Option Addr} {zs : List Int} (h : Pq.Own base w ad zs) {m : Nat} (hm : zs.length = m) : SlK .i64 w ad m zs := by
  have h9 := h.sl
  rw [hm] at h9
  exact h9
theorem rb_cell {w : World} {base bg n c k : Nat} {Z : List Int} (h : w.ownsRow base 3 1 (.slice (some ⟨bg, 0, none⟩) n c) n (ints Z)) (hk : k < n) (hn : Z.length = n) : w.cell? ⟨bg, k, none⟩ = some (.int .i64 (Z.getD k 0)) := by
  have h9 := h.cells (g := bg) rfl k (.int .i64 (Z.getD k 0)) (by simp [ints, List.getD_eq_getElem?_getD, List.getElem?_eq_getElem (show k < Z.length by omega)])
  simpa [addrK_add] using h9
theorem bit_smps {G : Hd.H} (hm : Rw.May G) (h4 : G.kd = 4) {l : List Int} (hl : Pl.Fits G l) : l.flatMap Pq.Px.smp = l.map Rw.s0 ∧ Bt.Ones (l.map Rw.s0) := by
  refine ⟨?_, fun x hx => by obtain ⟨p, hp, rfl⟩ := List.mem_map.1 hx; exact (Rw.bits_one hm hl h4 p hp).1⟩
  induction l with
  | nil => rfl
  | cons p l ih =>
    have h1 := (Rw.good_smp hm (hl p (List.mem_cons_self ..))).1
    rw [(hm.one h4).2.2] at h1
    have h2 : Pq.Px.smp p = [Rw.s0 p] := by
      unfold Rw.s0
      match hh : Pq.Px.smp p, h1 with
      | [x], _ => rfl
    rw [List.flatMap_cons, ih fun q hq => hl q (List.mem_cons_of_mem _ hq), h2]; rfl
set_option maxRecDepth 100000 in
set_option maxHeartbeats 8000000 in
theorem rwRowB_1 (a : Option Addr) (n cap : Nat) (l : List Int) (G : Hd.H) (hm : Rw.May G) (h4 : G.kd ≠ 4) (hw : ¬ 255 < G.m) (hl : Pl.Fits G l) (hn1 : 1 ≤ n) (hn : n ≤ 100) (w : World) (hs : SlK .u64 w a n l) :
    Calls Tryz.prog 157 #[.slice a n cap, agH G] w (RbR w (Rw.rowB G l) (Rw.rowB G l).length) := by
  have HS := Lib.hid hs
  have HFT := Lib.hid hl
  have HL := Lib.hid hs.1
  have HM := Lib.hid hm
  have hmm := hm.m
  obtain ⟨R, hR⟩ : ∃ R, Rw.rowB G l = R := ⟨_, rfl⟩
  rw [hR]
  have HRR := Lib.hid hR
  obtain ⟨rn, hrn⟩ : ∃ rn, R.length = rn := ⟨_, rfl⟩
  rw [hrn]
  have HRN := Lib.hid hrn
  have hsm := Rw.all_smp hm hl
  have HSM := Lib.hid hsm
  have H4 := Lib.hid h4
  have hk4 : (G.kd == 4) = false := by simpa using h4
  obtain ⟨i0, hi8, hz0, hz1, hz2⟩ : ∃ i, Tryz.prog.info? 3 = some i ∧ i.zero = some (.int .i64 0) ∧ i.size = 1 ∧ i.bytes = 8 := (by have h := Tryz.info_in8; cases hh : Tryz.prog.info? 3 with | none => rw [hh] at h; cases h | some i => rw [hh] at h; simp at h; exact ⟨i, rfl, h.1, h.2.1, h.2.2⟩)
  obtain ⟨b0, hby, hyz0, hyz1, hyz2⟩ : ∃ i, Tryz.prog.info? 5 = some i ∧ i.zero = some (.int .u8 0) ∧ i.size = 1 ∧ i.bytes = 1 := (by have h := Bt.Tryz.info_byt; cases hh : Tryz.prog.info? 5 with | none => rw [hh] at h; cases h | some i => rw [hh] at h; simp at h; exact ⟨i, rfl, h.1, h.2.1, h.2.2⟩)
  have hne8 : 3 ≠ 5 := by decide
  have hlen0 : ¬ (n : Int) < 0 := by omega
  have hwd : Rw.wide G = 1 := by have := Rw.wide_at G; omega
  have HWB : Hid (∀ x, Rw.wbs G x = [x % 256]) := Lib.hid (fun x => by unfold Rw.wbs; rw [hwd]; rfl)
  clear hs hl hR hrn hsm h4 hm hwd
  unfold agH
  go_enter Tryz.func157, Tryz.ntmps157
  go_upto_region 1 with fail
  generalize hW : w.alloc (.cells #[.int .i64 G.kd, .int .i64 G.w, .int .i64 G.h, .int .i64 G.m] 62) = w1
  have HK1 : Hid (Hb w1 w.heap.size 62 G) := by show Hb _ _ _ _; rw [← hW]; exact Hb.new w 62 G
  have HB1 : Hid (Below w.heap.size w w1) := by show Below _ _ _; rw [← hW]; exact box1' _ _
  clear hW
  go_wp2_with fail
  go_loopw [5, 15] (fun u5 u15 wr => ∃ (i : Nat) (v : Value), i ≤ n ∧ u15 = .int .i64 i ∧ v = u5 ∧ wr.ownsRow w1.heap.size 3 1 v ((l.take i).flatMap Pq.Px.smp).length (ints ((l.take i).flatMap Pq.Px.smp)) ∧ Below w1.heap.size w1 wr) (fun _ u15 _ => n - (intOf u15).toNat)
  case atStart => exact ⟨0, _, Nat.zero_le _, rfl, rfl, World.ownsRow_nil _ _ _ _, .refl _ _⟩
  case round =>
    obtain ⟨i, v, hin, rfl, rfl, hrow, hB⟩ := hrel
    have HB := Lib.hid hB
    have hZl := smps_len (G := G) (l := l.take i) fun q hq => HFT.out q (List.mem_of_mem_take hq)
    rw [List.length_take] at hZl
    by_cases hlt : i < n
    · have hil : i < l.length := by rw [HL.out]; exact hlt
      obtain ⟨p, hp⟩ : ∃ p, l.getD i 0 = p := ⟨_, rfl⟩
      have hgp := HFT.out _ (getD_mem hil)
      rw [hp] at hgp
      have HSC : Hid ((l.take (i + 1)).flatMap Pq.Px.smp = (l.take i).flatMap Pq.Px.smp ++ Pq.Px.smp p) := Lib.hid (by rw [Rw.take_snoc1 l i hil, List.flatMap_append, hp]; simp)
      have HUP := Lib.hid (fun W => Pq.unpack_any p (Pq.goodU hgp) W)
      have hm3 := (Pl.smp_in (Pq.goodU hgp)).1
      obtain ⟨zs, hzs⟩ : ∃ zs, Pq.Px.smp p = zs := ⟨_, rfl⟩
      rw [hzs] at HSC HUP hm3
      obtain ⟨m, hmz⟩ : ∃ m, zs.length = m := ⟨_, rfl⟩
      rw [hmz] at hm3
      have HML := Lib.hid hmz
      obtain ⟨Z, hZ⟩ : ∃ Z, (l.take i).flatMap Pq.Px.smp = Z := ⟨_, rfl⟩
      rw [hZ] at hrow HSC hZl
      obtain ⟨nz, hnz⟩ : ∃ nz, Z.length = nz := ⟨_, rfl⟩
      rw [hnz] at hrow hZl
      have HNZ := Lib.hid hnz
      have HROW := Lib.hid hrow
      obtain ⟨blk, off, ha, c0⟩ : ∃ blk off, a = some ⟨blk, off, none⟩ ∧ wr.cell? ⟨blk, off + i, none⟩ = some (.int .u64 p) := by
        rcases HS.out.2 with h | ⟨blk, off, rfl, hc⟩
        · omega
        · exact ⟨blk, off, rfl, cell_later (HB1.out.trans (hB.mono HB1.out.size)) (by rw [hc i hlt, hp])⟩
      subst ha
      have q1 : nz + m ≤ maxLen := by unfold maxLen; omega
      have q2 : (nz + m) * 8 ≤ 140737488355328 := by omega
      clear hil hp hgp hzs hmz hZ hnz hrow hB
      go_wp2_with (first
        | (go_at_call 185; refine (HUP.out _).mono ?_; rintro e w2 ⟨ad, cc, rfl, hown, hb2⟩; have HSL := Lib.hid (own_slk hown HML.out); rw [HML.out]; have HB2 := Lib.hid (HB.out.trans (hb2.mono HB.out.size)); have HRW2 := Lib.hid (below_row HROW.out hb2); clear hown hb2)
        | (at_builtin; refine wpList_app rfl _ _ 25 rfl w1.heap.size 3 i0 .i64 8 Tryz.underlying25 hi8 hz0 hz1 hz2 v nz (ints Z) rfl HRW2.out ad m cc zs rfl HSL.out q1 q2 HB2.out.size ?_; intro v3 w3 hown hgrow hat; have HO3 := Lib.hid hown; have HB3 := Lib.hid (HB2.out.grown hgrow HB2.out.size (fun j ej => (HRW2.out.lt j ej).1)); clear hown hgrow hat))
      go_roundw
      case rel => exact ⟨i + 1, v3, hlt, by go_num, rfl, by rw [HSC.out, List.length_append, HNZ.out, HML.out]; have h9 := HO3.out; unfold ints at h9 ⊢; rw [List.map_append]; exact h9, HB3.out⟩
      case measure => simp [intOf]; omega
    · obtain rfl : i = n := by omega
      rw [List.take_of_length_le (by rw [HL.out]; exact Nat.le_refl _)] at hrow hZl
      have HBt := Lib.hid (HB1.out.trans (hB.mono HB1.out.size))
      obtain ⟨Z, hZ⟩ : ∃ Z, l.flatMap Pq.Px.smp = Z := ⟨_, rfl⟩
      have HZ := Lib.hid hZ
      rw [hZ] at hrow hZl
      obtain ⟨nz, hnz⟩ : ∃ nz, Z.length = nz := ⟨_, rfl⟩
      rw [hnz] at hrow hZl
      have HNZ := Lib.hid hnz
      have hnz9 : nz ≤ 300 := by omega
      have HROW := Lib.hid hrow
      have HZIN : Hid (∀ x ∈ Z, 0 ≤ x ∧ x ≤ G.m) := Lib.hid (by rw [← hZ]; exact HSM.out)
      obtain ⟨sa, sc, hv, hsl⟩ := sl_of_row (z := 0) rfl hrow hnz
      subst hv
      have hcap := byt_cap hrow
      have HSL := Lib.hid hsl
      obtain ⟨k0, k1, k2, k3⟩ := (HK1.out.later hB).cells
      clear hZ hnz hrow hsl hB hZl
      have hRe : R = Z.flatMap (Rw.wbs G) := by
        rw [← HRR.out, ← HZ.out, List.flatMap_assoc]; unfold Rw.rowB; rw [if_neg H4.out]; rfl
      have HRE := Lib.hid hRe
      clear hRe
      go_wp2_with fail
      clear k0 k1 k2 k3
      go_loopw [10, 35] (fun u10 u35 wq => ∃ (k : Nat) (v2 : Value), k ≤ nz ∧ u35 = .int .i64 k ∧ v2 = u10 ∧ wq.ownsRow w1.heap.size 5 1 v2 ((Z.take k).flatMap (Rw.wbs G)).length (byts ((Z.take k).flatMap (Rw.wbs G))) ∧ wq.ownsRow w1.heap.size 3 1 (.slice sa nz sc) nz (ints Z) ∧ Below w1.heap.size w1 wq) (fun _ u35 _ => nz - (intOf u35).toNat)
      case atStart => exact ⟨0, _, Nat.zero_le _, rfl, rfl, World.ownsRow_nil _ _ _ _, HROW.out, HB.out⟩
      case round =>
        obtain ⟨k, v2, hk, rfl, rfl, hr2, hri, hbq⟩ := hrel
        obtain ⟨k0, k1, k2, k3⟩ := (HK1.out.later hbq).cells
        have HBQ := Lib.hid hbq
        have HRI := Lib.hid hri
        have hfl : ((Z.take k).flatMap (Rw.wbs G)).length ≤ 600 := by
          rw [Rw.flat_len _ (fun s _ => Rw.wbs_len G s), List.length_take]
          have h9 : min k Z.length * Rw.wide G ≤ 300 * 2 := Nat.mul_le_mul (by have := HNZ.out; omega) (by have := Rw.wide_at G; omega)
          omega
        by_cases hkm : k < nz
        · obtain ⟨x, hx⟩ : ∃ x, Z.getD k 0 = x := ⟨_, rfl⟩
          obtain ⟨x0, x1⟩ := HZIN.out x (by rw [← hx]; exact getD_mem (by rw [HNZ.out]; exact hkm))
          have HX : Hid ((Z.take (k + 1)).flatMap (Rw.wbs G) = (Z.take k).flatMap (Rw.wbs G) ++ [x % 256]) := Lib.hid (by rw [Rw.take_snoc1 Z k (by rw [HNZ.out]; exact hkm), List.flatMap_append, hx]; simp [HWB.out])
          obtain ⟨B, hBv⟩ : ∃ B, (Z.take k).flatMap (Rw.wbs G) = B := ⟨_, rfl⟩
          rw [hBv] at HX hr2 hfl
          obtain ⟨nB, hnB⟩ : ∃ nB, B.length = nB := ⟨_, rfl⟩
          have HNB := Lib.hid hnB
          rw [hnB] at hr2 hfl
          have HR2 := Lib.hid hr2
          have q1 : nB + 1 ≤ maxLen := by unfold maxLen; omega
          have q2 : (nB + 1) * 1 ≤ 140737488355328 := by omega
          have q1' : nB + 1 + 1 ≤ maxLen := by unfold maxLen; omega
          have q2' : (nB + 1 + 1) * 1 ≤ 140737488355328 := by omega
          have q3 := hbq.size
          obtain ⟨bg, hbg⟩ : ∃ bg, sa = some ⟨bg, 0, none⟩ := by
            rcases hri.2 with ⟨hv, he⟩ | ⟨g9, cap9, cur9, hv, _⟩
            · omega
            · cases hv; exact ⟨g9, rfl⟩
          subst hbg
          have hcell := rb_cell hri hkm HNZ.out
          rw [hx] at hcell
          clear hBv hnB hr2 hri hbq hx
          have b3 : 0 ≤ x % 256 := by omega
          have b4 : x % 256 ≤ 255 := by omega
          have hxm : x % 256 = x := by omega
          go_wp2_with (at_builtin; refine Rw.wpList_app1 rfl _ _ 22 rfl w1.heap.size 5 b0 (.int .u8 0) 1 Tryz.underlying22 hby hyz0 rfl hyz1 hyz2 v2 nB (byts B) rfl (HR2.out.alloc _) _ (.int .u8 (x)) rfl rfl (by rw [World.cell?_alloc_at _ _ _ _ rfl]; rfl) q1 q2 (Nat.le_trans q3 (by simp)) ?_; intro v12 w12 hown hgrow hat; have HO12 := Lib.hid hown; have HB12 := Lib.hid ((HBQ.out.alloc q3 _).grown hgrow (Nat.le_trans q3 (by simp)) (fun j ej => (HR2.out.lt j ej).1)); have HI12 := Lib.hid ((HRI.out.alloc _).kept hgrow (apart_rows hne8 HRI.out HR2.out)); clear hown hgrow hat)
          go_roundw
          case rel => exact ⟨k + 1, v12, hkm, by go_num, rfl, by rw [HX.out, List.length_append, HNB.out, hxm]; have h9 := HO12.out; unfold byts at h9 ⊢; rw [List.map_append]; exact h9, HI12.out, HB12.out⟩
          case measure => simp [intOf]; omega
        · obtain rfl : k = nz := by omega
          rw [List.take_of_length_le (by rw [HNZ.out]; exact Nat.le_refl _), ← HRE.out, HRN.out] at hr2
          clear hbq hri
          go_wp2_with fail
          go_returns
          exact rbr_row hr2 HRN.out (HB1.out.trans (HBQ.out.mono HB1.out.size))
set_option maxRecDepth 100000 in
set_option maxHeartbeats 8000000 in
theorem rwRowB_2 (a : Option Addr) (n cap : Nat) (l : List Int) (G : Hd.H) (hm : Rw.May G) (h4 : G.kd ≠ 4) (hw : 255 < G.m) (hl : Pl.Fits G l) (hn1 : 1 ≤ n) (hn : n ≤ 100) (w : World) (hs : SlK .u64 w a n l) :
    Calls Tryz.prog 157 #[.slice a n cap, agH G] w (RbR w (Rw.rowB G l) (Rw.rowB G l).length) := by
  have HS := Lib.hid hs
  have HFT := Lib.hid hl
  have HL := Lib.hid hs.1
  have HM := Lib.hid hm
  have hmm := hm.m
  obtain ⟨R, hR⟩ : ∃ R, Rw.rowB G l = R := ⟨_, rfl⟩
  rw [hR]
  have HRR := Lib.hid hR
  obtain ⟨rn, hrn⟩ : ∃ rn, R.length = rn := ⟨_, rfl⟩
  rw [hrn]
  have HRN := Lib.hid hrn
  have hsm := Rw.all_smp hm hl
  have HSM := Lib.hid hsm
  have H4 := Lib.hid h4
  have hk4 : (G.kd == 4) = false := by simpa using h4
  obtain ⟨i0, hi8, hz0, hz1, hz2⟩ : ∃ i, Tryz.prog.info? 3 = some i ∧ i.zero = some (.int .i64 0) ∧ i.size = 1 ∧ i.bytes = 8 := (by have h := Tryz.info_in8; cases hh : Tryz.prog.info? 3 with | none => rw [hh] at h; cases h | some i => rw [hh] at h; simp at h; exact ⟨i, rfl, h.1, h.2.1, h.2.2⟩)
  obtain ⟨b0, hby, hyz0, hyz1, hyz2⟩ : ∃ i, Tryz.prog.info? 5 = some i ∧ i.zero = some (.int .u8 0) ∧ i.size = 1 ∧ i.bytes = 1 := (by have h := Bt.Tryz.info_byt; cases hh : Tryz.prog.info? 5 with | none => rw [hh] at h; cases h | some i => rw [hh] at h; simp at h; exact ⟨i, rfl, h.1, h.2.1, h.2.2⟩)
  have hne8 : 3 ≠ 5 := by decide
  have hlen0 : ¬ (n : Int) < 0 := by omega
  have hwd : Rw.wide G = 2 := by have := Rw.wide_at G; omega
  have HWB : Hid (∀ x, Rw.wbs G x = [x / 256, x % 256]) := Lib.hid (fun x => by unfold Rw.wbs; rw [hwd]; rfl)
  clear hs hl hR hrn hsm h4 hm hwd
  unfold agH
  go_enter Tryz.func157, Tryz.ntmps157
  go_upto_region 1 with fail
  generalize hW : w.alloc (.cells #[.int .i64 G.kd, .int .i64 G.w, .int .i64 G.h, .int .i64 G.m] 62) = w1
  have HK1 : Hid (Hb w1 w.heap.size 62 G) := by show Hb _ _ _ _; rw [← hW]; exact Hb.new w 62 G
  have HB1 : Hid (Below w.heap.size w w1) := by show Below _ _ _; rw [← hW]; exact box1' _ _
  clear hW
  go_wp2_with fail
  go_loopw [5, 15] (fun u5 u15 wr => ∃ (i : Nat) (v : Value), i ≤ n ∧ u15 = .int .i64 i ∧ v = u5 ∧ wr.ownsRow w1.heap.size 3 1 v ((l.take i).flatMap Pq.Px.smp).length (ints ((l.take i).flatMap Pq.Px.smp)) ∧ Below w1.heap.size w1 wr) (fun _ u15 _ => n - (intOf u15).toNat)
  case atStart => exact ⟨0, _, Nat.zero_le _, rfl, rfl, World.ownsRow_nil _ _ _ _, .refl _ _⟩
  case round =>
    obtain ⟨i, v, hin, rfl, rfl, hrow, hB⟩ := hrel
    have HB := Lib.hid hB
    have hZl := smps_len (G := G) (l := l.take i) fun q hq => HFT.out q (List.mem_of_mem_take hq)
    rw [List.length_take] at hZl
    by_cases hlt : i < n
    · have hil : i < l.length := by rw [HL.out]; exact hlt
      obtain ⟨p, hp⟩ : ∃ p, l.getD i 0 = p := ⟨_, rfl⟩
      have hgp := HFT.out _ (getD_mem hil)
      rw [hp] at hgp
      have HSC : Hid ((l.take (i + 1)).flatMap Pq.Px.smp = (l.take i).flatMap Pq.Px.smp ++ Pq.Px.smp p) := Lib.hid (by rw [Rw.take_snoc1 l i hil, List.flatMap_append, hp]; simp)
      have HUP := Lib.hid (fun W => Pq.unpack_any p (Pq.goodU hgp) W)
      have hm3 := (Pl.smp_in (Pq.goodU hgp)).1
      obtain ⟨zs, hzs⟩ : ∃ zs, Pq.Px.smp p = zs := ⟨_, rfl⟩
      rw [hzs] at HSC HUP hm3
      obtain ⟨m, hmz⟩ : ∃ m, zs.length = m := ⟨_, rfl⟩
      rw [hmz] at hm3
      have HML := Lib.hid hmz
      obtain ⟨Z, hZ⟩ : ∃ Z, (l.take i).flatMap Pq.Px.smp = Z := ⟨_, rfl⟩
      rw [hZ] at hrow HSC hZl
      obtain ⟨nz, hnz⟩ : ∃ nz, Z.length = nz := ⟨_, rfl⟩
      rw [hnz] at hrow hZl
      have HNZ := Lib.hid hnz
      have HROW := Lib.hid hrow
      obtain ⟨blk, off, ha, c0⟩ : ∃ blk off, a = some ⟨blk, off, none⟩ ∧ wr.cell? ⟨blk, off + i, none⟩ = some (.int .u64 p) := by
        rcases HS.out.2 with h | ⟨blk, off, rfl, hc⟩
        · omega
        · exact ⟨blk, off, rfl, cell_later (HB1.out.trans (hB.mono HB1.out.size)) (by rw [hc i hlt, hp])⟩
      subst ha
      have q1 : nz + m ≤ maxLen := by unfold maxLen; omega
      have q2 : (nz + m) * 8 ≤ 140737488355328 := by omega
      clear hil hp hgp hzs hmz hZ hnz hrow hB
      go_wp2_with (first
        | (go_at_call 185; refine (HUP.out _).mono ?_; rintro e w2 ⟨ad, cc, rfl, hown, hb2⟩; have HSL := Lib.hid (own_slk hown HML.out); rw [HML.out]; have HB2 := Lib.hid (HB.out.trans (hb2.mono HB.out.size)); have HRW2 := Lib.hid (below_row HROW.out hb2); clear hown hb2)
        | (at_builtin; refine wpList_app rfl _ _ 25 rfl w1.heap.size 3 i0 .i64 8 Tryz.underlying25 hi8 hz0 hz1 hz2 v nz (ints Z) rfl HRW2.out ad m cc zs rfl HSL.out q1 q2 HB2.out.size ?_; intro v3 w3 hown hgrow hat; have HO3 := Lib.hid hown; have HB3 := Lib.hid (HB2.out.grown hgrow HB2.out.size (fun j ej => (HRW2.out.lt j ej).1)); clear hown hgrow hat))
      go_roundw
      case rel => exact ⟨i + 1, v3, hlt, by go_num, rfl, by rw [HSC.out, List.length_append, HNZ.out, HML.out]; have h9 := HO3.out; unfold ints at h9 ⊢; rw [List.map_append]; exact h9, HB3.out⟩
      case measure => simp [intOf]; omega
    · obtain rfl : i = n := by omega
      rw [List.take_of_length_le (by rw [HL.out]; exact Nat.le_refl _)] at hrow hZl
      have HBt := Lib.hid (HB1.out.trans (hB.mono HB1.out.size))
      obtain ⟨Z, hZ⟩ : ∃ Z, l.flatMap Pq.Px.smp = Z := ⟨_, rfl⟩
      have HZ := Lib.hid hZ
      rw [hZ] at hrow hZl
      obtain ⟨nz, hnz⟩ : ∃ nz, Z.length = nz := ⟨_, rfl⟩
      rw [hnz] at hrow hZl
      have HNZ := Lib.hid hnz
      have hnz9 : nz ≤ 300 := by omega
      have HROW := Lib.hid hrow
      have HZIN : Hid (∀ x ∈ Z, 0 ≤ x ∧ x ≤ G.m) := Lib.hid (by rw [← hZ]; exact HSM.out)
      obtain ⟨sa, sc, hv, hsl⟩ := sl_of_row (z := 0) rfl hrow hnz
      subst hv
      have hcap := byt_cap hrow
      have HSL := Lib.hid hsl
      obtain ⟨k0, k1, k2, k3⟩ := (HK1.out.later hB).cells
      clear hZ hnz hrow hsl hB hZl
      have hRe : R = Z.flatMap (Rw.wbs G) := by
        rw [← HRR.out, ← HZ.out, List.flatMap_assoc]; unfold Rw.rowB; rw [if_neg H4.out]; rfl
      have HRE := Lib.hid hRe
      clear hRe
      go_wp2_with fail
      clear k0 k1 k2 k3
      go_loopw [10, 35] (fun u10 u35 wq => ∃ (k : Nat) (v2 : Value), k ≤ nz ∧ u35 = .int .i64 k ∧ v2 = u10 ∧ wq.ownsRow w1.heap.size 5 1 v2 ((Z.take k).flatMap (Rw.wbs G)).length (byts ((Z.take k).flatMap (Rw.wbs G))) ∧ wq.ownsRow w1.heap.size 3 1 (.slice sa nz sc) nz (ints Z) ∧ Below w1.heap.size w1 wq) (fun _ u35 _ => nz - (intOf u35).toNat)
      case atStart => exact ⟨0, _, Nat.zero_le _, rfl, rfl, World.ownsRow_nil _ _ _ _, HROW.out, HB.out⟩
      case round =>
        obtain ⟨k, v2, hk, rfl, rfl, hr2, hri, hbq⟩ := hrel
        obtain ⟨k0, k1, k2, k3⟩ := (HK1.out.later hbq).cells
        have HBQ := Lib.hid hbq
        have HRI := Lib.hid hri
        have hfl : ((Z.take k).flatMap (Rw.wbs G)).length ≤ 600 := by
          rw [Rw.flat_len _ (fun s _ => Rw.wbs_len G s), List.length_take]
          have h9 : min k Z.length * Rw.wide G ≤ 300 * 2 := Nat.mul_le_mul (by have := HNZ.out; omega) (by have := Rw.wide_at G; omega)
          omega
        by_cases hkm : k < nz
        · obtain ⟨x, hx⟩ : ∃ x, Z.getD k 0 = x := ⟨_, rfl⟩
          obtain ⟨x0, x1⟩ := HZIN.out x (by rw [← hx]; exact getD_mem (by rw [HNZ.out]; exact hkm))
          have HX : Hid ((Z.take (k + 1)).flatMap (Rw.wbs G) = (Z.take k).flatMap (Rw.wbs G) ++ [x / 256, x % 256]) := Lib.hid (by rw [Rw.take_snoc1 Z k (by rw [HNZ.out]; exact hkm), List.flatMap_append, hx]; simp [HWB.out])
          obtain ⟨B, hBv⟩ : ∃ B, (Z.take k).flatMap (Rw.wbs G) = B := ⟨_, rfl⟩
          rw [hBv] at HX hr2 hfl
          obtain ⟨nB, hnB⟩ : ∃ nB, B.length = nB := ⟨_, rfl⟩
          have HNB := Lib.hid hnB
          rw [hnB] at hr2 hfl
          have HR2 := Lib.hid hr2
          have q1 : nB + 1 ≤ maxLen := by unfold maxLen; omega
          have q2 : (nB + 1) * 1 ≤ 140737488355328 := by omega
          have q1' : nB + 1 + 1 ≤ maxLen := by unfold maxLen; omega
          have q2' : (nB + 1 + 1) * 1 ≤ 140737488355328 := by omega
          have q3 := hbq.size
          obtain ⟨bg, hbg⟩ : ∃ bg, sa = some ⟨bg, 0, none⟩ := by
            rcases hri.2 with ⟨hv, he⟩ | ⟨g9, cap9, cur9, hv, _⟩
            · omega
            · cases hv; exact ⟨g9, rfl⟩
          subst hbg
          have hcell := rb_cell hri hkm HNZ.out
          rw [hx] at hcell
          clear hBv hnB hr2 hri hbq hx
          have b1 : 0 ≤ x / 256 := by omega
          have b2 : x / 256 ≤ 255 := by omega
          have b3 : 0 ≤ x % 256 := by omega
          have b4 : x % 256 ≤ 255 := by omega
          go_upto_region 16 with (at_builtin; refine Rw.wpList_app1 rfl _ _ 22 rfl w1.heap.size 5 b0 (.int .u8 0) 1 Tryz.underlying22 hby hyz0 rfl hyz1 hyz2 v2 nB (byts B) rfl (HR2.out.alloc _) _ (.int .u8 (x / 256)) rfl rfl (by rw [World.cell?_alloc_at _ _ _ _ rfl]; rfl) q1 q2 (Nat.le_trans q3 (by simp)) ?_; intro v12 w12 hown hgrow hat; have HO12 := Lib.hid hown; have HB12 := Lib.hid ((HBQ.out.alloc q3 _).grown hgrow (Nat.le_trans q3 (by simp)) (fun j ej => (HR2.out.lt j ej).1)); have HI12 := Lib.hid ((HRI.out.alloc _).kept hgrow (apart_rows hne8 HRI.out HR2.out)); clear hown hgrow hat)
          have HO12' : Hid (w12.ownsRow w1.heap.size 5 1 v12 (nB + 1) (byts (B ++ [x / 256]))) := by show World.ownsRow _ _ _ _ _ _ _; have h9 := HO12.out; unfold byts at h9 ⊢; rw [List.map_append]; exact h9
          have q4 := HB12.out.size
          go_wp2_with (at_builtin; refine Rw.wpList_app1 rfl _ _ 22 rfl w1.heap.size 5 b0 (.int .u8 0) 1 Tryz.underlying22 hby hyz0 rfl hyz1 hyz2 v12 (nB + 1) (byts (B ++ [x / 256])) rfl (HO12'.out.alloc _) _ (.int .u8 (x % 256)) rfl rfl (by rw [World.cell?_alloc_at _ _ _ _ rfl]; rfl) q1' q2' (Nat.le_trans q4 (by simp)) ?_; intro v13 w13 hown hgrow hat; have HO13 := Lib.hid hown; have HB13 := Lib.hid ((HB12.out.alloc q4 _).grown hgrow (Nat.le_trans q4 (by simp)) (fun j ej => (HO12'.out.lt j ej).1)); have HI13 := Lib.hid ((HI12.out.alloc _).kept hgrow (apart_rows hne8 HI12.out HO12'.out)); clear hown hgrow hat)
          go_roundw
          case rel => exact ⟨k + 1, v13, hkm, by go_num, rfl, by rw [HX.out, List.length_append, HNB.out]; have h9 := HO13.out; unfold byts at h9 ⊢; rw [show B ++ [x / 256, x % 256] = (B ++ [x / 256]) ++ [x % 256] by simp, List.map_append]; exact h9, HI13.out, HB13.out⟩
          case measure => simp [intOf]; omega
        · obtain rfl : k = nz := by omega
          rw [List.take_of_length_le (by rw [HNZ.out]; exact Nat.le_refl _), ← HRE.out, HRN.out] at hr2
          clear hbq hri
          go_wp2_with fail
          go_returns
          exact rbr_row hr2 HRN.out (HB1.out.trans (HBQ.out.mono HB1.out.size))
set_option maxRecDepth 100000 in
set_option maxHeartbeats 8000000 in
theorem rwRowB_4 (a : Option Addr) (n cap : Nat) (l : List Int) (G : Hd.H) (hm : Rw.May G) (h4 : G.kd = 4) (hl : Pl.Fits G l) (hn1 : 1 ≤ n) (hn : n ≤ 100) (w : World) (hs : SlK .u64 w a n l) :
    Calls Tryz.prog 157 #[.slice a n cap, agH G] w (RbR w (Rw.rowB G l) (Rw.rowB G l).length) := by
  have HS := Lib.hid hs
  have HFT := Lib.hid hl
  have HL := Lib.hid hs.1
  have HM := Lib.hid hm
  have hmm := hm.m
  obtain ⟨R, hR⟩ : ∃ R, Rw.rowB G l = R := ⟨_, rfl⟩
  rw [hR]
  have HRR := Lib.hid hR
  obtain ⟨rn, hrn⟩ : ∃ rn, R.length = rn := ⟨_, rfl⟩
  rw [hrn]
  have HRN := Lib.hid hrn
  have hsm := Rw.all_smp hm hl
  have HSM := Lib.hid hsm
  have H4 := Lib.hid h4
  have hk4 : (G.kd == 4) = true := by simpa using h4
  obtain ⟨i0, hi8, hz0, hz1, hz2⟩ : ∃ i, Tryz.prog.info? 3 = some i ∧ i.zero = some (.int .i64 0) ∧ i.size = 1 ∧ i.bytes = 8 := (by have h := Tryz.info_in8; cases hh : Tryz.prog.info? 3 with | none => rw [hh] at h; cases h | some i => rw [hh] at h; simp at h; exact ⟨i, rfl, h.1, h.2.1, h.2.2⟩)
  obtain ⟨b0, hby, hyz0, hyz1, hyz2⟩ : ∃ i, Tryz.prog.info? 5 = some i ∧ i.zero = some (.int .u8 0) ∧ i.size = 1 ∧ i.bytes = 1 := (by have h := Bt.Tryz.info_byt; cases hh : Tryz.prog.info? 5 with | none => rw [hh] at h; cases h | some i => rw [hh] at h; simp at h; exact ⟨i, rfl, h.1, h.2.1, h.2.2⟩)
  have hne8 : 3 ≠ 5 := by decide
  have hlen0 : ¬ (n : Int) < 0 := by omega
  clear hs hl hR hrn hsm h4 hm
  unfold agH
  go_enter Tryz.func157, Tryz.ntmps157
  go_upto_region 1 with fail
  generalize hW : w.alloc (.cells #[.int .i64 G.kd, .int .i64 G.w, .int .i64 G.h, .int .i64 G.m] 62) = w1
  have HK1 : Hid (Hb w1 w.heap.size 62 G) := by show Hb _ _ _ _; rw [← hW]; exact Hb.new w 62 G
  have HB1 : Hid (Below w.heap.size w w1) := by show Below _ _ _; rw [← hW]; exact box1' _ _
  clear hW
  go_wp2_with fail
  go_loopw [5, 15] (fun u5 u15 wr => ∃ (i : Nat) (v : Value), i ≤ n ∧ u15 = .int .i64 i ∧ v = u5 ∧ wr.ownsRow w1.heap.size 3 1 v ((l.take i).flatMap Pq.Px.smp).length (ints ((l.take i).flatMap Pq.Px.smp)) ∧ Below w1.heap.size w1 wr) (fun _ u15 _ => n - (intOf u15).toNat)
  case atStart => exact ⟨0, _, Nat.zero_le _, rfl, rfl, World.ownsRow_nil _ _ _ _, .refl _ _⟩
  case round =>
    obtain ⟨i, v, hin, rfl, rfl, hrow, hB⟩ := hrel
    have HB := Lib.hid hB
    have hZl := smps_len (G := G) (l := l.take i) fun q hq => HFT.out q (List.mem_of_mem_take hq)
    rw [List.length_take] at hZl
    by_cases hlt : i < n
    · have hil : i < l.length := by rw [HL.out]; exact hlt
      obtain ⟨p, hp⟩ : ∃ p, l.getD i 0 = p := ⟨_, rfl⟩
      have hgp := HFT.out _ (getD_mem hil)
      rw [hp] at hgp
      have HSC : Hid ((l.take (i + 1)).flatMap Pq.Px.smp = (l.take i).flatMap Pq.Px.smp ++ Pq.Px.smp p) := Lib.hid (by rw [Rw.take_snoc1 l i hil, List.flatMap_append, hp]; simp)
      have HUP := Lib.hid (fun W => Pq.unpack_any p (Pq.goodU hgp) W)
      have hm3 := (Pl.smp_in (Pq.goodU hgp)).1
      obtain ⟨zs, hzs⟩ : ∃ zs, Pq.Px.smp p = zs := ⟨_, rfl⟩
      rw [hzs] at HSC HUP hm3
      obtain ⟨m, hmz⟩ : ∃ m, zs.length = m := ⟨_, rfl⟩
      rw [hmz] at hm3
      have HML := Lib.hid hmz
      obtain ⟨Z, hZ⟩ : ∃ Z, (l.take i).flatMap Pq.Px.smp = Z := ⟨_, rfl⟩
      rw [hZ] at hrow HSC hZl
      obtain ⟨nz, hnz⟩ : ∃ nz, Z.length = nz := ⟨_, rfl⟩
      rw [hnz] at hrow hZl
      have HNZ := Lib.hid hnz
      have HROW := Lib.hid hrow
      obtain ⟨blk, off, ha, c0⟩ : ∃ blk off, a = some ⟨blk, off, none⟩ ∧ wr.cell? ⟨blk, off + i, none⟩ = some (.int .u64 p) := by
        rcases HS.out.2 with h | ⟨blk, off, rfl, hc⟩
        · omega
        · exact ⟨blk, off, rfl, cell_later (HB1.out.trans (hB.mono HB1.out.size)) (by rw [hc i hlt, hp])⟩
      subst ha
      have q1 : nz + m ≤ maxLen := by unfold maxLen; omega
      have q2 : (nz + m) * 8 ≤ 140737488355328 := by omega
      clear hil hp hgp hzs hmz hZ hnz hrow hB
      go_wp2_with (first
        | (go_at_call 185; refine (HUP.out _).mono ?_; rintro e w2 ⟨ad, cc, rfl, hown, hb2⟩; have HSL := Lib.hid (own_slk hown HML.out); rw [HML.out]; have HB2 := Lib.hid (HB.out.trans (hb2.mono HB.out.size)); have HRW2 := Lib.hid (below_row HROW.out hb2); clear hown hb2)
        | (at_builtin; refine wpList_app rfl _ _ 25 rfl w1.heap.size 3 i0 .i64 8 Tryz.underlying25 hi8 hz0 hz1 hz2 v nz (ints Z) rfl HRW2.out ad m cc zs rfl HSL.out q1 q2 HB2.out.size ?_; intro v3 w3 hown hgrow hat; have HO3 := Lib.hid hown; have HB3 := Lib.hid (HB2.out.grown hgrow HB2.out.size (fun j ej => (HRW2.out.lt j ej).1)); clear hown hgrow hat))
      go_roundw
      case rel => exact ⟨i + 1, v3, hlt, by go_num, rfl, by rw [HSC.out, List.length_append, HNZ.out, HML.out]; have h9 := HO3.out; unfold ints at h9 ⊢; rw [List.map_append]; exact h9, HB3.out⟩
      case measure => simp [intOf]; omega
    · obtain rfl : i = n := by omega
      rw [List.take_of_length_le (by rw [HL.out]; exact Nat.le_refl _)] at hrow hZl
      have HBt := Lib.hid (HB1.out.trans (hB.mono HB1.out.size))
      obtain ⟨Z, hZ⟩ : ∃ Z, l.flatMap Pq.Px.smp = Z := ⟨_, rfl⟩
      have HZ := Lib.hid hZ
      rw [hZ] at hrow hZl
      obtain ⟨nz, hnz⟩ : ∃ nz, Z.length = nz := ⟨_, rfl⟩
      rw [hnz] at hrow hZl
      have HNZ := Lib.hid hnz
      have hnz9 : nz ≤ 300 := by omega
      have HROW := Lib.hid hrow
      have HZIN : Hid (∀ x ∈ Z, 0 ≤ x ∧ x ≤ G.m) := Lib.hid (by rw [← hZ]; exact HSM.out)
      obtain ⟨sa, sc, hv, hsl⟩ := sl_of_row (z := 0) rfl hrow hnz
      subst hv
      have hcap := byt_cap hrow
      have HSL := Lib.hid hsl
      obtain ⟨k0, k1, k2, k3⟩ := (HK1.out.later hB).cells
      clear hZ hnz hrow hsl hB hZl
      have hb := bit_smps HM.out H4.out HFT.out
      have hZe : Z = l.map Rw.s0 := by rw [← HZ.out, hb.1]
      have hon : Bt.Ones Z := by rw [hZe]; exact hb.2
      have hzl : nz = i := by rw [← HNZ.out, hZe, List.length_map, HL.out]
      have hok : Bt.packOk Z = true := by
        unfold Bt.packOk
        rw [Bool.and_eq_true, Bool.and_eq_true]
        exact ⟨⟨decide_eq_true (by rw [HNZ.out]; omega), decide_eq_true (by rw [HNZ.out]; omega)⟩, decide_eq_true hon⟩
      have hRe : Bt.packV Z = R := by
        rw [← HRR.out]; unfold Rw.rowB Bt.packV
        rw [if_pos hok, if_pos H4.out, hZe]
      have hpe : Bt.packE Z = 0 := by unfold Bt.packE; rw [if_pos hok]
      have hPK := fun W hW => Bt.pack_any sa nz sc Z W hcap.1 hcap.2 (HSL.out.below hW)
      unfold Bt.PackR at hPK
      rw [hRe, hpe, HRN.out] at hPK
      have HPK := Lib.hid hPK
      clear hPK hpe hRe hok hzl hon hZe hb
      go_wp2_with (go_at_call 186; refine (HPK.out _ (.refl _ _)).mono ?_; rintro e w4 ⟨ad4, c4, rfl, ho4, hb4⟩; have HO4 := Lib.hid ho4; have HB4 := Lib.hid (HBt.out.trans (hb4.mono HBt.out.size)); clear ho4 hb4)
      go_returns
      exact rbr_row HO4.out HRN.out HB4.out
theorem rwRowB_any (a : Option Addr) (n cap : Nat) (l : List Int) (G : Hd.H) (hm : Rw.May G) (hl : Pl.Fits G l) (hn1 : 1 ≤ n) (hn : n ≤ 100) (w : World) (hs : SlK .u64 w a n l) :
    Calls Tryz.prog 157 #[.slice a n cap, agH G] w (RbR w (Rw.rowB G l) (Rw.rowB G l).length) := by
  by_cases h4 : G.kd = 4
  · exact rwRowB_4 a n cap l G hm h4 hl hn1 hn w hs
  · by_cases hw : 255 < G.m
    · exact rwRowB_2 a n cap l G hm h4 hw hl hn1 hn w hs
    · exact rwRowB_1 a n cap l G hm h4 hw hl hn1 hn w hs
end Go.Proofs.YtkjkepnailamnaaGreat
namespace Go.Proofs.YtkjkepnailamnaaGreat
open Go.RowKit Go.Shelf
attribute [local go_sem] Oper.semAt_some
set_option linter.unusedVariables false
theorem wr_src {w : World} {a : Option Addr} {n : Nat} {zs : List Int} (h : SlK .u8 w a n zs) (hn : 0 < n) : ∃ ad, a = some ad ∧ ∀ j v, (byts zs)[j]? = some v → w.cell? (ad.add j) = some v := by
  obtain ⟨b, off, rfl, hc⟩ := Rw.slk_pos h hn
  refine ⟨_, rfl, fun j v hv => ?_⟩
  unfold byts at hv
  rw [List.getElem?_map] at hv
  rcases Nat.lt_or_ge j zs.length with hj | hj
  · rw [List.getElem?_eq_getElem hj] at hv
    rw [addrK_add, hc j (by rw [← h.1]; exact hj), ← hv, List.getD_eq_getElem?_getD, List.getElem?_eq_getElem hj]; rfl
  · rw [List.getElem?_eq_none hj] at hv; cases hv
theorem byt_one (zs : List Int) : ∀ u ∈ byts zs, u.oneCell' = true := by
  intro u hu
  obtain ⟨y, _, rfl⟩ := List.mem_map.1 hu
  rfl
theorem wr_part {w : World} {bk of n : Nat} {l : List Int} {gw gh y : Nat} (h : SlK .u64 w (some ⟨bk, of, none⟩) n l) (hn : n = gw * gh) (hy : y < gh) : SlK .u64 w (some ⟨bk, of + gw * y, none⟩) gw ((l.drop (y * gw)).take gw) := by
  have h1 : (y + 1) * gw ≤ gh * gw := Nat.mul_le_mul_right gw hy
  rw [Nat.add_mul, Nat.one_mul, Nat.mul_comm gh gw] at h1
  refine ⟨by rw [List.length_take, List.length_drop, h.1]; omega, ?_⟩
  rcases h.2 with h0 | ⟨g', o', e, hc⟩
  · left; omega
  · cases e
    refine .inr ⟨bk, of + gw * y, rfl, fun i hi => ?_⟩
    rw [Nat.add_assoc, Nat.mul_comm gw y, hc (y * gw + i) (by omega), List.getD_eq_getElem?_getD, List.getD_eq_getElem?_getD, List.getElem?_take_of_lt hi, List.getElem?_drop]
end Go.Proofs.YtkjkepnailamnaaGreat
