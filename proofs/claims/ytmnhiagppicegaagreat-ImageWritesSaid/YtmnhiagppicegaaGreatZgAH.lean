/- A row's bytes, by the code, over any memory. Condition: the pixels fit their head, and are not too many. -/
import Derived.Test.YtmnhiagppicegaaGreatZRwJ
import Derived.Test.YtmnhiagppicegaaGreatZgAD
import Derived.Test.YtmnhiagppicegaaGreatZgAE
import Derived.Test.YtmnhiagppicegaaGreatZPlWi
import Derived.Laws.MakeOwn
import Derived.Deep.RegionHeld3
import Derived.Deep.AppendLies
import Derived.Test.YtmnhiagppicegaaGreatZgAB
import Derived.Deep.DeepCutAuto
import Derived.Test.YtmnhiagppicegaaGreatZImG
import Derived.Test.YtmnhiagppicegaaGreatZgAG
namespace Go.Proofs.YtmnhiagppicegaaGreat
open Go.RowKit
set_option linter.unusedVariables false
/-- bytes, told -/
def RbR (w : World) (l : List Int) (n : Nat) (e : Ending) (w' : World) : Prop :=
  ∃ a c, e = .returned (.slice a n c) ∧ SlK .u8 w' a n l ∧ Below w.heap.size w w'
theorem rbr_row {w w' : World} {base k : Nat} {v : Value} {l : List Int} (hr : w'.ownsRow base 5 1 v k (byts l)) (hk : l.length = k) (hB : Below w.heap.size w w') : RbR w l k (.returned v) w' := by
  obtain ⟨a, c, rfl, hs⟩ := byt_row hr hk
  exact ⟨a, c, rfl, hs, hB⟩
theorem own_slk {base : Nat} {w : World} {ad : Option Addr} {zs : List Int} (h : Pq.Own base w ad zs) {m : Nat} (hm : zs.length = m) : SlK .i64 w ad m zs := by
  have h9 := h.sl
  rw [hm] at h9
  exact h9
theorem rb_cell {w : World} {base bg n c k : Nat} {Z : List Int} (h : w.ownsRow base 3 1 (.slice (some ⟨bg, 0, none⟩) n c) n (ints Z)) (hk : k < n) (hn : Z.length = n) : w.cell? ⟨bg, k, none⟩ = some (.int .i64 (Z.getD k 0)) := by
  have h9 := h.cells (g := bg) rfl k (.int .i64 (Z.getD k 0)) (by simp [ints, List.getD_eq_getElem?_getD, List.getElem?_eq_getElem (show k < Z.length by omega)])
  simpa [addrK_add] using h9
theorem bit_smps {G : Hd.H} (hm : Rw.May G) (h4 : G.kd = 4) {l : List Int} (hl : Pl.Fits G l) : l.flatMap Pq.Px.smp = l.map Rw.s0 ∧ Bt.Ones (l.map Rw.s0) := by
  refine ⟨?_, fun x hx => by obtain ⟨p, hp, rfl⟩ := List.mem_map.1 hx; exact (Rw.bits_one hm hl h4 p hp).1⟩
  induction l with
  | nil => rfl
  | cons p l ih =>
    have h1 := (Rw.good_smp hm (hl p (List.mem_cons_self ..))).1
    rw [(hm.one h4).2.2] at h1
    have h2 : Pq.Px.smp p = [Rw.s0 p] := by
      unfold Rw.s0
      match hh : Pq.Px.smp p, h1 with
      | [x], _ => rfl
    rw [List.flatMap_cons, ih fun q hq => hl q (List.mem_cons_of_mem _ hq), h2]; rfl
set_option maxRecDepth 100000 in
set_option maxHeartbeats 8000000 in
theorem rwRowB_1 (a : Option Addr) (n cap : Nat) (l : List Int) (G : Hd.H) (hm : Rw.May G) (h4 : G.kd ≠ 4) (hw : ¬ 255 < G.m) (hl : Pl.Fits G l) (hn1 : 1 ≤ n) (hn : n ≤ 100) (w : World) (hs : SlK .u64 w a n l) :
    Calls Tryz.prog 139 #[.slice a n cap, agH G] w (RbR w (Rw.rowB G l) (Rw.rowB G l).length) := by
  have HS := Lib.hid hs
  have HFT := Lib.hid hl
  have HL := Lib.hid hs.1
  have HM := Lib.hid hm
  have hmm := hm.m
  obtain ⟨R, hR⟩ : ∃ R, Rw.rowB G l = R := ⟨_, rfl⟩
  rw [hR]
  have HRR := Lib.hid hR
  obtain ⟨rn, hrn⟩ : ∃ rn, R.length = rn := ⟨_, rfl⟩
  rw [hrn]
  have HRN := Lib.hid hrn
  have hsm := Rw.all_smp hm hl
  have HSM := Lib.hid hsm
  have H4 := Lib.hid h4
  have hk4 : (G.kd == 4) = false := by simpa using h4
  obtain ⟨i0, hi8, hz0, hz1, hz2⟩ : ∃ i, Tryz.prog.info? 3 = some i ∧ i.zero = some (.int .i64 0) ∧ i.size = 1 ∧ i.bytes = 8 := (by have h := Tryz.info_in8; cases hh : Tryz.prog.info? 3 with | none => rw [hh] at h; cases h | some i => rw [hh] at h; simp at h; exact ⟨i, rfl, h.1, h.2.1, h.2.2⟩)
  obtain ⟨b0, hby, hyz0, hyz1, hyz2⟩ : ∃ i, Tryz.prog.info? 5 = some i ∧ i.zero = some (.int .u8 0) ∧ i.size = 1 ∧ i.bytes = 1 := (by have h := Bt.Tryz.info_byt; cases hh : Tryz.prog.info? 5 with | none => rw [hh] at h; cases h | some i => rw [hh] at h; simp at h; exact ⟨i, rfl, h.1, h.2.1, h.2.2⟩)
  have hne8 : 3 ≠ 5 := by decide
  have hlen0 : ¬ (n : Int) < 0 := by omega
  have hwd : Rw.wide G = 1 := by have := Rw.wide_at G; omega
  have HWB : Hid (∀ x, Rw.wbs G x = [x % 256]) := Lib.hid (fun x => by unfold Rw.wbs; rw [hwd]; rfl)
  clear hs hl hR hrn hsm h4 hm hwd
  unfold agH
  go_enter Tryz.func139, Tryz.ntmps139
  go_upto_region 1 with fail
  generalize hW : w.alloc (.cells #[.int .i64 G.kd, .int .i64 G.w, .int .i64 G.h, .int .i64 G.m] 49) = w1
  have HK1 : Hid (Hb w1 w.heap.size 49 G) := by show Hb _ _ _ _; rw [← hW]; exact Hb.new w 49 G
  have HB1 : Hid (Below w.heap.size w w1) := by show Below _ _ _; rw [← hW]; exact box1' _ _
  clear hW
  go_wp2_with fail
  go_loopw [5, 15] (fun u5 u15 wr => ∃ (i : Nat) (v : Value), i ≤ n ∧ u15 = .int .i64 i ∧ v = u5 ∧ wr.ownsRow w1.heap.size 3 1 v ((l.take i).flatMap Pq.Px.smp).length (ints ((l.take i).flatMap Pq.Px.smp)) ∧ Below w1.heap.size w1 wr) (fun _ u15 _ => n - (intOf u15).toNat)
  case atStart => exact ⟨0, _, Nat.zero_le _, rfl, rfl, World.ownsRow_nil _ _ _ _, .refl _ _⟩
  case round =>
    obtain ⟨i, v, hin, rfl, rfl, hrow, hB⟩ := hrel
    have HB := Lib.hid hB
    have hZl := smps_len (G := G) (l := l.take i) fun q hq => HFT.out q (List.mem_of_mem_take hq)
    rw [List.length_take] at hZl
    by_cases hlt : i < n
    · have hil : i < l.length := by rw [HL.out]; exact hlt
      obtain ⟨p, hp⟩ : ∃ p, l.getD i 0 = p := ⟨_, rfl⟩
      have hgp := HFT.out _ (getD_mem hil)
      rw [hp] at hgp
      have HSC : Hid ((l.take (i + 1)).flatMap Pq.Px.smp = (l.take i).flatMap Pq.Px.smp ++ Pq.Px.smp p) := Lib.hid (by rw [Rw.take_snoc1 l i hil, List.flatMap_append, hp]; simp)
      have HUP := Lib.hid (fun W => Pq.unpack_any p (Pq.goodU hgp) W)
      have hm3 := (Pl.smp_in (Pq.goodU hgp)).1
      obtain ⟨zs, hzs⟩ : ∃ zs, Pq.Px.smp p = zs := ⟨_, rfl⟩
      rw [hzs] at HSC HUP hm3
      obtain ⟨m, hmz⟩ : ∃ m, zs.length = m := ⟨_, rfl⟩
      rw [hmz] at hm3
      have HML := Lib.hid hmz
      obtain ⟨Z, hZ⟩ : ∃ Z, (l.take i).flatMap Pq.Px.smp = Z := ⟨_, rfl⟩
      rw [hZ] at hrow HSC hZl
      obtain ⟨nz, hnz⟩ : ∃ nz, Z.length = nz := ⟨_, rfl⟩
      rw [hnz] at hrow hZl
      have HNZ := Lib.hid hnz
      have HROW := Lib.hid hrow
      obtain ⟨blk, off, ha, c0⟩ : ∃ blk off, a = some ⟨blk, off, none⟩ ∧ wr.cell? ⟨blk, off + i, none⟩ = some (.int .u64 p) := by
        rcases HS.out.2 with h | ⟨blk, off, rfl, hc⟩
        · omega
        · exact ⟨blk, off, rfl, cell_later (HB1.out.trans (hB.mono HB1.out.size)) (by rw [hc i hlt, hp])⟩
      subst ha
      have q1 : nz + m ≤ maxLen := by unfold maxLen; omega
      have q2 : (nz + m) * 8 ≤ 140737488355328 := by omega
      clear hil hp hgp hzs hmz hZ hnz hrow hB
      go_wp2_with (first
        | (go_at_call 170; refine (HUP.out _).mono ?_; rintro e w2 ⟨ad, cc, rfl, hown, hb2⟩; have HSL := Lib.hid (own_slk hown HML.out); rw [HML.out]; have HB2 := Lib.hid (HB.out.trans (hb2.mono HB.out.size)); have HRW2 := Lib.hid (below_row HROW.out hb2); clear hown hb2)
        | (at_builtin; refine wpList_app rfl _ _ 22 rfl w1.heap.size 3 i0 .i64 8 Tryz.underlying22 hi8 hz0 hz1 hz2 v nz (ints Z) rfl HRW2.out ad m cc zs rfl HSL.out q1 q2 HB2.out.size ?_; intro v3 w3 hown hgrow hat; have HO3 := Lib.hid hown; have HB3 := Lib.hid (HB2.out.grown hgrow HB2.out.size (fun j ej => (HRW2.out.lt j ej).1)); clear hown hgrow hat))
      go_roundw
      case rel => exact ⟨i + 1, v3, hlt, by go_num, rfl, by rw [HSC.out, List.length_append, HNZ.out, HML.out]; have h9 := HO3.out; unfold ints at h9 ⊢; rw [List.map_append]; exact h9, HB3.out⟩
      case measure => simp [intOf]; omega
    · obtain rfl : i = n := by omega
      rw [List.take_of_length_le (by rw [HL.out]; exact Nat.le_refl _)] at hrow hZl
      have HBt := Lib.hid (HB1.out.trans (hB.mono HB1.out.size))
      obtain ⟨Z, hZ⟩ : ∃ Z, l.flatMap Pq.Px.smp = Z := ⟨_, rfl⟩
      have HZ := Lib.hid hZ
      rw [hZ] at hrow hZl
      obtain ⟨nz, hnz⟩ : ∃ nz, Z.length = nz := ⟨_, rfl⟩
      rw [hnz] at hrow hZl
      have HNZ := Lib.hid hnz
      have hnz9 : nz ≤ 300 := by omega
      have HROW := Lib.hid hrow
      have HZIN : Hid (∀ x ∈ Z, 0 ≤ x ∧ x ≤ G.m) := Lib.hid (by rw [← hZ]; exact HSM.out)
      obtain ⟨sa, sc, hv, hsl⟩ := sl_of_row (z := 0) rfl hrow hnz
      subst hv
      have hcap := byt_cap hrow
      have HSL := Lib.hid hsl
      obtain ⟨k0, k1, k2, k3⟩ := (HK1.out.later hB).cells
      clear hZ hnz hrow hsl hB hZl
      have hRe : R = Z.flatMap (Rw.wbs G) := by
        rw [← HRR.out, ← HZ.out, List.flatMap_assoc]; unfold Rw.rowB; rw [if_neg H4.out]; rfl
      have HRE := Lib.hid hRe
      clear hRe
      go_wp2_with fail
      clear k0 k1 k2 k3
      go_loopw [10, 35] (fun u10 u35 wq => ∃ (k : Nat) (v2 : Value), k ≤ nz ∧ u35 = .int .i64 k ∧ v2 = u10 ∧ wq.ownsRow w1.heap.size 5 1 v2 ((Z.take k).flatMap (Rw.wbs G)).length (byts ((Z.take k).flatMap (Rw.wbs G))) ∧ wq.ownsRow w1.heap.size 3 1 (.slice sa nz sc) nz (ints Z) ∧ Below w1.heap.size w1 wq) (fun _ u35 _ => nz - (intOf u35).toNat)
      case atStart => exact ⟨0, _, Nat.zero_le _, rfl, rfl, World.ownsRow_nil _ _ _ _, HROW.out, HB.out⟩
      case round =>
        obtain ⟨k, v2, hk, rfl, rfl, hr2, hri, hbq⟩ := hrel
        obtain ⟨k0, k1, k2, k3⟩ := (HK1.out.later hbq).cells
        have HBQ := Lib.hid hbq
        have HRI := Lib.hid hri
        have hfl : ((Z.take k).flatMap (Rw.wbs G)).length ≤ 600 := by
          rw [Rw.flat_len _ (fun s _ => Rw.wbs_len G s), List.length_take]
          have h9 : min k Z.length * Rw.wide G ≤ 300 * 2 := Nat.mul_le_mul (by have := HNZ.out; omega) (by have := Rw.wide_at G; omega)
          omega
        by_cases hkm : k < nz
        · obtain ⟨x, hx⟩ : ∃ x, Z.getD k 0 = x := ⟨_, rfl⟩
          obtain ⟨x0, x1⟩ := HZIN.out x (by rw [← hx]; exact getD_mem (by rw [HNZ.out]; exact hkm))
          have HX : Hid ((Z.take (k + 1)).flatMap (Rw.wbs G) = (Z.take k).flatMap (Rw.wbs G) ++ [x % 256]) := Lib.hid (by rw [Rw.take_snoc1 Z k (by rw [HNZ.out]; exact hkm), List.flatMap_append, hx]; simp [HWB.out])
          obtain ⟨B, hBv⟩ : ∃ B, (Z.take k).flatMap (Rw.wbs G) = B := ⟨_, rfl⟩
          rw [hBv] at HX hr2 hfl
          obtain ⟨nB, hnB⟩ : ∃ nB, B.length = nB := ⟨_, rfl⟩
          have HNB := Lib.hid hnB
          rw [hnB] at hr2 hfl
          have HR2 := Lib.hid hr2
          have q1 : nB + 1 ≤ maxLen := by unfold maxLen; omega
          have q2 : (nB + 1) * 1 ≤ 140737488355328 := by omega
          have q1' : nB + 1 + 1 ≤ maxLen := by unfold maxLen; omega
          have q2' : (nB + 1 + 1) * 1 ≤ 140737488355328 := by omega
          have q3 := hbq.size
          obtain ⟨bg, hbg⟩ : ∃ bg, sa = some ⟨bg, 0, none⟩ := by
            rcases hri.2 with ⟨hv, he⟩ | ⟨g9, cap9, cur9, hv, _⟩
            · omega
            · cases hv; exact ⟨g9, rfl⟩
          subst hbg
          have hcell := rb_cell hri hkm HNZ.out
          rw [hx] at hcell
          clear hBv hnB hr2 hri hbq hx
          have b3 : 0 ≤ x % 256 := by omega
          have b4 : x % 256 ≤ 255 := by omega
          have hxm : x % 256 = x := by omega
          go_wp2_with (at_builtin; refine Rw.wpList_app1 rfl _ _ 43 rfl w1.heap.size 5 b0 (.int .u8 0) 1 Tryz.underlying43 hby hyz0 rfl hyz1 hyz2 v2 nB (byts B) rfl (HR2.out.alloc _) _ (.int .u8 (x)) rfl rfl (by rw [World.cell?_alloc_at _ _ _ _ rfl]; rfl) q1 q2 (Nat.le_trans q3 (by simp)) ?_; intro v12 w12 hown hgrow hat; have HO12 := Lib.hid hown; have HB12 := Lib.hid ((HBQ.out.alloc q3 _).grown hgrow (Nat.le_trans q3 (by simp)) (fun j ej => (HR2.out.lt j ej).1)); have HI12 := Lib.hid ((HRI.out.alloc _).kept hgrow (apart_rows hne8 HRI.out HR2.out)); clear hown hgrow hat)
          go_roundw
          case rel => exact ⟨k + 1, v12, hkm, by go_num, rfl, by rw [HX.out, List.length_append, HNB.out, hxm]; have h9 := HO12.out; unfold byts at h9 ⊢; rw [List.map_append]; exact h9, HI12.out, HB12.out⟩
          case measure => simp [intOf]; omega
        · obtain rfl : k = nz := by omega
          rw [List.take_of_length_le (by rw [HNZ.out]; exact Nat.le_refl _), ← HRE.out, HRN.out] at hr2
          clear hbq hri
          go_wp2_with fail
          go_returns
          exact rbr_row hr2 HRN.out (HB1.out.trans (HBQ.out.mono HB1.out.size))
set_option maxRecDepth 100000 in
set_option maxHeartbeats 8000000 in
theorem rwRowB_2 (a : Option Addr) (n cap : Nat) (l : List Int) (G : Hd.H) (hm : Rw.May G) (h4 : G.kd ≠ 4) (hw : 255 < G.m) (hl : Pl.Fits G l) (hn1 : 1 ≤ n) (hn : n ≤ 100) (w : World) (hs : SlK .u64 w a n l) :
    Calls Tryz.prog 139 #[.slice a n cap, agH G] w (RbR w (Rw.rowB G l) (Rw.rowB G l).length) := by
  have HS := Lib.hid hs
  have HFT := Lib.hid hl
  have HL := Lib.hid hs.1
  have HM := Lib.hid hm
  have hmm := hm.m
  obtain ⟨R, hR⟩ : ∃ R, Rw.rowB G l = R := ⟨_, rfl⟩
  rw [hR]
  have HRR := Lib.hid hR
  obtain ⟨rn, hrn⟩ : ∃ rn, R.length = rn := ⟨_, rfl⟩
  rw [hrn]
  have HRN := Lib.hid hrn
  have hsm := Rw.all_smp hm hl
  have HSM := Lib.hid hsm
  have H4 := Lib.hid h4
  have hk4 : (G.kd == 4) = false := by simpa using h4
  obtain ⟨i0, hi8, hz0, hz1, hz2⟩ : ∃ i, Tryz.prog.info? 3 = some i ∧ i.zero = some (.int .i64 0) ∧ i.size = 1 ∧ i.bytes = 8 := (by have h := Tryz.info_in8; cases hh : Tryz.prog.info? 3 with | none => rw [hh] at h; cases h | some i => rw [hh] at h; simp at h; exact ⟨i, rfl, h.1, h.2.1, h.2.2⟩)
  obtain ⟨b0, hby, hyz0, hyz1, hyz2⟩ : ∃ i, Tryz.prog.info? 5 = some i ∧ i.zero = some (.int .u8 0) ∧ i.size = 1 ∧ i.bytes = 1 := (by have h := Bt.Tryz.info_byt; cases hh : Tryz.prog.info? 5 with | none => rw [hh] at h; cases h | some i => rw [hh] at h; simp at h; exact ⟨i, rfl, h.1, h.2.1, h.2.2⟩)
  have hne8 : 3 ≠ 5 := by decide
  have hlen0 : ¬ (n : Int) < 0 := by omega
  have hwd : Rw.wide G = 2 := by have := Rw.wide_at G; omega
  have HWB : Hid (∀ x, Rw.wbs G x = [x / 256, x % 256]) := Lib.hid (fun x => by unfold Rw.wbs; rw [hwd]; rfl)
  clear hs hl hR hrn hsm h4 hm hwd
  unfold agH
  go_enter Tryz.func139, Tryz.ntmps139
  go_upto_region 1 with fail
  generalize hW : w.alloc (.cells #[.int .i64 G.kd, .int .i64 G.w, .int .i64 G.h, .int .i64 G.m] 49) = w1
  have HK1 : Hid (Hb w1 w.heap.size 49 G) := by show Hb _ _ _ _; rw [← hW]; exact Hb.new w 49 G
  have HB1 : Hid (Below w.heap.size w w1) := by show Below _ _ _; rw [← hW]; exact box1' _ _
  clear hW
  go_wp2_with fail
  go_loopw [5, 15] (fun u5 u15 wr => ∃ (i : Nat) (v : Value), i ≤ n ∧ u15 = .int .i64 i ∧ v = u5 ∧ wr.ownsRow w1.heap.size 3 1 v ((l.take i).flatMap Pq.Px.smp).length (ints ((l.take i).flatMap Pq.Px.smp)) ∧ Below w1.heap.size w1 wr) (fun _ u15 _ => n - (intOf u15).toNat)
  case atStart => exact ⟨0, _, Nat.zero_le _, rfl, rfl, World.ownsRow_nil _ _ _ _, .refl _ _⟩
  case round =>
    obtain ⟨i, v, hin, rfl, rfl, hrow, hB⟩ := hrel
    have HB := Lib.hid hB
    have hZl := smps_len (G := G) (l := l.take i) fun q hq => HFT.out q (List.mem_of_mem_take hq)
    rw [List.length_take] at hZl
    by_cases hlt : i < n
    · have hil : i < l.length := by rw [HL.out]; exact hlt
      obtain ⟨p, hp⟩ : ∃ p, l.getD i 0 = p := ⟨_, rfl⟩
      have hgp := HFT.out _ (getD_mem hil)
      rw [hp] at hgp
      have HSC : Hid ((l.take (i + 1)).flatMap Pq.Px.smp = (l.take i).flatMap Pq.Px.smp ++ Pq.Px.smp p) := Lib.hid (by rw [Rw.take_snoc1 l i hil, List.flatMap_append, hp]; simp)
      have HUP := Lib.hid (fun W => Pq.unpack_any p (Pq.goodU hgp) W)
      have hm3 := (Pl.smp_in (Pq.goodU hgp)).1
      obtain ⟨zs, hzs⟩ : ∃ zs, Pq.Px.smp p = zs := ⟨_, rfl⟩
      rw [hzs] at HSC HUP hm3
      obtain ⟨m, hmz⟩ : ∃ m, zs.length = m := ⟨_, rfl⟩
      rw [hmz] at hm3
      have HML := Lib.hid hmz
      obtain ⟨Z, hZ⟩ : ∃ Z, (l.take i).flatMap Pq.Px.smp = Z := ⟨_, rfl⟩
      rw [hZ] at hrow HSC hZl
      obtain ⟨nz, hnz⟩ : ∃ nz, Z.length = nz := ⟨_, rfl⟩
      rw [hnz] at hrow hZl
      have HNZ := Lib.hid hnz
      have HROW := Lib.hid hrow
      obtain ⟨blk, off, ha, c0⟩ : ∃ blk off, a = some ⟨blk, off, none⟩ ∧ wr.cell? ⟨blk, off + i, none⟩ = some (.int .u64 p) := by
        rcases HS.out.2 with h | ⟨blk, off, rfl, hc⟩
        · omega
        · exact ⟨blk, off, rfl, cell_later (HB1.out.trans (hB.mono HB1.out.size)) (by rw [hc i hlt, hp])⟩
      subst ha
      have q1 : nz + m ≤ maxLen := by unfold maxLen; omega
      have q2 : (nz + m) * 8 ≤ 140737488355328 := by omega
      clear hil hp hgp hzs hmz hZ hnz hrow hB
      go_wp2_with (first
        | (go_at_call 170; refine (HUP.out _).mono ?_; rintro e w2 ⟨ad, cc, rfl, hown, hb2⟩; have HSL := Lib.hid (own_slk hown HML.out); rw [HML.out]; have HB2 := Lib.hid (HB.out.trans (hb2.mono HB.out.size)); have HRW2 := Lib.hid (below_row HROW.out hb2); clear hown hb2)
        | (at_builtin; refine wpList_app rfl _ _ 22 rfl w1.heap.size 3 i0 .i64 8 Tryz.underlying22 hi8 hz0 hz1 hz2 v nz (ints Z) rfl HRW2.out ad m cc zs rfl HSL.out q1 q2 HB2.out.size ?_; intro v3 w3 hown hgrow hat; have HO3 := Lib.hid hown; have HB3 := Lib.hid (HB2.out.grown hgrow HB2.out.size (fun j ej => (HRW2.out.lt j ej).1)); clear hown hgrow hat))
      go_roundw
      case rel => exact ⟨i + 1, v3, hlt, by go_num, rfl, by rw [HSC.out, List.length_append, HNZ.out, HML.out]; have h9 := HO3.out; unfold ints at h9 ⊢; rw [List.map_append]; exact h9, HB3.out⟩
      case measure => simp [intOf]; omega
    · obtain rfl : i = n := by omega
      rw [List.take_of_length_le (by rw [HL.out]; exact Nat.le_refl _)] at hrow hZl
      have HBt := Lib.hid (HB1.out.trans (hB.mono HB1.out.size))
      obtain ⟨Z, hZ⟩ : ∃ Z, l.flatMap Pq.Px.smp = Z := ⟨_, rfl⟩
      have HZ := Lib.hid hZ
      rw [hZ] at hrow hZl
      obtain ⟨nz, hnz⟩ : ∃ nz, Z.length = nz := ⟨_, rfl⟩
      rw [hnz] at hrow hZl
      have HNZ := Lib.hid hnz
      have hnz9 : nz ≤ 300 := by omega
      have HROW := Lib.hid hrow
      have HZIN : Hid (∀ x ∈ Z, 0 ≤ x ∧ x ≤ G.m) := Lib.hid (by rw [← hZ]; exact HSM.out)
      obtain ⟨sa, sc, hv, hsl⟩ := sl_of_row (z := 0) rfl hrow hnz
      subst hv
      have hcap := byt_cap hrow
      have HSL := Lib.hid hsl
      obtain ⟨k0, k1, k2, k3⟩ := (HK1.out.later hB).cells
      clear hZ hnz hrow hsl hB hZl
      have hRe : R = Z.flatMap (Rw.wbs G) := by
        rw [← HRR.out, ← HZ.out, List.flatMap_assoc]; unfold Rw.rowB; rw [if_neg H4.out]; rfl
      have HRE := Lib.hid hRe
      clear hRe
      go_wp2_with fail
      clear k0 k1 k2 k3
      go_loopw [10, 35] (fun u10 u35 wq => ∃ (k : Nat) (v2 : Value), k ≤ nz ∧ u35 = .int .i64 k ∧ v2 = u10 ∧ wq.ownsRow w1.heap.size 5 1 v2 ((Z.take k).flatMap (Rw.wbs G)).length (byts ((Z.take k).flatMap (Rw.wbs G))) ∧ wq.ownsRow w1.heap.size 3 1 (.slice sa nz sc) nz (ints Z) ∧ Below w1.heap.size w1 wq) (fun _ u35 _ => nz - (intOf u35).toNat)
      case atStart => exact ⟨0, _, Nat.zero_le _, rfl, rfl, World.ownsRow_nil _ _ _ _, HROW.out, HB.out⟩
      case round =>
        obtain ⟨k, v2, hk, rfl, rfl, hr2, hri, hbq⟩ := hrel
        obtain ⟨k0, k1, k2, k3⟩ := (HK1.out.later hbq).cells
        have HBQ := Lib.hid hbq
        have HRI := Lib.hid hri
        have hfl : ((Z.take k).flatMap (Rw.wbs G)).length ≤ 600 := by
          rw [Rw.flat_len _ (fun s _ => Rw.wbs_len G s), List.length_take]
          have h9 : min k Z.length * Rw.wide G ≤ 300 * 2 := Nat.mul_le_mul (by have := HNZ.out; omega) (by have := Rw.wide_at G; omega)
          omega
        by_cases hkm : k < nz
        · obtain ⟨x, hx⟩ : ∃ x, Z.getD k 0 = x := ⟨_, rfl⟩
          obtain ⟨x0, x1⟩ := HZIN.out x (by rw [← hx]; exact getD_mem (by rw [HNZ.out]; exact hkm))
          have HX : Hid ((Z.take (k + 1)).flatMap (Rw.wbs G) = (Z.take k).flatMap (Rw.wbs G) ++ [x / 256, x % 256]) := Lib.hid (by rw [Rw.take_snoc1 Z k (by rw [HNZ.out]; exact hkm), List.flatMap_append, hx]; simp [HWB.out])
          obtain ⟨B, hBv⟩ : ∃ B, (Z.take k).flatMap (Rw.wbs G) = B := ⟨_, rfl⟩
          rw [hBv] at HX hr2 hfl
          obtain ⟨nB, hnB⟩ : ∃ nB, B.length = nB := ⟨_, rfl⟩
          have HNB := Lib.hid hnB
          rw [hnB] at hr2 hfl
          have HR2 := Lib.hid hr2
          have q1 : nB + 1 ≤ maxLen := by unfold maxLen; omega
          have q2 : (nB + 1) * 1 ≤ 140737488355328 := by omega
          have q1' : nB + 1 + 1 ≤ maxLen := by unfold maxLen; omega
          have q2' : (nB + 1 + 1) * 1 ≤ 140737488355328 := by omega
          have q3 := hbq.size
          obtain ⟨bg, hbg⟩ : ∃ bg, sa = some ⟨bg, 0, none⟩ := by
            rcases hri.2 with ⟨hv, he⟩ | ⟨g9, cap9, cur9, hv, _⟩
            · omega
            · cases hv; exact ⟨g9, rfl⟩
          subst hbg
          have hcell := rb_cell hri hkm HNZ.out
          rw [hx] at hcell
          clear hBv hnB hr2 hri hbq hx
          have b1 : 0 ≤ x / 256 := by omega
          have b2 : x / 256 ≤ 255 := by omega
          have b3 : 0 ≤ x % 256 := by omega
          have b4 : x % 256 ≤ 255 := by omega
          go_upto_region 16 with (at_builtin; refine Rw.wpList_app1 rfl _ _ 43 rfl w1.heap.size 5 b0 (.int .u8 0) 1 Tryz.underlying43 hby hyz0 rfl hyz1 hyz2 v2 nB (byts B) rfl (HR2.out.alloc _) _ (.int .u8 (x / 256)) rfl rfl (by rw [World.cell?_alloc_at _ _ _ _ rfl]; rfl) q1 q2 (Nat.le_trans q3 (by simp)) ?_; intro v12 w12 hown hgrow hat; have HO12 := Lib.hid hown; have HB12 := Lib.hid ((HBQ.out.alloc q3 _).grown hgrow (Nat.le_trans q3 (by simp)) (fun j ej => (HR2.out.lt j ej).1)); have HI12 := Lib.hid ((HRI.out.alloc _).kept hgrow (apart_rows hne8 HRI.out HR2.out)); clear hown hgrow hat)
          have HO12' : Hid (w12.ownsRow w1.heap.size 5 1 v12 (nB + 1) (byts (B ++ [x / 256]))) := by show World.ownsRow _ _ _ _ _ _ _; have h9 := HO12.out; unfold byts at h9 ⊢; rw [List.map_append]; exact h9
          have q4 := HB12.out.size
          go_wp2_with (at_builtin; refine Rw.wpList_app1 rfl _ _ 43 rfl w1.heap.size 5 b0 (.int .u8 0) 1 Tryz.underlying43 hby hyz0 rfl hyz1 hyz2 v12 (nB + 1) (byts (B ++ [x / 256])) rfl (HO12'.out.alloc _) _ (.int .u8 (x % 256)) rfl rfl (by rw [World.cell?_alloc_at _ _ _ _ rfl]; rfl) q1' q2' (Nat.le_trans q4 (by simp)) ?_; intro v13 w13 hown hgrow hat; have HO13 := Lib.hid hown; have HB13 := Lib.hid ((HB12.out.alloc q4 _).grown hgrow (Nat.le_trans q4 (by simp)) (fun j ej => (HO12'.out.lt j ej).1)); have HI13 := Lib.hid ((HI12.out.alloc _).kept hgrow (apart_rows hne8 HI12.out HO12'.out)); clear hown hgrow hat)
          go_roundw
          case rel => exact ⟨k + 1, v13, hkm, by go_num, rfl, by rw [HX.out, List.length_append, HNB.out]; have h9 := HO13.out; unfold byts at h9 ⊢; rw [show B ++ [x / 256, x % 256] = (B ++ [x / 256]) ++ [x % 256] by simp, List.map_append]; exact h9, HI13.out, HB13.out⟩
          case measure => simp [intOf]; omega
        · obtain rfl : k = nz := by omega
          rw [List.take_of_length_le (by rw [HNZ.out]; exact Nat.le_refl _), ← HRE.out, HRN.out] at hr2
          clear hbq hri
          go_wp2_with fail
          go_returns
          exact rbr_row hr2 HRN.out (HB1.out.trans (HBQ.out.mono HB1.out.size))
set_option maxRecDepth 100000 in
set_option maxHeartbeats 8000000 in
theorem rwRowB_4 (a : Option Addr) (n cap : Nat) (l : List Int) (G : Hd.H) (hm : Rw.May G) (h4 : G.kd = 4) (hl : Pl.Fits G l) (hn1 : 1 ≤ n) (hn : n ≤ 100) (w : World) (hs : SlK .u64 w a n l) :
    Calls Tryz.prog 139 #[.slice a n cap, agH G] w (RbR w (Rw.rowB G l) (Rw.rowB G l).length) := by
  have HS := Lib.hid hs
  have HFT := Lib.hid hl
  have HL := Lib.hid hs.1
  have HM := Lib.hid hm
  have hmm := hm.m
  obtain ⟨R, hR⟩ : ∃ R, Rw.rowB G l = R := ⟨_, rfl⟩
  rw [hR]
  have HRR := Lib.hid hR
  obtain ⟨rn, hrn⟩ : ∃ rn, R.length = rn := ⟨_, rfl⟩
  rw [hrn]
  have HRN := Lib.hid hrn
  have hsm := Rw.all_smp hm hl
  have HSM := Lib.hid hsm
  have H4 := Lib.hid h4
  have hk4 : (G.kd == 4) = true := by simpa using h4
  obtain ⟨i0, hi8, hz0, hz1, hz2⟩ : ∃ i, Tryz.prog.info? 3 = some i ∧ i.zero = some (.int .i64 0) ∧ i.size = 1 ∧ i.bytes = 8 := (by have h := Tryz.info_in8; cases hh : Tryz.prog.info? 3 with | none => rw [hh] at h; cases h | some i => rw [hh] at h; simp at h; exact ⟨i, rfl, h.1, h.2.1, h.2.2⟩)
  obtain ⟨b0, hby, hyz0, hyz1, hyz2⟩ : ∃ i, Tryz.prog.info? 5 = some i ∧ i.zero = some (.int .u8 0) ∧ i.size = 1 ∧ i.bytes = 1 := (by have h := Bt.Tryz.info_byt; cases hh : Tryz.prog.info? 5 with | none => rw [hh] at h; cases h | some i => rw [hh] at h; simp at h; exact ⟨i, rfl, h.1, h.2.1, h.2.2⟩)
  have hne8 : 3 ≠ 5 := by decide
  have hlen0 : ¬ (n : Int) < 0 := by omega
  clear hs hl hR hrn hsm h4 hm
  unfold agH
  go_enter Tryz.func139, Tryz.ntmps139
  go_upto_region 1 with fail
  generalize hW : w.alloc (.cells #[.int .i64 G.kd, .int .i64 G.w, .int .i64 G.h, .int .i64 G.m] 49) = w1
  have HK1 : Hid (Hb w1 w.heap.size 49 G) := by show Hb _ _ _ _; rw [← hW]; exact Hb.new w 49 G
  have HB1 : Hid (Below w.heap.size w w1) := by show Below _ _ _; rw [← hW]; exact box1' _ _
  clear hW
  go_wp2_with fail
  go_loopw [5, 15] (fun u5 u15 wr => ∃ (i : Nat) (v : Value), i ≤ n ∧ u15 = .int .i64 i ∧ v = u5 ∧ wr.ownsRow w1.heap.size 3 1 v ((l.take i).flatMap Pq.Px.smp).length (ints ((l.take i).flatMap Pq.Px.smp)) ∧ Below w1.heap.size w1 wr) (fun _ u15 _ => n - (intOf u15).toNat)
  case atStart => exact ⟨0, _, Nat.zero_le _, rfl, rfl, World.ownsRow_nil _ _ _ _, .refl _ _⟩
  case round =>
    obtain ⟨i, v, hin, rfl, rfl, hrow, hB⟩ := hrel
    have HB := Lib.hid hB
    have hZl := smps_len (G := G) (l := l.take i) fun q hq => HFT.out q (List.mem_of_mem_take hq)
    rw [List.length_take] at hZl
    by_cases hlt : i < n
    · have hil : i < l.length := by rw [HL.out]; exact hlt
      obtain ⟨p, hp⟩ : ∃ p, l.getD i 0 = p := ⟨_, rfl⟩
      have hgp := HFT.out _ (getD_mem hil)
      rw [hp] at hgp
      have HSC : Hid ((l.take (i + 1)).flatMap Pq.Px.smp = (l.take i).flatMap Pq.Px.smp ++ Pq.Px.smp p) := Lib.hid (by rw [Rw.take_snoc1 l i hil, List.flatMap_append, hp]; simp)
      have HUP := Lib.hid (fun W => Pq.unpack_any p (Pq.goodU hgp) W)
      have hm3 := (Pl.smp_in (Pq.goodU hgp)).1
      obtain ⟨zs, hzs⟩ : ∃ zs, Pq.Px.smp p = zs := ⟨_, rfl⟩
      rw [hzs] at HSC HUP hm3
      obtain ⟨m, hmz⟩ : ∃ m, zs.length = m := ⟨_, rfl⟩
      rw [hmz] at hm3
      have HML := Lib.hid hmz
      obtain ⟨Z, hZ⟩ : ∃ Z, (l.take i).flatMap Pq.Px.smp = Z := ⟨_, rfl⟩
      rw [hZ] at hrow HSC hZl
      obtain ⟨nz, hnz⟩ : ∃ nz, Z.length = nz := ⟨_, rfl⟩
      rw [hnz] at hrow hZl
      have HNZ := Lib.hid hnz
      have HROW := Lib.hid hrow
      obtain ⟨blk, off, ha, c0⟩ : ∃ blk off, a = some ⟨blk, off, none⟩ ∧ wr.cell? ⟨blk, off + i, none⟩ = some (.int .u64 p) := by
        rcases HS.out.2 with h | ⟨blk, off, rfl, hc⟩
        · omega
        · exact ⟨blk, off, rfl, cell_later (HB1.out.trans (hB.mono HB1.out.size)) (by rw [hc i hlt, hp])⟩
      subst ha
      have q1 : nz + m ≤ maxLen := by unfold maxLen; omega
      have q2 : (nz + m) * 8 ≤ 140737488355328 := by omega
      clear hil hp hgp hzs hmz hZ hnz hrow hB
      go_wp2_with (first
        | (go_at_call 170; refine (HUP.out _).mono ?_; rintro e w2 ⟨ad, cc, rfl, hown, hb2⟩; have HSL := Lib.hid (own_slk hown HML.out); rw [HML.out]; have HB2 := Lib.hid (HB.out.trans (hb2.mono HB.out.size)); have HRW2 := Lib.hid (below_row HROW.out hb2); clear hown hb2)
        | (at_builtin; refine wpList_app rfl _ _ 22 rfl w1.heap.size 3 i0 .i64 8 Tryz.underlying22 hi8 hz0 hz1 hz2 v nz (ints Z) rfl HRW2.out ad m cc zs rfl HSL.out q1 q2 HB2.out.size ?_; intro v3 w3 hown hgrow hat; have HO3 := Lib.hid hown; have HB3 := Lib.hid (HB2.out.grown hgrow HB2.out.size (fun j ej => (HRW2.out.lt j ej).1)); clear hown hgrow hat))
      go_roundw
      case rel => exact ⟨i + 1, v3, hlt, by go_num, rfl, by rw [HSC.out, List.length_append, HNZ.out, HML.out]; have h9 := HO3.out; unfold ints at h9 ⊢; rw [List.map_append]; exact h9, HB3.out⟩
      case measure => simp [intOf]; omega
    · obtain rfl : i = n := by omega
      rw [List.take_of_length_le (by rw [HL.out]; exact Nat.le_refl _)] at hrow hZl
      have HBt := Lib.hid (HB1.out.trans (hB.mono HB1.out.size))
      obtain ⟨Z, hZ⟩ : ∃ Z, l.flatMap Pq.Px.smp = Z := ⟨_, rfl⟩
      have HZ := Lib.hid hZ
      rw [hZ] at hrow hZl
      obtain ⟨nz, hnz⟩ : ∃ nz, Z.length = nz := ⟨_, rfl⟩
      rw [hnz] at hrow hZl
      have HNZ := Lib.hid hnz
      have hnz9 : nz ≤ 300 := by omega
      have HROW := Lib.hid hrow
      have HZIN : Hid (∀ x ∈ Z, 0 ≤ x ∧ x ≤ G.m) := Lib.hid (by rw [← hZ]; exact HSM.out)
      obtain ⟨sa, sc, hv, hsl⟩ := sl_of_row (z := 0) rfl hrow hnz
      subst hv
      have hcap := byt_cap hrow
      have HSL := Lib.hid hsl
      obtain ⟨k0, k1, k2, k3⟩ := (HK1.out.later hB).cells
      clear hZ hnz hrow hsl hB hZl
      have hb := bit_smps HM.out H4.out HFT.out
      have hZe : Z = l.map Rw.s0 := by rw [← HZ.out, hb.1]
      have hon : Bt.Ones Z := by rw [hZe]; exact hb.2
      have hzl : nz = i := by rw [← HNZ.out, hZe, List.length_map, HL.out]
      have hok : Bt.packOk Z = true := by
        unfold Bt.packOk
        rw [Bool.and_eq_true, Bool.and_eq_true]
        exact ⟨⟨decide_eq_true (by rw [HNZ.out]; omega), decide_eq_true (by rw [HNZ.out]; omega)⟩, decide_eq_true hon⟩
      have hRe : Bt.packV Z = R := by
        rw [← HRR.out]; unfold Rw.rowB Bt.packV
        rw [if_pos hok, if_pos H4.out, hZe]
      have hpe : Bt.packE Z = 0 := by unfold Bt.packE; rw [if_pos hok]
      have hPK := fun W hW => Bt.pack_any sa nz sc Z W hcap.1 hcap.2 (HSL.out.below hW)
      unfold Bt.PackR at hPK
      rw [hRe, hpe, HRN.out] at hPK
      have HPK := Lib.hid hPK
      clear hPK hpe hRe hok hzl hon hZe hb
      go_wp2_with (go_at_call 171; refine (HPK.out _ (.refl _ _)).mono ?_; rintro e w4 ⟨ad4, c4, rfl, ho4, hb4⟩; have HO4 := Lib.hid ho4; have HB4 := Lib.hid (HBt.out.trans (hb4.mono HBt.out.size)); clear ho4 hb4)
      go_returns
      exact rbr_row HO4.out HRN.out HB4.out
theorem rwRowB_any (a : Option Addr) (n cap : Nat) (l : List Int) (G : Hd.H) (hm : Rw.May G) (hl : Pl.Fits G l) (hn1 : 1 ≤ n) (hn : n ≤ 100) (w : World) (hs : SlK .u64 w a n l) :
    Calls Tryz.prog 139 #[.slice a n cap, agH G] w (RbR w (Rw.rowB G l) (Rw.rowB G l).length) := by
  by_cases h4 : G.kd = 4
  · exact rwRowB_4 a n cap l G hm h4 hl hn1 hn w hs
  · by_cases hw : 255 < G.m
    · exact rwRowB_2 a n cap l G hm h4 hw hl hn1 hn w hs
    · exact rwRowB_1 a n cap l G hm h4 hw hl hn1 hn w hs
end Go.Proofs.YtmnhiagppicegaaGreat

/- A raster of bytes written by the code, over any memory. Condition: the head may be, at most 80 by 4; the pixels fit. -/
namespace Go.Proofs.YtmnhiagppicegaaGreat
open Go.RowKit Go.Shelf
attribute [local go_sem] Oper.semAt_some
set_option linter.unusedVariables false
theorem wr_src {w : World} {a : Option Addr} {n : Nat} {zs : List Int} (h : SlK .u8 w a n zs) (hn : 0 < n) : ∃ ad, a = some ad ∧ ∀ j v, (byts zs)[j]? = some v → w.cell? (ad.add j) = some v := by
  obtain ⟨b, off, rfl, hc⟩ := Rw.slk_pos h hn
  refine ⟨_, rfl, fun j v hv => ?_⟩
  unfold byts at hv
  rw [List.getElem?_map] at hv
  rcases Nat.lt_or_ge j zs.length with hj | hj
  · rw [List.getElem?_eq_getElem hj] at hv
    rw [addrK_add, hc j (by rw [← h.1]; exact hj), ← hv, List.getD_eq_getElem?_getD, List.getElem?_eq_getElem hj]; rfl
  · rw [List.getElem?_eq_none hj] at hv; cases hv
theorem byt_one (zs : List Int) : ∀ u ∈ byts zs, u.oneCell' = true := by
  intro u hu
  obtain ⟨y, _, rfl⟩ := List.mem_map.1 hu
  rfl
theorem wr_part {w : World} {bk of n : Nat} {l : List Int} {gw gh y : Nat} (h : SlK .u64 w (some ⟨bk, of, none⟩) n l) (hn : n = gw * gh) (hy : y < gh) : SlK .u64 w (some ⟨bk, of + gw * y, none⟩) gw ((l.drop (y * gw)).take gw) := by
  have h1 : (y + 1) * gw ≤ gh * gw := Nat.mul_le_mul_right gw hy
  rw [Nat.add_mul, Nat.one_mul, Nat.mul_comm gh gw] at h1
  refine ⟨by rw [List.length_take, List.length_drop, h.1]; omega, ?_⟩
  rcases h.2 with h0 | ⟨g', o', e, hc⟩
  · left; omega
  · cases e
    refine .inr ⟨bk, of + gw * y, rfl, fun i hi => ?_⟩
    rw [Nat.add_assoc, Nat.mul_comm gw y, hc (y * gw + i) (by omega), List.getD_eq_getElem?_getD, List.getD_eq_getElem?_getD, List.getElem?_take_of_lt hi, List.getElem?_drop]
end Go.Proofs.YtmnhiagppicegaaGreat

/- A raster of bytes written by the code, over any memory. Condition: the head may be, at most 80 by 4; the pixels fit. -/
namespace Go.Proofs.YtmnhiagppicegaaGreat
open Go.RowKit Go.Shelf
attribute [local go_sem] Oper.semAt_some
set_option linter.unusedVariables false
theorem wr_app (i0 : TypeInfo) (hi : Tryz.prog.info? 5 = some i0) (hz1 : i0.size = 1) {W' V9 w9 : World} {g0 B K sz st : Nat} {xs R : List Int} {a9 : Option Addr} {V : Value} (hb : Below V9.heap.size V9 w9) (hV9 : V9 = W' ∨ V9 = W'.drew) (hrow : W'.ownsRow g0 5 1 (.slice (some ⟨g0, 0, none⟩) K sz) K (byts xs)) (hv : Boxed W' B 43 V) (hne : g0 < B) (hsr : SlK .u8 w9 a9 st R) (h1 : 1 ≤ st) (hl : R.length = st) (hks : K + st ≤ sz) :
    ∃ ad w10, a9 = some ad ∧ (loadCellsFrom ad 0 st #[]).run Tryz.prog w9 = .ok (byts R).toArray w9 ∧ (storeCells ⟨g0, K, none⟩ (byts R)).run Tryz.prog w9 = .ok () w10 ∧ w10.ownsRow g0 5 1 (.slice (some ⟨g0, 0, none⟩) (K + st) sz) (K + st) (byts (xs ++ R)) ∧ w9.cell? ⟨B, 0, none⟩ = some V ∧ w10.cell? ⟨B, 0, none⟩ = some V ∧ w10.frozen? ⟨B, 0, none⟩ = false ∧ Boxed w10 B 43 V ∧ w9.grownBy w10 (some g0) ∧ Below W'.heap.size W' w9 := by
  have hb99 : Below W'.heap.size W' w9 := by
    rcases hV9 with rfl | rfl
    · exact hb
    · exact Below.trans (b := W'.drew) ⟨rfl, rfl, rfl, Nat.le_refl _, fun _ _ => rfl⟩ hb
  obtain ⟨ad9, rfl, hsr9⟩ := wr_src hsr h1
  have hB : B < W'.heap.size := by have := block_lt_of_cell hv.cell; exact this
  have hv9 : Boxed w9 B 43 V := (hb99.block _ hB).trans hv
  have hB9 : B < w9.heap.size := Nat.lt_of_lt_of_le hB hb99.size
  have hrow9 := below_row hrow hb99
  have hL : (byts R).length = st := by unfold byts; rw [List.length_map, hl]
  obtain ⟨w10, hrun, r1, r2⟩ := run_append_fits (P := Tryz.prog) w9 g0 43 43 5 i0 1 Tryz.underlying43 hi hz1 g0 K sz (byts xs) hrow9 ad9 st st (byts R) (by rw [hL, Nat.mul_one]) hsr9 (byt_one R) hks
  have hld : (loadCellsFrom ad9 0 st #[]).run Tryz.prog w9 = .ok (byts R).toArray w9 := by
    have := run_loadCells_list (P := Tryz.prog) w9 ad9 (byts R) hsr9
    rw [hL] at this; exact this
  have hst : (storeCells ⟨g0, K, none⟩ (byts R)).run Tryz.prog w9 = .ok () w10 := by
    rcases hrow9.2 with ⟨h, _⟩ | ⟨g', cap', cur, h, hbg, hg, hnc, hcm, hcs, htake⟩
    · cases h
    · cases h
      have hfit : K + (byts R).length ≤ cur.size := by rw [hL]; omega
      have h2 := run_storeCells_at Tryz.prog g0 K 5 (byts R) 0 cur w9 hg (by simpa using hfit) (byt_one R)
      have h3 := run_append_room (P := Tryz.prog) w9 43 43 5 i0 Tryz.underlying43 hi g0 K sz cur hg ad9 st st (byts R) (by rw [hL, hz1, Nat.mul_one]) hsr9 (byt_one R) hks (by rw [hz1, Nat.mul_one]; exact hfit)
      rw [hrun] at h3
      rw [hz1, Nat.mul_one] at h3
      have h4 := (Result.ok.inj h3).2
      rw [h4]
      exact h2
  have hv10 : Boxed w10 B 43 V := (r2.block _ hB9 (by intro e; injection e with e; omega)).trans hv9
  refine ⟨ad9, w10, rfl, hld, hst, ?_, hv9.cell, hv10.cell, hv10.frozen, hv10, r2, hb99⟩
  have e : byts (xs ++ R) = byts xs ++ byts R := by unfold byts; rw [List.map_append]
  rw [e]; exact r1
set_option maxRecDepth 100000 in
set_option maxHeartbeats 8000000 in
theorem rwWrite_good (bk of : Nat) (n cap : Nat) (l : List Int) (G : Hd.H) (hf : Hj.Fit G) (hm : Rw.May G) (gw gh : Nat) (hgw : G.w = (gw : Int)) (hgh : G.h = (gh : Int)) (hw80 : gw ≤ 80) (hh4 : gh ≤ 9) (hL : l.length = gw * gh) (hn : n = gw * gh) (hnc : n ≤ cap) (hc : cap ≤ 9223372036854775807) (hl : Pl.Fits G l) (w : World) (hs : SlK .u64 w (some ⟨bk, of, none⟩) n l) :
    Calls Tryz.prog 90 #[.slice (some ⟨bk, of, none⟩) n cap, agH G] w (RwwR (Rw.wRows G l gw gh, 0) w) := by
  obtain ⟨i0, hi, hz0, hz1, hz2⟩ : ∃ i, Tryz.prog.info? 5 = some i ∧ i.zero = some (.int .u8 0) ∧ i.size = 1 ∧ i.bytes = 1 := (by have h := Bt.Tryz.info_byt; cases hh : Tryz.prog.info? 5 with | none => rw [hh] at h; cases h | some i => rw [hh] at h; simp at h; exact ⟨i, rfl, h.1, h.2.1, h.2.2⟩)
  have hMY := rwMay_any G hf
  rw [decide_eq_true hm] at hMY
  have hmm := hm.m
  have hF := hformat_any G hm.1
  unfold Hj.fm at hF
  have hFT := fun W hb => rwFit_any (some ⟨bk, of, none⟩) n cap l G (by omega) (Pl.goodU hl) W (hs.below hb)
  rw [Rw.fits_all hm hl] at hFT
  have hSZ := hsize_any G hm.1
  obtain ⟨st, hst⟩ : ∃ st, Rw.stride G = st := ⟨_, rfl⟩
  obtain ⟨sz, hsz⟩ : ∃ sz, gh * st = sz := ⟨_, rfl⟩
  have hse : Hj.size G = (sz : Int) := by rw [Rw.size_eq hm, hgh, hst, ← Int.natCast_mul, hsz]
  have hs9 := (Rw.stride_at hm).2.1
  have hs1 := (Rw.stride_at hm).1
  rw [hst] at hs9 hs1
  have hsz9 : sz ≤ 221184 := by rw [← hsz]; exact Nat.mul_le_mul hh4 hs9
  rw [hse] at hSZ
  obtain ⟨C, hC⟩ : ∃ C, Hj.chan G = C := ⟨_, rfl⟩
  rw [hC] at hF hFT
  have HRB := Lib.hid (fun y (hy : y < gh) W (hb : Below w.heap.size w W) => rwRowB_any (some ⟨bk, of + gw * y, none⟩) gw gw ((l.drop (y * gw)).take gw) G hm (Rw.fits_sub hl (y * gw) gw) (by omega) (by omega) W (wr_part (hs.below hb) hn hy))
  have HRL : Hid (∀ y, y < gh → (Rw.rowB G ((l.drop (y * gw)).take gw)).length = st) := Lib.hid fun y hy => by rw [← hst]; exact (Rw.row_back hm (Rw.fits_sub hl (y * gw) gw) hgw (Rw.part_len hL hy)).2
  have HWL : Hid (∀ y, y ≤ gh → (Rw.wRows G l gw y).length = y * st) := Lib.hid fun y hy => by rw [← hst]; exact Rw.wRows_len hm hl hgw hL y hy
  have HWS : Hid (∀ y, Rw.wRows G l gw (y + 1) = Rw.wRows G l gw y ++ Rw.rowB G ((l.drop (y * gw)).take gw)) := Lib.hid fun y => rfl
  unfold agH at hMY hF hSZ HRB ⊢
  have HMY := Lib.hid hMY
  have HF := Lib.hid hF
  have HFT := Lib.hid hFT
  have HSZ := Lib.hid hSZ
  have hN : G.w * G.h = (n : Int) := by rw [hgw, hgh, ← Int.natCast_mul, hn]
  have gN : wrap64 (G.w * G.h) = (n : Int) := by rw [hN, IntWalk.wrap64_in] <;> omega
  have gn : ((n : Int) != (n : Int)) = false := by simp
  have HGW := Lib.hid hgw
  have HGN := Lib.hid hn
  have HSS := Lib.hid hsz
  have HS1 : Hid (1 ≤ st) := Lib.hid hs1
  have hgw1 : 1 ≤ gw := by omega
  have hgh1 : 1 ≤ gh := by omega
  have hn1 : 1 ≤ n := by rw [hn]; exact Nat.mul_pos hgw1 hgh1
  have hn9 : n ≤ 4096 := by rw [hn]; exact Nat.le_trans (Nat.mul_le_mul hw80 hh4) (by decide)
  have HCM := Lib.hid (ch_made (some ⟨bk, of, none⟩) n cap gw hgw1)
  rw [← hgw] at HCM
  clear hMY hF hFT hSZ hs hl hN hC hm hf hst hse hgw hgh hsz hn hL
  refine calls_of_marks Tryz.func90 rfl ?_
  simp only [Tryz.ntmps90, List.size_toArray, List.length_cons, List.length_nil, Nat.reduceAdd, Nat.reduceSub, Array.replicate_succ, Array.replicate_zero, List.push_toArray, List.append_toArray, List.nil_append, List.cons_append]
  go_upto_region 1 with fail
  generalize hW : w.alloc (.cells #[.int .i64 G.kd, .int .i64 G.w, .int .i64 G.h, .int .i64 G.m] 49) = w1
  have HK1 : Hid (Hb w1 w.heap.size 49 G) := by show Hb _ _ _ _; rw [← hW]; exact Hb.new w 49 G
  have HB1 : Hid (Below w.heap.size w w1) := by show Below _ _ _; rw [← hW]; exact box1' _ _
  have HKL : Hid (w.heap.size < w1.heap.size) := Lib.hid (by rw [← hW]; simp)
  clear hW
  obtain ⟨k0, k1, k2, k3⟩ := HK1.out.cells
  go_upto_region 3 with (first
    | (go_at_call 136; refine (HMY.out _).mono ?_; rintro e w2 ⟨rfl, hb2⟩; have HB2 := Lib.hid (HB1.out.trans (hb2.mono HB1.out.size)); have HK2 := Lib.hid (HK1.out.later hb2); obtain ⟨m0, m1, m2, m3⟩ := HK2.out.cells; clear hb2)
    | (go_at_call 59; refine (HF.out _).mono ?_; rintro e w3 ⟨rfl, hb3⟩; have HB3 := Lib.hid (HB2.out.trans (hb3.mono HB2.out.size)); have HK3 := Lib.hid (HK2.out.later hb3); clear hb3)
    | (go_at_call 137; refine (HFT.out _ HB3.out).mono ?_; rintro e w4 ⟨rfl, hb4⟩; have HB4 := Lib.hid (HB3.out.trans (hb4.mono HB3.out.size)); have HK4 := Lib.hid (HK3.out.later hb4); clear hb4))
  clear k0 k1 k2 k3 m0 m1 m2 m3 gN gn
  obtain ⟨k0, k1, k2, k3⟩ := HK4.out.cells
  go_upto_region 4 with (first
    | (go_at_call 105; refine (HSZ.out _).mono ?_; rintro e w5 ⟨rfl, hb5⟩; have HB5 := Lib.hid (HB4.out.trans (hb5.mono HB4.out.size)); have HK5 := Lib.hid (HK4.out.later hb5); clear hb5)
    | (at_make; refine wpList_make_own _ rfl _ _ 43 rfl w5.heap.size 5 i0 (.int .u8 0) 1 Tryz.underlying43 hi hz0 hz1 .i64 .i64 (sz : Int) sz rfl rfl rfl (by rw [hz2]; omega) (by unfold maxLen; omega) (Nat.le_refl _) ?_; intro w6 hown hgrow; have HW := Lib.hid hown; have HG6 := Lib.hid hgrow; clear hown hgrow))
  clear k0 k1 k2 k3
  have HB6 : Hid (Below w.heap.size w w6) := Lib.hid (HB5.out.grown HG6.out HB5.out.size (by simp))
  have HK6 : Hid (Hb w6 w.heap.size 49 G) := Lib.hid ((HG6.out.block _ HK5.out.lt (by simp)).trans HK5.out)
  have hg0 : w5.heap.size < w6.heap.size := (Bt.ownsRow_blk HW.out).2
  obtain ⟨B, hB⟩ : ∃ B, w6.heap.size = B := ⟨_, rfl⟩
  have hKl := HK5.out.lt
  generalize hW : w6.alloc (.cells #[.slice (some ⟨w5.heap.size, 0, none⟩) 0 sz] 43) = w7
  have hv0 : Boxed w7 B 43 (.slice (some ⟨w5.heap.size, 0, none⟩) 0 sz) := by rw [← hB, ← hW]; exact Boxed.new w6 _ _
  have HR7 : Hid (w7.ownsRow w5.heap.size 5 1 (.slice (some ⟨w5.heap.size, 0, none⟩) 0 sz) 0 []) := by show World.ownsRow _ _ _ _ _ _ _; rw [← hW]; exact HW.out.alloc _
  have HB7 : Hid (Below w.heap.size w w7) := by show Below _ _ _; rw [← hW]; exact HB6.out.alloc HB6.out.size _
  have HK7 : Hid (Hb w7 w.heap.size 49 G) := by show Hb _ _ _ _; rw [← hW]; exact HK6.out.later (box1' _ _)
  have hs7 : w7.heap.size = B + 1 := by rw [← hW, ← hB]; simp
  rw [hB] at hg0 ⊢
  obtain ⟨g0, hgz⟩ : ∃ g0, w5.heap.size = g0 := ⟨_, rfl⟩
  rw [hgz] at hv0 HR7 hg0 hKl
  clear hW hB hgz HW HG6 HB6 HK6 HB5 HK5
  have HV7 := Lib.hid hv0
  obtain ⟨k0, k1, k2, k3⟩ := HK7.out.cells
  go_upto_region 5 with (go_at_call 138; refine (HCM.out _).mono ?_; rintro e w8 ⟨nb, bb, rfl, hne, l1, l2, l3, l4, cn, cb, hb⟩)
  clear k0 k1 k2 k3
  have hs8 := hb.size
  have hv8 : Boxed w8 B 43 (.slice (some ⟨g0, 0, none⟩) 0 sz) := (hb.block _ (by omega)).trans hv0
  have hr8 := Bt.ownsRow_same HR7.out (hb.block g0 (by omega))
  have hk8 := HK7.out.later hb
  have hb8 := HB7.out.trans (hb.mono HB7.out.size)
  have hb8s := hb8.size
  have hGV := Bt.ch_gives n gh gw cap bk of nb bb hgw1 hn1 (by rw [HGN.out]; exact Nat.le_refl _) (by rw [HGN.out]; omega) hnc hc hn9 (by omega) hne w8 2 (by omega) cn cb
  have hzB : ¬ ((B = nb ∨ B = bb) ∨ B = w8.heap.size ∨ B = w8.heap.size + 1) := by omega
  have hzg : ¬ ((g0 = nb ∨ g0 = bb) ∨ g0 = w8.heap.size ∨ g0 = w8.heap.size + 1) := by omega
  have hzk : ¬ ((w.heap.size = nb ∨ w.heap.size = bb) ∨ w.heap.size = w8.heap.size ∨ w.heap.size = w8.heap.size + 1) := by omega
  clear hb cn cb hv0
  refine range_wp (gf := 169) (lb := #[.pointer (some ⟨nb, 0, none⟩), .pointer (some ⟨bb, 0, none⟩)]) rfl (enters_of Tryz.func169 (by kernel_rfl) rfl)
    hGV (by rintro k (rfl | rfl) <;> assumption) (fun _ => rfl)
    (fun pre W' => Boxed W' B 43 (.slice (some ⟨g0, 0, none⟩) (pre.length * st) sz) ∧ W'.ownsRow g0 5 1 (.slice (some ⟨g0, 0, none⟩) (pre.length * st) sz) (pre.length * st) (byts (Rw.wRows G l gw pre.length)) ∧ Hb W' w.heap.size 49 G ∧ Below w.heap.size w W')
    (fun _ _ _ => False) ?hI (fun _ _ _ _ hh _ => hh) ⟨by simpa using hv8, by simpa [Rw.wRows, byts] using hr8, hk8, hb8⟩ ?_ ?assign ?body ?done ?stop
  case hI =>
    rintro p A B' ⟨h1, h2, h3, h4⟩ hs
    refine ⟨boxed_sep h1 hs hzB, Bt.ownsRow_same h2 (hs.block _ (Bt.ownsRow_blk h2).2 hzg), (hs.block _ h3.lt hzk).trans h3, ?_⟩
    exact h4.trans (hs.below h4.size (by intro k hk; omega))
  case assign =>
    intro l x W K hK
    unfold Bt.encCh
    gi_wp2
    exact hK
  case body =>
    rintro ll pre k rest W' hx hlt ⟨hv, hrow, hkk, hB⟩
    obtain ⟨rfl, hkm⟩ := Bt.range_mid hx
    obtain ⟨k, hk⟩ : ∃ k, pre.length = k := ⟨_, rfl⟩
    rw [hk] at hv hrow hkm ⊢
    have HK := Lib.hid hk
    clear hx hk hv8 hr8 hk8 hb8
    have hpc : Bt.partCh n gw k = gw := by
      unfold Bt.partCh
      have h1 : gw * (k + 1) ≤ gw * gh := Nat.mul_le_mul_left gw hkm
      rw [Nat.mul_succ, ← HGN.out] at h1
      omega
    rw [hpc]
    have hvc := hv.cell
    have hvf := hv.frozen
    obtain ⟨k0, k1, k2, k3⟩ := hkk.cells
    have HV := Lib.hid hv
    have HROW := Lib.hid hrow
    have HKK := Lib.hid hkk
    have HB' := Lib.hid hB
    have HRBk := Lib.hid (fun W hb => HRB.out k hkm W hb)
    have hrl := HRL.out k hkm
    obtain ⟨R, hR⟩ : ∃ R, Rw.rowB G ((l.drop (k * gw)).take gw) = R := ⟨_, rfl⟩
    rw [hR] at hrl HRBk
    rw [hrl] at HRBk
    have HWK := Lib.hid (HWS.out k)
    rw [hR] at HWK
    have HRLN := Lib.hid hrl
    have hks : k * st + st ≤ sz := by
      have h1 : (k + 1) * st ≤ gh * st := Nat.mul_le_mul_right st hkm
      rw [Nat.add_mul, Nat.one_mul, HSS.out] at h1; exact h1
    obtain ⟨K, hK⟩ : ∃ K, k * st = K := ⟨_, rfl⟩
    have HKe := Lib.hid hK
    rw [hK] at hks HV HROW hvc
    clear hv hrow hkk hB hpc hrl hR hK
    gi_wp2
    gi_region_with (first | (refine ⟨trivial, ?_⟩; gi_at_call 139; refine (((callsIn_wide (n := _)).2 (HRBk.out _ (by first | exact HB'.out | exact HB'.out.drew))).inRound ll).mono ?_; rintro e w9 ⟨a9, c9, rfl, hs9, hb9⟩; obtain ⟨ad9, w10, had9, hld, hst, r1, c7, c8, f8, v8, r2, hb99⟩ := wr_app i0 hi hz1 (W' := W') hb9 (by first | exact .inl rfl | exact .inr rfl) HROW.out HV.out hg0 hs9 HS1.out HRLN.out hks; subst had9; have HR1 := Lib.hid r1; have HR2 := Lib.hid r2; have HBB := Lib.hid hb99; have HV8 := Lib.hid v8; clear r1 r2 hb99 v8 hs9))
    all_goals
      have hBs := HBB.out
      have hgr := HR2.out
      have hss := hBs.size
      have hBg : ¬ B = g0 := by omega
      have hgB : ¬ g0 = B := by omega
      have hkg : ¬ w.heap.size = g0 := by omega
      have hkB : ¬ w.heap.size = B := by omega
      have hZ9 : Hold (fun k => (k = nb ∨ k = bb) ∨ k = w8.heap.size ∨ k = w8.heap.size + 1) w9 w10 := ⟨hgr.size, fun k hk hz => hgr.block k hk (by intro e; cases e; exact hzg hz)⟩
      have hhf := ((Hold.below hBs (by intro k hk; omega)).trans hZ9).trans (.setCell (b := B) (o := 0) (p := none) _ hzB (.slice (some ⟨g0, 0, none⟩) (K + st) sz))
      have hrF := HR1.out.kept (grownBy_setCell' _ B (.slice (some ⟨g0, 0, none⟩) (K + st) sz)) (.inr (by simpa [Value.ownBlock] using hgB))
      have hvF := HV8.out.set (.slice (some ⟨g0, 0, none⟩) (K + st) sz)
      have hbF := ((HB'.out.trans (hBs.mono HB'.out.size)).grown hgr (by omega) (by intro k e; cases e; omega)).setCell (p := ⟨B, 0, none⟩) (by show _ ≤ B; omega) (.slice (some ⟨g0, 0, none⟩) (K + st) sz)
      have hkF : Hb (w10.setCell ⟨B, 0, none⟩ (.slice (some ⟨g0, 0, none⟩) (K + st) sz)) w.heap.size 49 G := (Below.heap_setCell _ _ _ _ hkB).trans ((hgr.block _ (Nat.lt_of_lt_of_le (by omega) hss) (by intro e; cases e; omega)).trans ((hBs.block _ (by omega)).trans HKK.out))
      gi_wp2
      refine ⟨hhf, ?_, ?_, hkF, hbF⟩
      · rw [List.length_append, List.length_singleton, HK.out, Nat.add_mul, Nat.one_mul, HKe.out]; exact hvF
      · rw [List.length_append, List.length_singleton, HK.out, Nat.add_mul, Nat.one_mul, HKe.out, HWK.out]; exact hrF
  case done =>
    rintro W' ⟨hv, hrow, _, hB⟩ hK
    rw [List.length_range, HSS.out] at hv hrow
    have hvc := hv.cell
    have HR := Lib.hid hrow
    have hwl : (Rw.wRows G l gw gh).length = sz := by rw [HWL.out gh (Nat.le_refl _), HSS.out]
    have HWL9 := Lib.hid hwl
    clear hv8 hr8 hv hrow hk8 hb8 hwl
    go_wp2
    refine ret_mark hK (results_tmp2 rfl _ _ _) ?_
    have hlK : w8.heap.size < W'.heap.size := (Array.getElem?_eq_some_iff.1 hK).1
    have hr9 := Bt.ownsRow_same HR.out (B := W'.putObj w8.heap.size (.deferred none)) (World.putObj_heap_other (by omega))
    obtain ⟨a, c, e, hs⟩ := byt_row hr9 HWL9.out
    cases e
    exact ⟨some ⟨g0, 0, none⟩, sz, (by show Ending.returned (.tuple #[.slice (some ⟨g0, 0, none⟩) sz sz, .int .i64 0]) = Ending.returned (.tuple #[.slice (some ⟨g0, 0, none⟩) (Rw.wRows G l gw gh).length sz, .int .i64 0]); rw [HWL9.out]), (by show SlK _ _ _ (Rw.wRows G l gw gh).length _; rw [HWL9.out]; exact hs), (by show (Rw.wRows G l gw gh).length ≤ _ ∧ _; rw [HWL9.out]; exact ⟨Nat.le_refl _, by omega⟩), Below.putObj hB (by omega) _⟩
  case stop =>
    rintro c pre W _ hh _
    exact hh.elim
end Go.Proofs.YtmnhiagppicegaaGreat

/- What writes a raster of bytes, as a closure over a head; an image's bytes, of a raw kind, by the code; over any memory. Condition: the kind may tell the image, at most 80 by 9. -/
namespace Go.Proofs.YtmnhiagppicegaaGreat
open Go.RowKit
set_option linter.unusedVariables false
theorem Im.writer_raw (h : Hd.H) (hm : Hd.May h) (hk : 3 < h.kd) (w : World) :
    Calls Tryz.prog 51 #[agH h] w fun e w' => ∃ b, e = .returned (.func (.func 89) #[] #[.pointer (some ⟨b, 0, none⟩)]) ∧ Hb w' b 49 h ∧ Below w.heap.size w w' := by
  have HR := Lib.hid (hraw_any h hm)
  rw [decide_eq_true hk] at HR
  obtain ⟨kd, ww, hh, mx⟩ := h
  have X := Hb.new w 49 ⟨kd, ww, hh, mx⟩
  have hbx := (Below.refl w.heap.size w).alloc (Nat.le_refl _) (.cells #[.int .i64 kd, .int .i64 ww, .int .i64 hh, .int .i64 mx] 49)
  obtain ⟨W, hW⟩ : ∃ W, w.alloc (.cells #[.int .i64 kd, .int .i64 ww, .int .i64 hh, .int .i64 mx] 49) = W := ⟨_, rfl⟩
  simp only at X
  rw [hW] at X hbx
  unfold agH at HR ⊢
  simp only at HR ⊢
  clear hm hk
  go_enter Tryz.func51, Tryz.ntmps51
  go_upto_region 1 with fail
  try rw [hW]
  clear hW
  obtain ⟨l0, l1, l2, l3⟩ := X.cells
  simp only at l0 l1 l2 l3
  go_wp2_with fail
  refine (HR.out _).mono ?_
  rintro e w2 ⟨rfl, hb2⟩
  go_wp2
  go_ret
  exact ⟨_, rfl, X.later hb2, hbx.trans (hb2.mono hbx.size)⟩
theorem Im.raster_raw (a : Option Addr) (n cap : Nat) (R : List Int) (h : Hd.H) (b : Nat) (w : World) (X : Hb w b 49 h)
    (HC : ∀ W, Below w.heap.size w W → Calls Tryz.prog 90 #[.slice a n cap, agH h] W (RwwR (R, 0) W)) :
    Calls Tryz.prog 89 #[.slice a n cap, .pointer (some ⟨b, 0, none⟩)] w fun e w' => ∃ a' c', e = .returned (.slice a' R.length c') ∧ SlK .u8 w' a' R.length R ∧ Below w.heap.size w w' := by
  have HC := Lib.hid HC
  obtain ⟨kd, ww, hh, mx⟩ := h
  unfold agH RwwR at HC
  simp only at HC
  obtain ⟨l0, l1, l2, l3⟩ := X.cells
  simp only at l0 l1 l2 l3
  go_enter Tryz.func89, Tryz.ntmps89
  go_wp2_with fail
  refine (HC.out _ (.refl _ _)).mono ?_
  rintro e w2 ⟨a', c', rfl, hs, _, hb⟩
  have HS := Lib.hid hs
  clear hs
  go_wp2
  go_ret
  exact ⟨_, _, rfl, HS.out, hb⟩
end Go.Proofs.YtmnhiagppicegaaGreat

/- An image's bytes, of a raw kind, by the code, over any memory. Condition: the kind may tell the image, at most 80 by 9. -/
namespace Go.Proofs.YtmnhiagppicegaaGreat
open Go.RowKit
set_option linter.unusedVariables false
theorem Im.conv_rm (w : World) (s : ByteArray) (hs : s.size ≤ 100000) :
    ∃ cap w', (convert 9 43 (.string s)).run Tryz.prog w = .ok (.slice (some ⟨w.heap.size, 0, none⟩) s.size cap) w' ∧ Im.Rm w' w.heap.size s.size cap (bytesOf s) ∧ Below w.heap.size w w' := by
  refine ⟨_, _, Lib.run_convert_string_bytes w _ _ 5 s Tryz.underlying9 Tryz.underlying43 Tryz.underlying5, ⟨⟨⟨bytesOf_length s, .inr ⟨w.heap.size, 0, rfl, fun i hi => ?_⟩⟩, grownCap_ge _ _ _ _, ?_, ?_⟩, by rw [Lib.bytesWorld_size]; omega, fun j j1 j2 => ?_⟩, Im.bytes_below _ _ _⟩
  · rw [Nat.zero_add, Lib.bytesWorld_cell _ _ _ _ hi, Im.bytes_get]
  · have := grownCap_le_maxLen w s.size 0 5 (by unfold maxLen; omega)
    unfold maxLen at this; omega
  · intro z hz
    unfold bytesOf at hz
    obtain ⟨b, _, rfl⟩ := List.mem_map.1 hz
    have := b.toNat_lt
    omega
  · have hat := Lib.bytesWorld_at_new w 5 s
    have hsz : (Lib.bytesCells w 5 s).size = grownCap w s.size 0 5 := by
      have := grownCap_ge w s.size 0 5
      have e : s.data.size = s.size := rfl
      simp [Lib.bytesCells, e]; omega
    have hj : j < (Lib.bytesCells w 5 s).size := by omega
    refine ⟨?_, ?_⟩
    · simp [World.cell?, hat, Array.getElem?_eq_getElem hj]
    · simp [World.frozen?, hat]; omega
theorem Im.step_app {ops : Array Oper} {o : Oper} {a : Act} {w : World} {K : Act → World → Prop} {Q : Exit → Act → World → Prop} {E : Prop} (hgd : o.guard = none) (s x : Operand)
    (ho : o.op = .call { callee := .builtin .append, args := #[s, x], argTypes := #[43, 43] })
    {b n cap : Nat} {xs : List Int} (h : Im.Rm w b n cap xs) (hn : 1 ≤ n) {ad : Option Addr} {m c : Nat} {l : List Int} (hy : SlK .u8 w ad m l) (hm : 1 ≤ m) (hl9 : n + m ≤ 1000000)
    (hs : a.eval s = .slice (some ⟨b, 0, none⟩) n cap) (hx : a.eval x = .slice ad m c)
    (hK : ∀ a' c' w', SlK .u8 w' a' (n + m) (xs ++ l) → (∀ B, B ≤ b → Below B w w') → K (a.put o.dst (.slice a' (n + m) c')) w') :
    if Region.wanted o (yielded ops a.tmps) = true then Oper.wp Tryz.prog o a w K Q else E := by
  have hw : Region.wanted o (yielded ops a.tmps) = true := by simp [Region.wanted, hgd]
  rw [if_pos hw]
  obtain ⟨a', c', w', hr, h1, h2⟩ := Im.run_app h hn (c := c) hy hm hl9 o.type
  unfold Oper.wp execOp
  simp only [ho, resolve, invoke, builtin, Sem.run_bind, Sem.run_pure, Result.andThen_ok, List.map_toArray, List.map_cons, List.map_nil, hs, hx, hr]
  exact hK _ _ _ h1 h2
end Go.Proofs.YtmnhiagppicegaaGreat

/- Bytes appended, cut, set; a raster of bytes cut off. No condition. -/
namespace Go.Proofs.YtmnhiagppicegaaGreat
open Go.RowKit
set_option linter.unusedVariables false
theorem rws_app {w : World} {base k : Nat} {v : Value} {l : List Int} (hr : w.ownsRow base 5 1 v k (l.map (Value.int .u8))) (hk : l.length = k) (h1 : 1 ≤ k) : ∃ g c, v = .slice (some ⟨g, 0, none⟩) k c ∧ SlK .u8 w (some ⟨g, 0, none⟩) k l ∧ k ≤ c ∧ c ≤ 9223372036854775807 := by
  obtain ⟨a, c, e, hs⟩ := byt_row (show w.ownsRow base 5 1 v k (byts l) from hr) hk
  rcases hr.2 with ⟨hv, h0⟩ | ⟨g, cap, cur, hv, k1, k2, k3, k4, k5, k6⟩
  · omega
  · rw [e] at hv; injection hv with e1 e2 e3
    subst e1; subst e3
    exact ⟨g, c, e, hs, k3, by unfold maxLen at k4; omega⟩
theorem rws_set {w : World} {pb N k : Nat} {l : List Int} {p : Int} (h : SlK .u64 w (some ⟨pb, 0, none⟩) N l) (hk : k < N) : SlK .u64 (w.setCell ⟨pb, k, none⟩ (.int .u64 p)) (some ⟨pb, 0, none⟩) N (l.set k p) := by
  obtain ⟨h1, h2⟩ := h
  refine ⟨by rw [List.length_set]; exact h1, .inr ⟨pb, 0, rfl, fun i hi => ?_⟩⟩
  rcases h2 with h2 | ⟨b, o, e, hc⟩
  · omega
  · cases e
    have hci := hc i hi
    rw [Nat.zero_add] at hci
    by_cases he : i = k
    · subst he
      have e1 : (w.setCell ⟨pb, i, none⟩ (.int .u64 p)).cell? ⟨pb, i, none⟩ = some (.int .u64 p) := World.cell?_setCell_same' _ _ _ (by rw [hci]; rfl)
      rw [Nat.zero_add, e1, List.getD_eq_getElem?_getD, List.getElem?_set_self (by omega)]
      rfl
    · rw [Nat.zero_add, List.getD_eq_getElem?_getD, List.getElem?_set_ne (fun e => he e.symm), ← List.getD_eq_getElem?_getD, ← hci]
      have hne : (⟨pb, k, none⟩ : Addr) ≠ ⟨pb, i, none⟩ := fun e => he (Addr.mk.inj e).2.1.symm
      rw [World.cell?_setCell_other _ _ _ _ hne]
end Go.Proofs.YtmnhiagppicegaaGreat

/- An image's bytes by the document, over any memory. Condition: at most 1000 pixels. -/
namespace Go.Proofs.YtmnhiagppicegaaGreat
open Go.RowKit
set_option linter.unusedVariables false
theorem Im.good_of_fits {p c m : Int} (hU : Pq.Px.U p) (h : Pq.Px.fitsV p c m = true) : Pq.GoodP p c m := by
  rcases Pq.Px.tri hU with ⟨a, b, d, h3⟩ | ⟨a, h1⟩ | h0
  · obtain ⟨k1, k2, k3, k4, -, -⟩ := Pq.Px.fits3_get h3 h
    exact .inl ⟨k1, a, b, d, h3, k2, k3, k4⟩
  · obtain ⟨k1, k2, -, -⟩ := Pq.Px.fits1_get h1 h
    exact .inr ⟨k1, a, h1, k2⟩
  · exact absurd h (by rw [Pq.Px.fitsV0 h0]; decide)
theorem Im.fits_of_all {G : Hd.H} {l : List Int} (hU : ∀ p ∈ l, Pq.Px.U p) (h : Pl.fitAll G l = true) : Pl.Fits G l := fun p hp => by
  unfold Pl.fitAll at h
  rw [List.all_eq_true] at h
  exact Im.good_of_fits (hU p hp) (h p hp)
/-- what it is that a kind may tell an image -/
theorem Im.tell_get {c m kd : Int} {W H : Int} {n : Nat} {L : List Int} (hU : ∀ x ∈ L, Pq.Px.U x) (h : Im.tellV c m W H n L kd = true) : Hd.May ⟨kd, W, H, m⟩ ∧ Hj.chan ⟨kd, W, H, m⟩ = c ∧ Pl.fitAll ⟨kd, W, H, m⟩ L = true ∧ Pl.Fits ⟨kd, W, H, m⟩ L ∧ Rc.mayV W H n = true := by
  have hmay : Im.mayV c m W H n L = true := by unfold Im.tellV at h; simp only [Bool.and_eq_true] at h; exact h.2
  have htk : Im.tellsV ⟨kd, W, H, m⟩ c m = true := by
    rw [Im.tells_may hmay]; unfold Im.tellV at h; simp only [Bool.and_eq_true] at h; exact h.1
  obtain ⟨hHd, hs2⟩ : Hd.May ⟨kd, W, H, m⟩ ∧ Hj.same2 (Hj.chan ⟨kd, W, H, m⟩) m c m = true := by
    unfold Im.tellsV at htk
    rw [Bool.and_eq_true, decide_eq_true_eq] at htk
    exact htk
  have hcc : Hj.chan ⟨kd, W, H, m⟩ = c := by unfold Hj.same2 at hs2; simp only [Bool.and_eq_true, beq_iff_eq] at hs2; exact hs2.1
  have hfa : Pl.fitAll ⟨kd, W, H, m⟩ L = true := by
    have hm2 := hmay
    unfold Im.mayV at hm2
    rw [Bool.and_eq_true] at hm2
    unfold Pl.fitAll
    rw [hcc]
    exact hm2.2
  have hm2 := hmay
  unfold Im.mayV at hm2
  rw [Bool.and_eq_true] at hm2
  exact ⟨hHd, hcc, hfa, Im.fits_of_all hU hfa, hm2.1⟩
/-- an image's bytes, and the error -/
def Im.rawV (kd m : Int) (gw gh : Nat) (L : List Int) : List Int := Hd.bytes ⟨kd, (gw : Int), (gh : Int), m⟩ ++ Rw.wRows ⟨kd, (gw : Int), (gh : Int), m⟩ L gw gh
def Im.plainV (kd m : Int) (gw gh : Nat) (L : List Int) : List Int := Hd.bytes ⟨kd, (gw : Int), (gh : Int), m⟩ ++ Pl.wAll ⟨kd, (gw : Int), (gh : Int), m⟩ L L.length
def Im.writeV (c m kd : Int) (gw gh n : Nat) (L : List Int) : List Int × Int :=
  if Im.tellV c m (gw : Int) (gh : Int) n L kd = true then (if kd < 4 then (Im.plainV kd m gw gh L, 0) else (Im.rawV kd m gw gh L, 0)) else ([], 1)
def ImWrR (t : List Int × Int) (w : World) (e : Ending) (w' : World) : Prop := ∃ a cp, e = .returned (.tuple #[.slice a t.1.length cp, .int .i64 t.2]) ∧ Bt.Bs w' a t.1.length cp t.1 ∧ Below w.heap.size w w'
/-- no bytes: the kind may not tell it -/
theorem refImWrite_no (c m kd : Int) (gw gh : Nat) (hc : Nu.I c) (hm : Nu.I m) (a : Option Addr) (n cap : Nat) (L : List Int) (hn : n ≤ 1000) (hU : ∀ x ∈ L, Pq.Px.U x) (ht : Im.tellV c m (gw : Int) (gh : Int) n L kd = false) (w : World) (hs : SlK .u64 w a n L) :
    Calls Tryz.prog 16 #[agI c m (gw : Int) (gh : Int) (.slice a n cap), .int .i64 kd] w (ImWrR ([], 1) w) := by
  have B := box1 w (.cells #[.int .i64 c, .int .i64 m, .int .i64 gw, .int .i64 gh, .slice a n cap] 33)
  have HT := Lib.hid (refTells_any c m (gw : Int) (gh : Int) hc hm a n cap L (by omega) hU kd _ (hs.below B))
  rw [ht] at HT
  clear ht hs hU hn
  unfold agI at HT ⊢
  unfold ImWrR
  go_enter Tryz.func16, Tryz.ntmps16
  go_wp2_with (go_at_call 52; refine HT.out.mono ?_; rintro e w1 ⟨rfl, hb⟩; replace B := bel_step B hb)
  go_returns
  exact ⟨none, 0, rfl, ⟨⟨rfl, .inl rfl⟩, Nat.le_refl _, by omega, fun x hx => by cases hx⟩, B⟩
section
variable (c m kd : Int) (gw gh : Nat) (hc : Nu.I c) (hm : Nu.I m) (a : Option Addr) (n cap : Nat) (L : List Int) (hn : n ≤ 400) (hN : n = gw * gh) (hU : ∀ x ∈ L, Pq.Px.U x) (ht : Im.tellV c m (gw : Int) (gh : Int) n L kd = true)
include hc hm hn hN hU ht
set_option maxRecDepth 100000 in
set_option maxHeartbeats 4000000 in
theorem refImWrite_plain (hk : kd < 4) (w : World) (hs : SlK .u64 w a n L) :
    Calls Tryz.prog 16 #[agI c m (gw : Int) (gh : Int) (.slice a n cap), .int .i64 kd] w (ImWrR (Im.plainV kd m gw gh L, 0) w) := by
  obtain ⟨hHd, hcc, hfa, hFits, -⟩ := Im.tell_get hU ht
  have hFit := Hj.may_fit hHd
  have hLn : L.length = n := hs.1
  have B := box1 w (.cells #[.int .i64 c, .int .i64 m, .int .i64 gw, .int .i64 gh, .slice a n cap] 33)
  have HT := Lib.hid (refTells_any c m (gw : Int) (gh : Int) hc hm a n cap L (by omega) hU kd _ (hs.below B))
  rw [ht] at HT
  have HW := Lib.hid (refWrite_any _ hFit)
  rw [Hj.wr_may hHd] at HW
  have HP : Hid (∀ W, Below w.heap.size w W → Calls Tryz.prog 54 #[.slice a n cap, agH ⟨kd, (gw : Int), (gh : Int), m⟩] W fun e w' => e = .returned (.tuple #[.string (strOfNums (Pl.wAll ⟨kd, (gw : Int), (gh : Int), m⟩ L L.length)), .int .i64 0]) ∧ Below W.heap.size W w') := Lib.hid fun W hb => by
    have := refWriteP_any a n cap L ⟨kd, (gw : Int), (gh : Int), m⟩ hFit ⟨hHd, by simp only; omega⟩ (by omega) (by simp only; rw [hN]; simp) hU W (hs.below hb)
    unfold Pl.wV at this
    rw [if_pos hfa] at this
    exact this
  have hTs := Hj.text_size hFit
  have hTb := Hj.text_bytes ⟨kd, (gw : Int), (gh : Int), m⟩
  have hAl := Pl.wAll_len (G := ⟨kd, (gw : Int), (gh : Int), m⟩) hU L.length (Nat.le_refl _)
  have hAb := Pl.wAll_bytes hFits L.length (Nat.le_refl _)
  unfold Im.plainV
  obtain ⟨A, hA⟩ : ∃ A, Pl.wAll ⟨kd, (gw : Int), (gh : Int), m⟩ L L.length = A := ⟨_, rfl⟩
  rw [hA] at HP hAl hAb ⊢
  have hUs : (strOfNums A).size = A.length := strOfNums_size _
  have hUb : bytesOf (strOfNums A) = A := bytesOf_strOfNums hAb
  rw [← hTb, ← hUb]
  obtain ⟨T, hT⟩ : ∃ T, Hj.text ⟨kd, (gw : Int), (gh : Int), m⟩ = T := ⟨_, rfl⟩
  rw [hT] at HW hTs ⊢
  obtain ⟨U, hU9⟩ : ∃ U, strOfNums A = U := ⟨_, rfl⟩
  rw [hU9] at HP hUs ⊢
  rw [← bytesOf_append]
  have hTU : T.size + U.size ≤ 100000 := by rw [hUs]; omega
  have hTU2 : (T ++ U).size ≤ 100000 := by rw [ByteArray.size_append]; exact hTU
  unfold agI agH at *
  simp only at HW HP
  clear hHd hcc hfa hFits hFit hLn ht hTb hAl hAb hA hUs hUb hT hU9 hU hn hN hs hTs hc hm
  have HTU := Lib.hid hTU2
  have X := Ib.new w 33 c m (gw : Int) (gh : Int) (.slice a n cap)
  unfold ImWrR
  have hk2 : decide (kd < 4) = true := decide_eq_true hk
  go_enter Tryz.func16, Tryz.ntmps16
  go_wp2_with fail
  refine HT.out.mono ?_
  rintro e w1 ⟨rfl, hb1⟩
  replace X := X.later hb1
  have HB1 := Lib.hid (bel_step (w := w) B hb1)
  obtain ⟨n0, n1, n2, n3, n4⟩ := X.cells
  clear hb1 B HT
  go_upto_region 5 with fail
  have Y := Hb.new w1 112 ⟨kd, (gw : Int), (gh : Int), m⟩
  have hb2 := (Below.refl w1.heap.size w1).alloc (Nat.le_refl _) (.cells #[.int .i64 kd, .int .i64 gw, .int .i64 gh, .int .i64 m] 112)
  simp only at Y
  obtain ⟨yb, hyb⟩ : ∃ yb, w1.heap.size = yb := ⟨_, rfl⟩
  obtain ⟨W2, hW2⟩ : ∃ W2, w1.alloc (.cells #[.int .i64 kd, .int .i64 gw, .int .i64 gh, .int .i64 m] 112) = W2 := ⟨_, rfl⟩
  rw [hW2] at Y hb2
  try rw [hW2]
  rw [hyb] at Y
  try rw [hyb]
  have HB2 := Lib.hid (HB1.out.trans (hb2.mono HB1.out.size))
  replace X := X.later hb2
  clear hW2 hyb hb2 HB1 n0 n1 n2 n3 n4
  obtain ⟨k0, k1, k2, k3⟩ := Y.cells
  simp only at k0 k1 k2 k3
  go_wp2_with fail
  refine (HW.out _).mono ?_
  rintro e w3 ⟨rfl, hb3⟩
  replace X := X.later hb3
  replace Y := Y.later hb3
  have HB3 := Lib.hid (HB2.out.trans (hb3.mono HB2.out.size))
  clear k0 k1 k2 k3 hb3 HB2
  obtain ⟨n0, n1, n2, n3, n4⟩ := X.cells
  obtain ⟨k0, k1, k2, k3⟩ := Y.cells
  simp only at k0 k1 k2 k3
  go_wp2_with fail
  refine (HP.out _ HB3.out).mono ?_
  rintro e w4 ⟨rfl, hb4⟩
  have HB4 := Lib.hid (HB3.out.trans (hb4.mono HB3.out.size))
  clear n0 n1 n2 n3 n4 k0 k1 k2 k3 X Y hb4
  obtain ⟨q1, v1, hq1, hr1, hz1⟩ := Im.conv_rm w4 (T ++ U) HTU.out
  have hL1 : ¬ 9223372036854775807 < T.size + U.size := by omega
  go_wp2_with fail
  go_returns
  exact ⟨_, q1, by rw [bytesOf_length, ByteArray.size_append]; rfl, by rw [bytesOf_length]; exact hr1.1, HB4.out.trans (hz1.mono HB4.out.size)⟩
set_option maxRecDepth 100000 in
set_option maxHeartbeats 4000000 in
theorem refImWrite_raw (hk : 3 < kd) (w : World) (hs : SlK .u64 w a n L) :
    Calls Tryz.prog 16 #[agI c m (gw : Int) (gh : Int) (.slice a n cap), .int .i64 kd] w (ImWrR (Im.rawV kd m gw gh L, 0) w) := by
  obtain ⟨hHd, hcc, hfa, hFits, -⟩ := Im.tell_get hU ht
  have hFit := Hj.may_fit hHd
  have hRM : Rw.May ⟨kd, (gw : Int), (gh : Int), m⟩ := ⟨hHd, by simp only; omega⟩
  have hL : L.length = gw * gh := by rw [hs.1, hN]
  have B := box1 w (.cells #[.int .i64 c, .int .i64 m, .int .i64 gw, .int .i64 gh, .slice a n cap] 33)
  have HT := Lib.hid (refTells_any c m (gw : Int) (gh : Int) hc hm a n cap L (by omega) hU kd _ (hs.below B))
  rw [ht] at HT
  have HW := Lib.hid (refWrite_any _ hFit)
  rw [Hj.wr_may hHd] at HW
  have HP : Hid (∀ W, Below w.heap.size w W → Calls Tryz.prog 55 #[.slice a n cap, agH ⟨kd, (gw : Int), (gh : Int), m⟩] W (RwwR (Rw.wRows ⟨kd, (gw : Int), (gh : Int), m⟩ L gw gh, 0) W)) := Lib.hid fun W hb => by
    have := refRawWrite_any a n cap L ⟨kd, (gw : Int), (gh : Int), m⟩ hFit hRM (by omega) (by simp only; rw [hN]; simp) hU W (hs.below hb)
    rw [Rw.writeT_good hRM hFits rfl rfl hL] at this
    exact this
  have hTs := Hj.text_size hFit
  have hTb := Hj.text_bytes ⟨kd, (gw : Int), (gh : Int), m⟩
  have hRl := Rw.wRows_len hRM hFits rfl hL gh (Nat.le_refl _)
  have hRb := Rw.wRows_in hRM hFits (W := gw) gh
  have hst := Rw.stride_at hRM
  have hgh : gh ≤ 65536 := by have := hRM.m; simp only at this; omega
  have hg1 : 1 ≤ gh := by have := hRM.m; simp only at this; omega
  have hT1 : 1 ≤ (Hj.text ⟨kd, (gw : Int), (gh : Int), m⟩).size := by
    have h := Hj.text_len ⟨kd, (gw : Int), (gh : Int), m⟩
    have : 1 ≤ (Hd.bytes ⟨kd, (gw : Int), (gh : Int), m⟩).length := by unfold Hd.bytes; simp
    omega
  unfold Im.rawV
  obtain ⟨R, hR⟩ : ∃ R, Rw.wRows ⟨kd, (gw : Int), (gh : Int), m⟩ L gw gh = R := ⟨_, rfl⟩
  rw [hR] at HP hRl hRb ⊢
  have hR9 : R.length ≤ 1610612736 := by
    rw [hRl]
    exact Nat.le_trans (Nat.mul_le_mul hgh hst.2.1) (by decide)
  rw [← hTb]
  obtain ⟨T, hT⟩ : ∃ T, Hj.text ⟨kd, (gw : Int), (gh : Int), m⟩ = T := ⟨_, rfl⟩
  rw [hT] at HW hTs hT1 ⊢
  unfold agI agH at *
  unfold RwwR at HP
  simp only at HW HP
  have HRB := Lib.hid hRb
  have HTl : Hid ((bytesOf T ++ R).length = T.size + R.length) := Lib.hid (by rw [List.length_append, bytesOf_length])
  have HTB : Hid (∀ x ∈ bytesOf T, 0 ≤ x ∧ x ≤ 255) := Lib.hid (by rw [← hT, Hj.text_bytes]; exact Hj.bytes_fit _)
  obtain ⟨i0, hi, hz0, hz1, hz2⟩ := info_parts Bt.Tryz.info_byt
  clear hHd hcc hfa hFits hFit hL ht hTb hRl hRb hst hR hT hU hn hN hs hc hm hRM hgh hg1
  have X := Ib.new w 33 c m (gw : Int) (gh : Int) (.slice a n cap)
  unfold ImWrR
  have hk2 : decide (kd < 4) = false := decide_eq_false (by omega)
  go_enter Tryz.func16, Tryz.ntmps16
  go_wp2_with fail
  refine HT.out.mono ?_
  rintro e w1 ⟨rfl, hb1⟩
  replace X := X.later hb1
  have HB1 := Lib.hid (bel_step (w := w) B hb1)
  obtain ⟨n0, n1, n2, n3, n4⟩ := X.cells
  clear hb1 B HT
  go_upto_region 5 with fail
  have Y := Hb.new w1 112 ⟨kd, (gw : Int), (gh : Int), m⟩
  have hb2 := (Below.refl w1.heap.size w1).alloc (Nat.le_refl _) (.cells #[.int .i64 kd, .int .i64 gw, .int .i64 gh, .int .i64 m] 112)
  simp only at Y
  obtain ⟨yb, hyb⟩ : ∃ yb, w1.heap.size = yb := ⟨_, rfl⟩
  obtain ⟨W2, hW2⟩ : ∃ W2, w1.alloc (.cells #[.int .i64 kd, .int .i64 gw, .int .i64 gh, .int .i64 m] 112) = W2 := ⟨_, rfl⟩
  rw [hW2] at Y hb2
  try rw [hW2]
  rw [hyb] at Y
  try rw [hyb]
  have HB2 := Lib.hid (HB1.out.trans (hb2.mono HB1.out.size))
  replace X := X.later hb2
  clear hW2 hyb hb2 HB1 n0 n1 n2 n3 n4
  obtain ⟨k0, k1, k2, k3⟩ := Y.cells
  simp only at k0 k1 k2 k3
  go_wp2_with fail
  refine (HW.out _).mono ?_
  rintro e w3 ⟨rfl, hb3⟩
  replace X := X.later hb3
  replace Y := Y.later hb3
  have HB3 := Lib.hid (HB2.out.trans (hb3.mono HB2.out.size))
  clear k0 k1 k2 k3 hb3 HB2
  obtain ⟨n0, n1, n2, n3, n4⟩ := X.cells
  obtain ⟨k0, k1, k2, k3⟩ := Y.cells
  simp only at k0 k1 k2 k3
  go_wp2_with fail
  refine (HP.out _ HB3.out).mono ?_
  rintro e w4 ⟨ra, rc, rfl, hrs, _, hb4⟩
  have HB4 := Lib.hid (HB3.out.trans (hb4.mono HB3.out.size))
  have HRS := Lib.hid hrs
  clear n0 n1 n2 n3 n4 k0 k1 k2 k3 X Y hb4 hrs HP HW HB3
  obtain ⟨q1, v1, hq1, hr1, hz1'⟩ := Im.conv_rm w4 T (by omega)
  have HR1 := Lib.hid hr1
  have HZ1 := Lib.hid hz1'
  clear hr1 hz1'
  go_wp2_with (first
    | (at_builtin; refine wpList_app rfl _ _ 43 rfl v1.heap.size 5 i0 .u8 1 Tryz.underlying43 hi hz0 hz1 hz2 (.slice none 0 0) 0 [] rfl (World.ownsRow_nil _ _ _ _) (some ⟨w4.heap.size, 0, none⟩) T.size q1 (bytesOf T) rfl HR1.out.1.1 (by unfold maxLen; omega) (by omega) (Nat.le_refl _) ?_; intro v2 w5 hown2 hgrow2 _; have HB5 : Hid (Below v1.heap.size v1 w5) := Lib.hid ((Below.refl _ _).grown hgrow2 (Nat.le_refl _) (fun j ej => by cases ej)); have HO2 : Hid (w5.ownsRow v1.heap.size 5 1 v2 T.size ((bytesOf T).map (Value.int .u8))) := Lib.hid (by simpa using hown2); clear hown2 hgrow2)
    | (at_builtin; refine wpList_app rfl _ _ 43 rfl v1.heap.size 5 i0 .u8 1 Tryz.underlying43 hi hz0 hz1 hz2 v2 T.size ((bytesOf T).map (Value.int .u8)) rfl HO2.out ra R.length rc R rfl ((HRS.out.below HZ1.out).below HB5.out) (by unfold maxLen; omega) (by omega) HB5.out.size ?_; intro v3 w6 hown3 hgrow3 _; have HB6 : Hid (Below v1.heap.size w5 w6) := Lib.hid ((Below.refl _ _).grown hgrow3 HB5.out.size (fun j ej => (HO2.out.lt j ej).1)); obtain ⟨g3, c3, rfl, hs3, hc3, hd3⟩ := rws_app (l := bytesOf T ++ R) (k := T.size + R.length) (by rw [List.map_append]; exact hown3) HTl.out (by omega); have HS3 := Lib.hid hs3; clear hown3 hgrow3 hs3))
  go_returns
  refine ⟨some ⟨g3, 0, none⟩, c3, by rw [HTl.out]; rfl, ?_, HB4.out.trans ((HZ1.out.mono HB4.out.size).trans ((HB5.out.trans HB6.out).mono (Nat.le_trans HB4.out.size HZ1.out.size)))⟩
  rw [HTl.out]
  exact ⟨HS3.out, hc3, hd3, fun x hx => by
    rcases List.mem_append.1 hx with h | h
    · exact HTB.out x h
    · exact HRB.out x h⟩
end
theorem refImWrite_any (c m kd : Int) (gw gh : Nat) (hc : Nu.I c) (hm : Nu.I m) (a : Option Addr) (n cap : Nat) (L : List Int) (hn : n ≤ 400) (hN : n = gw * gh) (hU : ∀ x ∈ L, Pq.Px.U x) (w : World) (hs : SlK .u64 w a n L) :
    Calls Tryz.prog 16 #[agI c m (gw : Int) (gh : Int) (.slice a n cap), .int .i64 kd] w (ImWrR (Im.writeV c m kd gw gh n L) w) := by
  unfold Im.writeV
  cases ht : Im.tellV c m (gw : Int) (gh : Int) n L kd with
  | false => rw [if_neg (by decide)]; exact refImWrite_no c m kd gw gh hc hm a n cap L (by omega) hU ht w hs
  | true =>
    rw [if_pos rfl]
    by_cases hk : kd < 4
    · rw [if_pos hk]; exact refImWrite_plain c m kd gw gh hc hm a n cap L hn hN hU ht hk w hs
    · rw [if_neg hk]; exact refImWrite_raw c m kd gw gh hc hm a n cap L hn hN hU ht (by omega) w hs
end Go.Proofs.YtmnhiagppicegaaGreat

/- Plain facts on an image's bytes: which kinds there are, how many bytes. No condition. -/
namespace Go.Proofs.YtmnhiagppicegaaGreat
open Go.RowKit
set_option linter.unusedVariables false
theorem Im.write_len (c m kd : Int) (gw gh n : Nat) (L : List Int) (hU : ∀ x ∈ L, Pq.Px.U x) (hw : gw ≤ 9) (hh : gh ≤ 9) (hn : L.length = gw * gh) : (Im.writeV c m kd gw gh n L).1.length ≤ 100000 := by
  unfold Im.writeV
  have hL : L.length ≤ 81 := by rw [hn]; exact Nat.mul_le_mul hw hh
  split
  · rename_i ht
    obtain ⟨hHd, hcc, hfa, hFits, -⟩ := Im.tell_get hU ht
    have hFit := Hj.may_fit hHd
    have hTs := Hj.text_size hFit
    rw [Hj.text_len] at hTs
    split
    · show (Im.plainV kd m gw gh L).length ≤ 100000
      unfold Im.plainV
      have hAl := Pl.wAll_len (G := ⟨kd, (gw : Int), (gh : Int), m⟩) hU L.length (Nat.le_refl _)
      rw [List.length_append]; omega
    · show (Im.rawV kd m gw gh L).length ≤ 100000
      unfold Im.rawV
      have hRM : Rw.May ⟨kd, (gw : Int), (gh : Int), m⟩ := ⟨hHd, by simp only; omega⟩
      have hRl := Rw.wRows_len hRM hFits rfl hn gh (Nat.le_refl _)
      have hst : Rw.stride ⟨kd, (gw : Int), (gh : Int), m⟩ ≤ 54 := by
        unfold Rw.stride
        split
        · simp only; omega
        · have h1 := Rw.chan_at ⟨kd, (gw : Int), (gh : Int), m⟩
          have h2 := Rw.wide_at ⟨kd, (gw : Int), (gh : Int), m⟩
          simp only [Int.toNat_natCast]
          rcases h1 with ⟨_, h1⟩ | ⟨_, h1⟩ <;> rcases h2 with ⟨_, h2⟩ | ⟨_, h2⟩ <;> rw [h1, h2] <;> omega
      have hm := Nat.mul_le_mul hh hst
      rw [List.length_append, hRl]; omega
  · simp
theorem Im.slk_put {q : IntKind} {w : World} {a : Option Addr} {n : Nat} {l : List Int} {b : Nat} {k : Nat} {v : Value} (h : SlK q w a n l) (hb : ∀ x, a = some x → x.block ≠ b) : SlK q (w.setCell ⟨b, k, none⟩ v) a n l := by
  obtain ⟨h1, h2⟩ := h
  refine ⟨h1, ?_⟩
  rcases h2 with h2 | ⟨blk, off, ha, hc⟩
  · exact .inl h2
  · refine .inr ⟨blk, off, ha, fun i hi => ?_⟩
    rw [World.cell?_setCell_other _ _ _ _ (fun e => hb _ ha (congrArg Addr.block e).symm)]
    exact hc i hi
end Go.Proofs.YtmnhiagppicegaaGreat

/- Plain facts on an image's bytes: what is parsed of all of them, and of those that are cut off. No condition. -/
namespace Go.Proofs.YtmnhiagppicegaaGreat
open Go.RowKit
set_option linter.unusedVariables false
theorem Im.read_good {G : Hd.H} (hm : Rw.May G) {l : List Int} (hl : Pl.Fits G l) {W H : Nat} (hW : G.w = (W : Int)) (hH : G.h = (H : Int)) (hL : l.length = W * H) (more : List Int) : Rw.readV G (Rw.wRows G l W H ++ more) = (l, 0) := by
  have hlen := Rw.wRows_len hm hl hW hL H (Nat.le_refl _)
  have hsz : Hj.size G = ((Rw.wRows G l W H).length : Int) := by
    rw [Rw.size_eq hm, hH, hlen, Int.natCast_mul]
  rw [Rw.readV_ref hm]
  have e : Rw.badV G (Rw.wRows G l W H ++ more) = 0 := by
    rw [Rw.badV_eq, hsz]
    show Rw.badN G (Rw.wRows G l W H ++ more) (Rw.wRows G l W H).length = 0
    rw [← Rw.bad_none hm hl hL (Rw.wRows G l W H).length (Nat.le_refl _)]
    unfold Rw.badN
    rw [List.take_append_of_le_length (Nat.le_refl _)]
  unfold Rw.refV
  rw [e, if_neg (by omega), if_neg (by rw [hsz, List.length_append]; omega), hH]
  show (Rw.rowsV G _ H, _) = _
  rw [Rw.rows_back hm hl hW hL more H (Nat.le_refl _), List.take_of_length_le (by rw [hL, Nat.mul_comm]; exact Nat.le_refl _)]
section
variable {c m kd : Int} {gw gh n : Nat} {L : List Int} (hU : ∀ x ∈ L, Pq.Px.U x) (ht : Im.tellV c m (gw : Int) (gh : Int) n L kd = true) (hL : L.length = gw * gh)
include hU ht
theorem Im.head_parse (R : List Int) : Hd.parseV (Hd.limits 4096 65536 65535) (Hd.bytes ⟨kd, (gw : Int), (gh : Int), m⟩ ++ R) = (⟨kd, (gw : Int), (gh : Int), m⟩, ((Hd.bytes ⟨kd, (gw : Int), (gh : Int), m⟩).length : Int), 0) := by
  obtain ⟨hHd, hcc, hfa, hFits, -⟩ := Im.tell_get hU ht
  rw [Hj.limits_id (by omega) (by omega) (by omega) (by omega) (by omega) (by omega)]
  have h := hHd
  unfold Hd.May at h
  simp only at h
  exact Hd.parse_bytes hHd (by simp only; omega) (by simp only; omega) (.inr (by simp only; omega)) R
include hL
theorem Im.parse_raw (hk : 3 < kd) : Im.parseV (Hd.limits 4096 65536 65535) (Im.rawV kd m gw gh L) = ⟨c, m, gw, gh, L, ((Im.rawV kd m gw gh L).length : Int), 0⟩ := by
  obtain ⟨hHd, hcc, hfa, hFits, -⟩ := Im.tell_get hU ht
  have hRM : Rw.May ⟨kd, (gw : Int), (gh : Int), m⟩ := ⟨hHd, by simp only; omega⟩
  have hr := Im.read_good hRM hFits rfl rfl hL []
  rw [List.append_nil] at hr
  have hlen := Rw.wRows_len hRM hFits rfl hL gh (Nat.le_refl _)
  have hsz : Hj.size ⟨kd, (gw : Int), (gh : Int), m⟩ = ((Rw.wRows ⟨kd, (gw : Int), (gh : Int), m⟩ L gw gh).length : Int) := by
    rw [Rw.size_eq hRM, hlen, Int.natCast_mul]
  have hI : Im.readV ⟨kd, (gw : Int), (gh : Int), m⟩ ((Im.rawV kd m gw gh L).drop ((Hd.bytes ⟨kd, (gw : Int), (gh : Int), m⟩).length : Int).toNat) = (L, ((Rw.wRows ⟨kd, (gw : Int), (gh : Int), m⟩ L gw gh).length : Int), 0) := by
    unfold Im.rawV Im.readV
    rw [Int.toNat_natCast, List.drop_left, if_pos hk, hr, hsz]
  have := Im.parse_all (Im.head_parse hU ht (Rw.wRows ⟨kd, (gw : Int), (gh : Int), m⟩ L gw gh)) hI
  have e : Im.rawV kd m gw gh L = Hd.bytes ⟨kd, (gw : Int), (gh : Int), m⟩ ++ Rw.wRows ⟨kd, (gw : Int), (gh : Int), m⟩ L gw gh := rfl
  rw [e, this, hcc, List.length_append]
  simp
theorem Im.parse_plain (hk : kd < 4) : ∃ u : Nat, Im.parseV (Hd.limits 4096 65536 65535) (Im.plainV kd m gw gh L) = ⟨c, m, gw, gh, L, (u : Int), 0⟩ ∧ (Im.plainV kd m gw gh L).length ≤ u + 1 := by
  obtain ⟨hHd, hcc, hfa, hFits, -⟩ := Im.tell_get hU ht
  have hPM : Pl.May ⟨kd, (gw : Int), (gh : Int), m⟩ := ⟨hHd, by simp only; omega⟩
  have hq := Pl.sq_all hPM hFits L.length (Nat.le_refl _)
  rw [List.take_length] at hq
  obtain ⟨u, h1, h2, h3⟩ := Pl.read_all hPM hFits rfl rfl hL (b := 1) (es := []) (fun e he => by cases he) hq
  rw [List.nil_append] at h1
  have hI : Im.readV ⟨kd, (gw : Int), (gh : Int), m⟩ ((Im.plainV kd m gw gh L).drop ((Hd.bytes ⟨kd, (gw : Int), (gh : Int), m⟩).length : Int).toNat) = (L, (u : Int), 0) := by
    unfold Im.plainV Im.readV
    rw [Int.toNat_natCast, List.drop_left, if_neg (by simp only; omega), h1]
  have := Im.parse_all (Im.head_parse hU ht (Pl.wAll ⟨kd, (gw : Int), (gh : Int), m⟩ L L.length)) hI
  have e : Im.plainV kd m gw gh L = Hd.bytes ⟨kd, (gw : Int), (gh : Int), m⟩ ++ Pl.wAll ⟨kd, (gw : Int), (gh : Int), m⟩ L L.length := rfl
  refine ⟨(Hd.bytes ⟨kd, (gw : Int), (gh : Int), m⟩).length + u, ?_, ?_⟩
  · rw [e, this, hcc]
    simp
  · rw [e, List.length_append]
    simp only [List.length_nil] at h3
    omega
end
end Go.Proofs.YtmnhiagppicegaaGreat

/- What writes a raster of digits, as a closure over a head, by the code; over any memory. Condition: the head may be. -/
namespace Go.Proofs.YtmnhiagppicegaaGreat
open Go.RowKit
set_option linter.unusedVariables false
theorem Im.writer_pl (h : Hd.H) (hm : Hd.May h) (hk : ¬ 3 < h.kd) (w : World) :
    Calls Tryz.prog 51 #[agH h] w fun e w' => ∃ b, e = .returned (.func (.func 91) #[] #[.pointer (some ⟨b, 0, none⟩)]) ∧ Hb w' b 49 h ∧ Below w.heap.size w w' := by
  have HR := Lib.hid (hraw_any h hm)
  rw [decide_eq_false hk] at HR
  obtain ⟨kd, ww, hh, mx⟩ := h
  have X := Hb.new w 49 ⟨kd, ww, hh, mx⟩
  have hbx := (Below.refl w.heap.size w).alloc (Nat.le_refl _) (.cells #[.int .i64 kd, .int .i64 ww, .int .i64 hh, .int .i64 mx] 49)
  obtain ⟨W, hW⟩ : ∃ W, w.alloc (.cells #[.int .i64 kd, .int .i64 ww, .int .i64 hh, .int .i64 mx] 49) = W := ⟨_, rfl⟩
  simp only at X
  rw [hW] at X hbx
  unfold agH at HR ⊢
  simp only at HR ⊢
  clear hm hk
  go_enter Tryz.func51, Tryz.ntmps51
  go_upto_region 1 with fail
  try rw [hW]
  clear hW
  obtain ⟨l0, l1, l2, l3⟩ := X.cells
  simp only at l0 l1 l2 l3
  go_wp2_with fail
  refine (HR.out _).mono ?_
  rintro e w2 ⟨rfl, hb2⟩
  go_wp2
  go_ret
  exact ⟨_, rfl, X.later hb2, hbx.trans (hb2.mono hbx.size)⟩
theorem Im.raster_pl (a : Option Addr) (n cap : Nat) (R : List Int) (hRb : ∀ x ∈ R, 0 ≤ x ∧ x ≤ 255) (hR9 : R.length ≤ 100000) (h : Hd.H) (b : Nat) (w : World) (X : Hb w b 49 h)
    (HC : ∀ W, Below w.heap.size w W → Calls Tryz.prog 92 #[.slice a n cap, agH h] W fun e w' => e = .returned (.tuple #[.string (strOfNums R), .int .i64 0]) ∧ Below W.heap.size W w') :
    Calls Tryz.prog 91 #[.slice a n cap, .pointer (some ⟨b, 0, none⟩)] w fun e w' => ∃ a' c', e = .returned (.slice a' R.length c') ∧ SlK .u8 w' a' R.length R ∧ Below w.heap.size w w' := by
  have HC := Lib.hid HC
  have HBY : Hid (bytesOf (strOfNums R) = R) := Lib.hid (bytesOf_strOfNums hRb)
  have hTs : (strOfNums R).size = R.length := strOfNums_size _
  have HTS := Lib.hid hTs
  have HR9 := Lib.hid hR9
  obtain ⟨kd, ww, hh, mx⟩ := h
  obtain ⟨U, hU⟩ : ∃ U, strOfNums R = U := ⟨_, rfl⟩
  rw [hU] at HC HBY HTS
  unfold agH at HC
  simp only at HC
  obtain ⟨l0, l1, l2, l3⟩ := X.cells
  simp only at l0 l1 l2 l3
  clear hTs hR9 hU hRb
  go_enter Tryz.func91, Tryz.ntmps91
  go_wp2_with fail
  refine (HC.out _ (.refl _ _)).mono ?_
  rintro e w2 ⟨rfl, hb⟩
  obtain ⟨q1, v1, hq1, hr1, hz1⟩ := Im.conv_rm w2 U (by rw [HTS.out]; exact HR9.out)
  have HB := Lib.hid (hb.trans (hz1.mono hb.size))
  have HR1 := Lib.hid hr1
  clear hb hz1 hr1 l0 l1 l2 l3
  go_wp2
  go_ret
  have h := HR1.out.1.1
  rw [HBY.out] at h
  rw [← HTS.out]
  exact ⟨_, _, rfl, h, HB.out⟩
end Go.Proofs.YtmnhiagppicegaaGreat

/- An append to a string's bytes, and the room that it has then. No condition. -/
namespace Go.Proofs.YtmnhiagppicegaaGreat
open Go.RowKit Go.Shelf
set_option linter.unusedVariables false
def Im.Sc (w : World) (a : Option Addr) (n c : Nat) (l : List Int) : Prop := SlK .u8 w a n l ∧ n ≤ c ∧ c ≤ 9223372036854775807
theorem Im.run_appC {w : World} {b n cap : Nat} {xs : List Int} (h : Im.Rm w b n cap xs) (hn : 1 ≤ n) {a : Option Addr} {m c : Nat} {l : List Int} (hy : SlK .u8 w a m l) (hm : 1 ≤ m) (hl9 : n + m ≤ 1000000) (ty : TypeId) :
    ∃ a' c' w', (Builtin.append_ #[43, 43] ty #[.slice (some ⟨b, 0, none⟩) n cap, .slice a m c]).run Tryz.prog w = .ok (.slice a' (n + m) c') w' ∧ Im.Sc w' a' (n + m) c' (xs ++ l) ∧ ∀ B, B ≤ b → Below B w w' := by
  obtain ⟨i0, hi, hz0, hz1, hz2⟩ := info_parts Bt.Tryz.info_byt
  obtain ⟨⟨⟨hxl, hx⟩, hnc, hcm, hby⟩, hlt, hsp⟩ := h
  obtain ⟨hll, hyc⟩ := hy
  rcases hyc with h0 | ⟨gb, go, rfl, hyc⟩
  · omega
  rcases hx with h0 | ⟨b', o', e', hx⟩
  · omega
  cases e'
  have hnews : ∀ j u, (l.map (Value.int .u8))[j]? = some u → w.cell? ((⟨gb, go, none⟩ : Addr).add j) = some u := fun j u hj => by
    rw [List.getElem?_map] at hj
    have hjm : j < m := by
      rcases Nat.lt_or_ge j m with h | h
      · exact h
      · rw [List.getElem?_eq_none (by omega)] at hj; cases hj
    rw [List.getElem?_eq_getElem (by omega)] at hj
    have := hyc j hjm
    rw [List.getD_eq_getElem?_getD, List.getElem?_eq_getElem (by omega)] at this
    rw [addrK_add, this]; exact hj
  have hone : ∀ u ∈ l.map (Value.int .u8), u.oneCell' = true := fun u hu => by obtain ⟨x, _, rfl⟩ := List.mem_map.1 hu; rfl
  have hlm : (l.map (Value.int .u8)).length = m := by rw [List.length_map, hll]
  by_cases hroom : n + m ≤ cap
  · have hr := run_append_room_src (P := Tryz.prog) w 43 43 ty 5 i0 Tryz.underlying43 hi b 0 n cap (.slice (some ⟨gb, go, none⟩) m c) m (l.map (Value.int .u8)) (Src.ofSlice w Tryz.underlying43 _ m c _ (by rw [hlm, hz1, Nat.mul_one]) hnews hone) hroom
      (fun j hj => by rw [hz1, Nat.mul_one, Nat.zero_add]; exact (hsp (n + j) (by omega) (by omega)).1) (fun j hj => by rw [hz1, Nat.mul_one, Nat.zero_add]; exact (hsp (n + j) (by omega) (by omega)).2)
    rw [hz1, Nat.mul_one, Nat.zero_add] at hr
    refine ⟨_, _, _, hr, ⟨⟨by rw [List.length_append, hxl, hll], .inr ⟨b, 0, rfl, fun i hi2 => ?_⟩⟩, hroom, hcm⟩, fun B hB => Im.below_setCells hB _ _ _⟩
    rw [Nat.zero_add]
    by_cases hin : i < n
    · rw [World.cell?_setCells_out b _ n w ⟨b, i, none⟩ (fun _ _ => .inl hin)]
      have := hx i hin
      rw [Nat.zero_add] at this
      rw [this, List.getD_eq_getElem?_getD, List.getD_eq_getElem?_getD, List.getElem?_append_left (by omega)]
    · obtain ⟨k, rfl⟩ : ∃ k, i = n + k := ⟨i - n, by omega⟩
      have hk : k < (l.map (Value.int .u8)).length := by omega
      rw [World.cell?_setCells_in b _ n w (fun q hq => (hsp (n + q) (by omega) (by omega)).1) k hk, List.getD_eq_getElem?_getD, List.getElem?_append_right (by omega), hxl, Nat.add_sub_cancel_left, List.getElem?_eq_getElem (by omega)]
      simp
  · have holds : ∀ j u, (xs.map (Value.int .u8))[j]? = some u → w.cell? ((⟨b, 0, none⟩ : Addr).add j) = some u := fun j u hj => by
      rw [List.getElem?_map] at hj
      have hjn : j < n := by
        rcases Nat.lt_or_ge j n with h | h
        · exact h
        · rw [List.getElem?_eq_none (by omega)] at hj; cases hj
      rw [List.getElem?_eq_getElem (by omega)] at hj
      have := hx j hjn
      rw [List.getD_eq_getElem?_getD, List.getElem?_eq_getElem (by omega)] at this
      rw [addrK_add, this]; exact hj
    have hr := run_append_grow (P := Tryz.prog) w 43 ty 5 i0 (.int .u8 0) Tryz.underlying43 hi hz0 ⟨b, 0, none⟩ n cap (xs.map (Value.int .u8)) (by rw [List.length_map, hxl, hz1, Nat.mul_one]) holds ⟨gb, go, none⟩ m c (l.map (Value.int .u8)) (by rw [hlm, hz1, Nat.mul_one]) hnews (by omega) (by omega) (by have := Go.Room.nextslicecap_le' (need := n + m) (old := cap) (by omega); rw [hz2]; omega)
    refine ⟨_, _, _, hr, ⟨⟨by rw [List.length_append, hxl, hll], .inr ⟨w.heap.size, 0, rfl, fun i hi2 => ?_⟩⟩, grownCap_ge _ _ _ _, Nat.le_trans (grownCap_le_maxLen _ _ _ _ (by unfold maxLen; omega)) (by unfold maxLen; omega)⟩, fun B hB => ((Below.refl B w).drew).alloc (by show B ≤ w.heap.size; omega) _⟩
    rw [Nat.zero_add]
    have hg : (xs ++ l).length = n + m := by rw [List.length_append, hxl, hll]
    show (w.drew.alloc _).cell? ⟨w.drew.heap.size, i, none⟩ = _
    rw [World.cell?_alloc_at _ _ _ _ rfl]
    rw [Array.getElem?_append_left (by simp [hxl, hll]; omega)]
    rw [List.append_toArray, List.getElem?_toArray, ← List.map_append, List.getElem?_map, List.getElem?_eq_getElem (by omega), List.getD_eq_getElem?_getD, List.getElem?_eq_getElem (by omega)]
    rfl
theorem Im.step_appC {ops : Array Oper} {o : Oper} {a : Act} {w : World} {K : Act → World → Prop} {Q : Exit → Act → World → Prop} {E : Prop} (hgd : o.guard = none) (s x : Operand)
    (ho : o.op = .call { callee := .builtin .append, args := #[s, x], argTypes := #[43, 43] })
    {b n cap : Nat} {xs : List Int} (h : Im.Rm w b n cap xs) (hn : 1 ≤ n) {ad : Option Addr} {m c : Nat} {l : List Int} (hy : SlK .u8 w ad m l) (hm : 1 ≤ m) (hl9 : n + m ≤ 1000000)
    (hs : a.eval s = .slice (some ⟨b, 0, none⟩) n cap) (hx : a.eval x = .slice ad m c)
    (hK : ∀ a' c' w', Im.Sc w' a' (n + m) c' (xs ++ l) → (∀ B, B ≤ b → Below B w w') → K (a.put o.dst (.slice a' (n + m) c')) w') :
    if Region.wanted o (yielded ops a.tmps) = true then Oper.wp Tryz.prog o a w K Q else E := by
  have hw : Region.wanted o (yielded ops a.tmps) = true := by simp [Region.wanted, hgd]
  rw [if_pos hw]
  obtain ⟨a', c', w', hr, h1, h2⟩ := Im.run_appC h hn (c := c) hy hm hl9 o.type
  unfold Oper.wp execOp
  simp only [ho, resolve, invoke, builtin, Sem.run_bind, Sem.run_pure, Result.andThen_ok, List.map_toArray, List.map_cons, List.map_nil, hs, hx, hr]
  exact hK _ _ _ h1 h2
end Go.Proofs.YtmnhiagppicegaaGreat

/- Dark for light: a pixel twice, a whole image's pixels, where one is found in another: plain facts. No condition. -/
namespace Go.Proofs.YtmnhiagppicegaaGreat
set_option linter.unusedVariables false
theorem Im.good_u {c m : Int} {L : List Int} (h : ∀ p ∈ L, Pq.GoodP p c m) : ∀ p ∈ L, Pq.Px.U p := fun p hp => Pq.goodU (h p hp)
end Go.Proofs.YtmnhiagppicegaaGreat
