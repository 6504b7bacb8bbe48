/- A raster of bytes written by the document, over any memory. Condition: the head may be, there are as many pixels as it has, and not too many. -/
import Derived.Test.YtmnhiagppicegaaGreatZgAG
import Derived.Test.YtmnhiagppicegaaGreatZgAE
import Derived.Test.YtmnhiagppicegaaGreatZgAD
namespace Go.Proofs.YtmnhiagppicegaaGreat
open Go.RowKit
set_option linter.unusedVariables false
/-- a raster's bytes, or none -/
def Rw.writeT (G : Hd.H) (l : List Int) : List Int × Int := if Pl.fitAll G l = true then (if G.kd = 4 then Rw.wRows G l G.w.toNat G.h.toNat else l.flatMap (Rw.bts G), 0) else ([], 1)
def RwwR (t : List Int × Int) (w : World) (e : Ending) (w' : World) : Prop :=
  ∃ a c, e = .returned (.tuple #[.slice a t.1.length c, .int .i64 t.2]) ∧ SlK .u8 w' a t.1.length t.1 ∧ (t.1.length ≤ c ∧ c ≤ 9223372036854775807) ∧ Below w.heap.size w w'
def byts (l : List Int) : List Value := l.map (Value.int .u8)
theorem rww_nil {t : List Int × Int} {e : Int} (ht : t = ([], e)) {w w' : World} (hB : Below w.heap.size w w') : RwwR t w (.returned (.tuple #[.slice none 0 0, .int .i64 e])) w' :=
  ⟨none, 0, by rw [ht]; rfl, by rw [ht]; exact ⟨rfl, .inl rfl⟩, by rw [ht]; exact ⟨Nat.le_refl _, by omega⟩, hB⟩
theorem byt_row {w : World} {base k : Nat} {v : Value} {l : List Int} (hr : w.ownsRow base 5 1 v k (byts l)) (hk : l.length = k) :
    ∃ a c, v = .slice a k c ∧ SlK .u8 w a k l := by
  rcases hr.2 with ⟨rfl, rfl⟩ | ⟨g, cap, cur, rfl, hb, hg, hle, hm, hs, ht⟩
  · exact ⟨none, 0, rfl, hk, .inl rfl⟩
  · refine ⟨_, cap, rfl, hk, .inr ⟨g, 0, rfl, fun i hi => ?_⟩⟩
    have hc := hr.cells (g := g) rfl i (.int .u8 (l.getD i 0)) (by simp [byts, List.getD_eq_getElem?_getD, List.getElem?_eq_getElem (show i < l.length by omega)])
    simpa [addrK_add] using hc
theorem byt_cap {w : World} {base n c : Nat} {e : TypeId} {a : Option Addr} {xs : List Value} (h : w.ownsRow base e 1 (.slice a n c) n xs) : n ≤ c ∧ c ≤ 9223372036854775807 := by
  rcases h.2 with ⟨hv, he⟩ | ⟨g, cap, cur, hv, hb, hg, hle, hm, _⟩
  · cases hv; omega
  · cases hv; unfold maxLen at hm; omega
theorem rww_row {t : List Int × Int} {l : List Int} {e : Int} (ht : t = (l, e)) {w w' : World} {base k : Nat} {v : Value} (hr : w'.ownsRow base 5 1 v k (byts l)) (hk : l.length = k) (hB : Below w.heap.size w w') : RwwR t w (.returned (.tuple #[v, .int .i64 e])) w' := by
  obtain ⟨a, c, rfl, hs⟩ := byt_row hr hk
  have hc := byt_cap hr
  subst hk
  exact ⟨a, c, by rw [ht], by rw [ht]; exact hs, by rw [ht]; exact hc, hB⟩
theorem fits_smp {p c m : Int} (h : Pq.Px.fitsV p c m = true) : (Pq.Px.smp p).length = c.toNat ∧ ∀ s ∈ Pq.Px.smp p, s ≤ m := by
  unfold Pq.Px.fitsV at h
  rw [Bool.and_eq_true, Bool.and_eq_true, List.all_eq_true] at h
  exact ⟨by simpa using h.2.1, fun s hs => by simpa using h.2.2 s hs⟩
/-- numbers of a row that lies apart from another one -/
def RowA (W : World) (v : Value) (g m : Nat) (zs : List Int) : Prop := SlK .i64 W (some ⟨g, 0, none⟩) m zs ∧ g < W.heap.size ∧ v.ownBlock ≠ some g
theorem RowA.later {W W' : World} {v : Value} {g m : Nat} {zs : List Int} (h : RowA W v g m zs) (hb : Below W.heap.size W W') : RowA W' v g m zs := ⟨h.1.below hb, Nat.lt_of_lt_of_le h.2.1 hb.size, h.2.2⟩
theorem RowA.grown {W w' : World} {v v' : Value} {g m : Nat} {zs : List Int} (h : RowA W v g m zs) (hg : W.grownBy w' v.ownBlock) (hat : v'.ownBlock = v.ownBlock ∨ v'.ownBlock = some W.heap.size) : RowA w' v' g m zs := by
  obtain ⟨⟨h1, h2⟩, h3, h4⟩ := h
  refine ⟨⟨h1, ?_⟩, Nat.lt_of_lt_of_le h3 hg.size, ?_⟩
  · rcases h2 with h2 | ⟨b, o, e, hc⟩
    · exact .inl h2
    · refine .inr ⟨b, o, e, fun i hi => ?_⟩
      cases e
      rw [hg.cell_far ⟨g, 0 + i, none⟩ h3 (fun e => h4 e.symm)]
      exact hc i hi
  · intro e
    rcases hat with k | k
    · exact h4 (k.symm.trans e)
    · rw [k] at e; injection e with e; omega
theorem fits_bit {p : Int} (hU : Pq.Px.U p) (h : Pq.Px.fitsV p 1 1 = true) : Rw.s0 p = 0 ∨ Rw.s0 p = 1 := by
  obtain ⟨h1, h2⟩ := fits_smp h
  have h3 := (Pl.smp_in hU).2
  unfold Rw.s0
  have hmem : (Pq.Px.smp p).getD 0 0 ∈ Pq.Px.smp p := getD_mem (by rw [h1]; decide)
  have := h2 _ hmem
  have := h3 _ hmem
  omega
theorem Rw.bts_len {G : Hd.H} {p : Int} {m : Nat} (h : (Pq.Px.smp p).length ≤ m) : (Rw.bts G p).length ≤ 2 * m := by
  unfold Rw.bts
  rw [Rw.flat_len _ fun s _ => Rw.wbs_len G s]
  have := Rw.wide_at G
  have : (Pq.Px.smp p).length * Rw.wide G ≤ m * 2 := Nat.mul_le_mul h (by omega)
  omega
theorem Rw.flat_le {G : Hd.H} : ∀ l : List Int, (∀ p ∈ l, Pq.Px.U p) → (l.flatMap (Rw.bts G)).length ≤ 6 * l.length
  | [], _ => by simp
  | p :: l, hl => by
    have h1 := Rw.bts_len (G := G) (m := 3) (Pl.smp_in (hl p (List.mem_cons_self ..))).1
    have h2 := Rw.flat_le (G := G) l fun q hq => hl q (List.mem_cons_of_mem _ hq)
    rw [List.flatMap_cons, List.length_append, List.length_cons]; omega
set_option maxRecDepth 100000 in
set_option maxHeartbeats 8000000 in
theorem refWrite_1 (a : Option Addr) (n cap : Nat) (l : List Int) (G : Hd.H) (hf : Hj.Fit G) (hm : Rw.May G) (h4 : G.kd ≠ 4) (hwd : Rw.wide G = 1) (hn : n ≤ 1000) (hN : G.w * G.h = (n : Int)) (hl : ∀ p ∈ l, Pq.Px.U p) (w : World) (hs : SlK .u64 w a n l) :
    Calls Tryz.prog 55 #[.slice a n cap, agH G] w (RwwR (Rw.writeT G l) w) := by
  have hmm := hm.m
  have hF := refFormat_any G hm.1
  unfold Hj.fm agH at hF
  have hMY := refRwMay_any G hf
  rw [decide_eq_true hm] at hMY
  unfold agH at hMY
  have HMY := Lib.hid hMY
  have HS := Lib.hid hs
  have HU := Lib.hid hl
  have HL := Lib.hid hs.1
  obtain ⟨V, hV⟩ : ∃ V, Rw.writeT G l = V := ⟨_, rfl⟩
  rw [hV]
  have HV := Lib.hid hV
  obtain ⟨C, hC⟩ : ∃ C, Hj.chan G = C := ⟨_, rfl⟩
  rw [hC] at hF
  have HC := Lib.hid hC
  have HF := Lib.hid hF
  have HM := Lib.hid hm
  have gN : wrap64 (G.w * G.h) = (n : Int) := by rw [hN, IntWalk.wrap64_in] <;> omega
  have gn : ((n : Int) != (n : Int)) = false := by simp
  obtain ⟨b0, hby, hyz0, hyz1, hyz2⟩ : ∃ i, Tryz.prog.info? 5 = some i ∧ i.zero = some (.int .u8 0) ∧ i.size = 1 ∧ i.bytes = 1 := (by have h := Bt.Tryz.info_byt; cases hh : Tryz.prog.info? 5 with | none => rw [hh] at h; cases h | some i => rw [hh] at h; simp at h; exact ⟨i, rfl, h.1, h.2.1, h.2.2⟩)
  have HVV : Hid (V = if Pl.fitAll G l = true then (l.flatMap (Rw.bts G), 0) else ([], 1)) := Lib.hid (by rw [← hV]; unfold Rw.writeT; rw [if_neg h4])
  have hk4 : (G.kd == 4) = false := by simpa using h4
  have HWB : Hid (∀ x, Rw.wbs G x = [x % 256]) := Lib.hid (fun x => by unfold Rw.wbs; rw [hwd]; rfl)
  have HWI := Lib.hid (fun W => refWide_any G W)
  rw [hwd] at HWI
  unfold agH at HWI
  have HW9 : Hid (Rw.wide G = 1) := Lib.hid hwd
  clear hs hl hV hC hF hf hm hMY h4 hwd
  unfold agH
  go_enter Tryz.func55, Tryz.ntmps55
  go_wp2_with fail
  refine (HMY.out _).mono ?_
  rintro e w1 ⟨rfl, hb⟩
  have HB1 := Lib.hid (((Below.refl _ w).alloc (Nat.le_refl _) _).trans (hb.mono (by simp)))
  have HK1 := Lib.hid ((Hb.new w 112 G).later hb)
  clear hb
  obtain ⟨hb0, hh0⟩ : ∃ k, w.heap.size = k := ⟨_, rfl⟩
  rw [hh0] at HK1 ⊢
  have HH0 := Lib.hid hh0
  clear hh0
  obtain ⟨k0, k1, k2, k3⟩ := HK1.out.cells
  go_wp2_with fail
  clear k0 k1 k2 k3 gN gn
  go_loopw [7, 9] (fun u7 u9 wr => ∃ (i : Nat) (v : Value), i ≤ n ∧ u9 = .int .i64 i ∧ v = u7 ∧ (∀ j, j < i → Pq.Px.fitsV (l.getD j 0) C G.m = true) ∧ wr.ownsRow w1.heap.size 5 1 v ((l.take i).flatMap (Rw.bts G)).length (byts ((l.take i).flatMap (Rw.bts G))) ∧ Below w1.heap.size w1 wr) (fun _ u9 _ => n - (intOf u9).toNat)
  case atStart => exact ⟨0, _, Nat.zero_le _, rfl, rfl, (fun j hj => absurd hj (Nat.not_lt_zero _)), World.ownsRow_nil _ _ _ _, .refl _ _⟩
  case round =>
    obtain ⟨i, v, hi, rfl, rfl, hfit, hrow, hB⟩ := hrel
    have HB := Lib.hid hB
    have HFIT := Lib.hid hfit
    obtain ⟨k0, k1, k2, k3⟩ := (HK1.out.later hB).cells
    have HBt := Lib.hid (HB1.out.trans (hB.mono HB1.out.size))
    have hal := Rw.flat_le (G := G) (l.take i) (fun p hp => HU.out p (List.mem_of_mem_take hp))
    rw [List.length_take] at hal
    have hal9 : ((l.take i).flatMap (Rw.bts G)).length ≤ 6000 := by omega
    by_cases hlt : i < n
    · obtain ⟨p, hp⟩ : ∃ p, l.getD i 0 = p := ⟨_, rfl⟩
      have hil : i < l.length := by rw [HL.out]; exact hlt
      have hU : Pq.Px.U p := by rw [← hp]; exact HU.out _ (getD_mem hil)
      have HZ : Hid ((l.take (i + 1)).flatMap (Rw.bts G) = (l.take i).flatMap (Rw.bts G) ++ (Pq.Px.smp p).flatMap (Rw.wbs G)) := Lib.hid (by rw [Rw.take_snoc1 l i hil, List.flatMap_append, hp]; simp [Rw.bts])
      have hsi := Pl.smp_in hU
      have HUP := Lib.hid (fun W => Pq.refUnpack_any p hU W)
      obtain ⟨F, hFv⟩ : ∃ F, Pq.Px.fitsV p C G.m = F := ⟨_, rfl⟩
      have HFT : Hid (∀ W, Calls Tryz.prog 63 #[.int .u64 p, .agg #[.int .i64 C, .int .i64 G.m]] W fun e w' => e = .returned (.bool F) ∧ Below W.heap.size W w') := Lib.hid fun W => by rw [← hFv]; exact Pq.refFits_any p C G.m hU W
      obtain ⟨A, hA⟩ : ∃ A, (l.take i).flatMap (Rw.bts G) = A := ⟨_, rfl⟩
      rw [hA] at hrow HZ hal9
      have HROW := Lib.hid hrow
      have HFS := Lib.hid (fun (h : F = true) => fits_smp (hFv.trans h))
      have HCC : Hid (1 ≤ C.toNat) := Lib.hid (by rw [← HC.out]; rcases Hj.chan_at G with e | e <;> rw [e] <;> decide)
      obtain ⟨zs, hzs⟩ : ∃ zs, Pq.Px.smp p = zs := ⟨_, rfl⟩
      rw [hzs] at HUP hsi HZ HFS
      obtain ⟨m, hm⟩ : ∃ m, zs.length = m := ⟨_, rfl⟩
      have HML := Lib.hid hm
      have hm3 : m ≤ 3 := by have := hsi.1; omega
      have HIN := Lib.hid hsi.2
      have HFF := Lib.hid (show Pq.Px.fitsV (l.getD i 0) C G.m = F by rw [hp]; exact hFv)
      obtain ⟨blk, off, ha, c0⟩ : ∃ blk off, a = some ⟨blk, off, none⟩ ∧ wr.cell? ⟨blk, off + i, none⟩ = some (.int .u64 p) := by
        rcases HS.out.2 with h | ⟨blk, off, rfl, hc⟩
        · omega
        · exact ⟨blk, off, rfl, cell_later HBt.out (by rw [hc i hlt, hp])⟩
      subst ha
      have HIL := Lib.hid hil
      clear hp hU hsi hzs hA hm hil hFv hal hB hfit hrow
      have hBt := Below.refl wr.heap.size wr
      go_wp2_with fail
      go_cut [10] from 33 to 39 (fun s10 wx => s10 = .bool F ∧ Below wr.heap.size wr wx)
      case first =>
        go_region_held3 (fun w' => w'.cell? ⟨hb0, 0, none⟩ = some (.int .i64 G.kd) ∧ w'.cell? ⟨hb0, 1, none⟩ = some (.int .i64 G.w) ∧ w'.cell? ⟨hb0, 2, none⟩ = some (.int .i64 G.h) ∧ w'.cell? ⟨hb0, 3, none⟩ = some (.int .i64 G.m) ∧ w'.cell? ⟨blk, off + i, none⟩ = some (.int .u64 p) ∧ Below wr.heap.size wr w')
          (first | (with_reducible exact ⟨k0, k1, k2, k3, c0, .refl _ _⟩) | exact ⟨k0, k1, k2, k3, c0, ⟨rfl, rfl, rfl, Nat.le_refl _, fun _ _ => rfl⟩⟩ | (go_split_ands; refine ⟨?_, ?_, ?_, ?_, ?_, ?_⟩ <;> assumption) | (go_split_ands; refine ⟨cell_later hb9 ?_, cell_later hb9 ?_, cell_later hb9 ?_, cell_later hb9 ?_, cell_later hb9 ?_, bel_step ?_ hb9⟩ <;> assumption))
          (first
            | (go_at_call 70; go_split_ands; refine (HF.out _).mono ?_; rintro e w9 ⟨rfl, hb9⟩)
            | (go_at_call 63; go_split_ands; refine (HFT.out _).mono ?_; rintro e w9 ⟨rfl, hb9⟩))
        all_goals
          go_wp2_with fail
          go_meet
          case rel => go_split_ands; exact ⟨by rfl, bel_step (by assumption) hb9⟩
      case rest =>
        obtain ⟨rfl, hbx⟩ := hcut
        have HBX := Lib.hid (HB.out.trans (hbx.mono HB.out.size))
        have HBT2 := Lib.hid (HBt.out.trans (hbx.mono HBt.out.size))
        have HROW2 := Lib.hid (below_row HROW.out hbx)
        replace k0 := cell_later hbx k0; replace k1 := cell_later hbx k1; replace k2 := cell_later hbx k2; replace k3 := cell_later hbx k3; replace c0 := cell_later hbx c0
        clear hbx hBt HF HFT HMY
        cases F with
        | false =>
          have HV0 : Hid (V = ([], 1)) := Lib.hid (by rw [HVV.out, Pl.fitAll_no HIL.out (by rw [HC.out]; exact HFF.out)]; rfl)
          go_wp2_with fail
          go_returns
          exact rww_nil HV0.out HBT2.out
        | true =>
          have HFS2 := Lib.hid (HFS.out rfl)
          go_wp2_with fail
          refine (HUP.out _).mono ?_
          rintro e w10 ⟨ad, cc, rfl, hown, hb10⟩
          have hzl : 1 ≤ zs.length := by rw [HFS2.out.1]; exact HCC.out
          rcases hown with h | ⟨g, rfl, hgb, hgl, hgc, _⟩
          · rw [h] at hzl; simp at hzl
          rw [HML.out] at hgc ⊢
          have HRA : Hid (RowA w10 v g m zs) := Lib.hid ⟨⟨HML.out, .inr ⟨g, 0, rfl, fun j hj => by rw [Nat.zero_add]; exact hgc j hj⟩⟩, hgl, fun e => by have := (HROW2.out.lt g e).2; omega⟩
          have HRW10 := Lib.hid (below_row HROW2.out hb10)
          have HB10 := Lib.hid (HBX.out.trans (hb10.mono HBX.out.size))
          clear hgc hgl hgb hzl k0 k1 k2 k3 c0 hb10
          obtain ⟨k0, k1, k2, k3⟩ := (HK1.out.later HB10.out).cells
          go_wp2_with fail
          clear k0 k1 k2 k3
          go_loopw [7, 14] (fun u7 u14 wq => ∃ (k : Nat) (v2 : Value), k ≤ m ∧ u14 = .int .i64 k ∧ v2 = u7 ∧ wq.ownsRow w1.heap.size 5 1 v2 (A ++ (zs.take k).flatMap (Rw.wbs G)).length (byts (A ++ (zs.take k).flatMap (Rw.wbs G))) ∧ RowA wq v2 g m zs ∧ Below w1.heap.size w1 wq) (fun _ u14 _ => m - (intOf u14).toNat)
          case atStart => exact ⟨0, _, Nat.zero_le _, rfl, rfl, by simpa using HRW10.out, HRA.out, HB10.out⟩
          case round =>
            obtain ⟨k, v2, hk, rfl, rfl, hrw, hra, hbq⟩ := hrel
            obtain ⟨k0, k1, k2, k3⟩ := (HK1.out.later hbq).cells
            have HBQ := Lib.hid hbq
            have HRAQ := Lib.hid hra
            have HRWQ := Lib.hid hrw
            have hfl : (A ++ (zs.take k).flatMap (Rw.wbs G)).length ≤ 6006 := by
              rw [List.length_append, Rw.flat_len _ (fun s _ => Rw.wbs_len G s), List.length_take]
              have h9 : min k zs.length * Rw.wide G ≤ 3 * 2 := Nat.mul_le_mul (by have := HML.out; omega) (by rw [HW9.out]; decide)
              omega
            clear hbq hra hrw
            obtain ⟨B, hBv⟩ : ∃ B, A ++ (zs.take k).flatMap (Rw.wbs G) = B := ⟨_, rfl⟩
            rw [hBv] at HRWQ hfl
            obtain ⟨nB, hnB⟩ : ∃ nB, B.length = nB := ⟨_, rfl⟩
            have HNB := Lib.hid hnB
            rw [hnB] at HRWQ hfl
            have HBV := Lib.hid hBv
            have q1 : nB + 1 ≤ maxLen := by unfold maxLen; omega
            have q2 : (nB + 1) * 1 ≤ 140737488355328 := by omega
            have q1' : nB + 1 + 1 ≤ maxLen := by unfold maxLen; omega
            have q2' : (nB + 1 + 1) * 1 ≤ 140737488355328 := by omega
            clear hBv hnB
            by_cases hkm : k < m
            · obtain ⟨x, hx⟩ : ∃ x, zs.getD k 0 = x := ⟨_, rfl⟩
              obtain ⟨x0, x1⟩ := HIN.out x (by rw [← hx]; exact getD_mem (by rw [HML.out]; exact hkm))
              have HX : Hid (A ++ (zs.take (k + 1)).flatMap (Rw.wbs G) = B ++ [x % 256]) := Lib.hid (by rw [Rw.take_snoc1 zs k (by rw [HML.out]; exact hkm), List.flatMap_append, ← List.append_assoc, HBV.out, hx]; simp [HWB.out])
              have hcx : ∀ W, RowA W v2 g m zs → W.cell? ⟨g, k, none⟩ = some (.int .i64 x) := fun W hW => by
                rcases hW.1.2 with h9 | ⟨g', o', e, hc⟩
                · omega
                · cases e
                  have := hc k hkm
                  rw [Nat.zero_add, hx] at this; exact this
              have HCX := Lib.hid hcx
              clear hx hcx
              go_upto_if 77 with (go_at_call 99; refine (HWI.out _).mono ?_; rintro e w11 ⟨rfl, hb11⟩; have HR11 := Lib.hid (HRAQ.out.later hb11); have HW11 := Lib.hid (below_row HRWQ.out hb11); have HB11 := Lib.hid (HBQ.out.trans (hb11.mono HBQ.out.size)); clear hb11)
              have hcx := HCX.out _ HR11.out
              have q3 := HB11.out.size
              have b3 : 0 ≤ x % 256 := by omega
              have b4 : x % 256 ≤ 255 := by omega
              go_wp2_with (at_builtin; refine Rw.wpList_app1 rfl _ _ 43 rfl w1.heap.size 5 b0 (.int .u8 0) 1 Tryz.underlying43 hby hyz0 rfl hyz1 hyz2 v2 nB (byts B) rfl (HW11.out.alloc _) w11.heap.size (.int .u8 (x % 256)) rfl rfl (by rw [World.cell?_alloc_at _ _ _ _ rfl]; rfl) q1 q2 (Nat.le_trans q3 (by simp)) ?_; intro v12 w12 hown hgrow hat; have HO12 := Lib.hid hown; have HB12 := Lib.hid ((HB11.out.alloc q3 _).grown hgrow (Nat.le_trans q3 (by simp)) (fun j ej => (HW11.out.lt j ej).1)); have HR12 := Lib.hid ((HR11.out.later (box1' _ _)).grown hgrow hat); clear hown hgrow hat)
              go_roundw
              case rel => exact ⟨k + 1, v12, hkm, by go_num, rfl, by rw [HX.out, List.length_append, HNB.out]; have h9 := HO12.out; unfold byts at h9 ⊢; rw [List.map_append]; exact h9, HR12.out, HB12.out⟩
              case measure => simp [intOf]; omega
            · obtain rfl : k = m := by omega
              have HXE : Hid ((l.take (i + 1)).flatMap (Rw.bts G) = B) := Lib.hid (by rw [HZ.out, ← HBV.out, List.take_of_length_le (by rw [HML.out]; exact Nat.le_refl _)])
              go_wp2_with fail
              go_roundw
              case rel => exact ⟨i + 1, v2, by omega, by go_num, rfl, (fun j hj => by
                rcases (show j < i ∨ j = i by omega) with h | rfl
                · exact HFIT.out j h
                · exact HFF.out), by rw [HXE.out, HNB.out]; exact HRWQ.out, HBQ.out⟩
              case measure => simp [intOf]; omega
    · obtain rfl : i = n := by omega
      have HV0 : Hid (V = ((l.take i).flatMap (Rw.bts G), 0)) := Lib.hid (by
        rw [HVV.out, Pl.fitAll_yes (fun j hj => by rw [HC.out]; exact hfit j (by rw [← HL.out]; exact hj)), List.take_of_length_le (by rw [HL.out]; exact Nat.le_refl _)]; rfl)
      clear hB
      go_wp2_with fail
      go_returns
      exact rww_row HV0.out hrow rfl HBt.out
set_option maxRecDepth 100000 in
set_option maxHeartbeats 8000000 in
theorem refWrite_2 (a : Option Addr) (n cap : Nat) (l : List Int) (G : Hd.H) (hf : Hj.Fit G) (hm : Rw.May G) (h4 : G.kd ≠ 4) (hwd : Rw.wide G = 2) (hn : n ≤ 1000) (hN : G.w * G.h = (n : Int)) (hl : ∀ p ∈ l, Pq.Px.U p) (w : World) (hs : SlK .u64 w a n l) :
    Calls Tryz.prog 55 #[.slice a n cap, agH G] w (RwwR (Rw.writeT G l) w) := by
  have hmm := hm.m
  have hF := refFormat_any G hm.1
  unfold Hj.fm agH at hF
  have hMY := refRwMay_any G hf
  rw [decide_eq_true hm] at hMY
  unfold agH at hMY
  have HMY := Lib.hid hMY
  have HS := Lib.hid hs
  have HU := Lib.hid hl
  have HL := Lib.hid hs.1
  obtain ⟨V, hV⟩ : ∃ V, Rw.writeT G l = V := ⟨_, rfl⟩
  rw [hV]
  have HV := Lib.hid hV
  obtain ⟨C, hC⟩ : ∃ C, Hj.chan G = C := ⟨_, rfl⟩
  rw [hC] at hF
  have HC := Lib.hid hC
  have HF := Lib.hid hF
  have HM := Lib.hid hm
  have gN : wrap64 (G.w * G.h) = (n : Int) := by rw [hN, IntWalk.wrap64_in] <;> omega
  have gn : ((n : Int) != (n : Int)) = false := by simp
  obtain ⟨b0, hby, hyz0, hyz1, hyz2⟩ : ∃ i, Tryz.prog.info? 5 = some i ∧ i.zero = some (.int .u8 0) ∧ i.size = 1 ∧ i.bytes = 1 := (by have h := Bt.Tryz.info_byt; cases hh : Tryz.prog.info? 5 with | none => rw [hh] at h; cases h | some i => rw [hh] at h; simp at h; exact ⟨i, rfl, h.1, h.2.1, h.2.2⟩)
  have HVV : Hid (V = if Pl.fitAll G l = true then (l.flatMap (Rw.bts G), 0) else ([], 1)) := Lib.hid (by rw [← hV]; unfold Rw.writeT; rw [if_neg h4])
  have hk4 : (G.kd == 4) = false := by simpa using h4
  have HWB : Hid (∀ x, Rw.wbs G x = [x / 256, x % 256]) := Lib.hid (fun x => by unfold Rw.wbs; rw [hwd]; rfl)
  have HWI := Lib.hid (fun W => refWide_any G W)
  rw [hwd] at HWI
  unfold agH at HWI
  have HW9 : Hid (Rw.wide G = 2) := Lib.hid hwd
  clear hs hl hV hC hF hf hm hMY h4 hwd
  unfold agH
  go_enter Tryz.func55, Tryz.ntmps55
  go_wp2_with fail
  refine (HMY.out _).mono ?_
  rintro e w1 ⟨rfl, hb⟩
  have HB1 := Lib.hid (((Below.refl _ w).alloc (Nat.le_refl _) _).trans (hb.mono (by simp)))
  have HK1 := Lib.hid ((Hb.new w 112 G).later hb)
  clear hb
  obtain ⟨hb0, hh0⟩ : ∃ k, w.heap.size = k := ⟨_, rfl⟩
  rw [hh0] at HK1 ⊢
  have HH0 := Lib.hid hh0
  clear hh0
  obtain ⟨k0, k1, k2, k3⟩ := HK1.out.cells
  go_wp2_with fail
  clear k0 k1 k2 k3 gN gn
  go_loopw [7, 9] (fun u7 u9 wr => ∃ (i : Nat) (v : Value), i ≤ n ∧ u9 = .int .i64 i ∧ v = u7 ∧ (∀ j, j < i → Pq.Px.fitsV (l.getD j 0) C G.m = true) ∧ wr.ownsRow w1.heap.size 5 1 v ((l.take i).flatMap (Rw.bts G)).length (byts ((l.take i).flatMap (Rw.bts G))) ∧ Below w1.heap.size w1 wr) (fun _ u9 _ => n - (intOf u9).toNat)
  case atStart => exact ⟨0, _, Nat.zero_le _, rfl, rfl, (fun j hj => absurd hj (Nat.not_lt_zero _)), World.ownsRow_nil _ _ _ _, .refl _ _⟩
  case round =>
    obtain ⟨i, v, hi, rfl, rfl, hfit, hrow, hB⟩ := hrel
    have HB := Lib.hid hB
    have HFIT := Lib.hid hfit
    obtain ⟨k0, k1, k2, k3⟩ := (HK1.out.later hB).cells
    have HBt := Lib.hid (HB1.out.trans (hB.mono HB1.out.size))
    have hal := Rw.flat_le (G := G) (l.take i) (fun p hp => HU.out p (List.mem_of_mem_take hp))
    rw [List.length_take] at hal
    have hal9 : ((l.take i).flatMap (Rw.bts G)).length ≤ 6000 := by omega
    by_cases hlt : i < n
    · obtain ⟨p, hp⟩ : ∃ p, l.getD i 0 = p := ⟨_, rfl⟩
      have hil : i < l.length := by rw [HL.out]; exact hlt
      have hU : Pq.Px.U p := by rw [← hp]; exact HU.out _ (getD_mem hil)
      have HZ : Hid ((l.take (i + 1)).flatMap (Rw.bts G) = (l.take i).flatMap (Rw.bts G) ++ (Pq.Px.smp p).flatMap (Rw.wbs G)) := Lib.hid (by rw [Rw.take_snoc1 l i hil, List.flatMap_append, hp]; simp [Rw.bts])
      have hsi := Pl.smp_in hU
      have HUP := Lib.hid (fun W => Pq.refUnpack_any p hU W)
      obtain ⟨F, hFv⟩ : ∃ F, Pq.Px.fitsV p C G.m = F := ⟨_, rfl⟩
      have HFT : Hid (∀ W, Calls Tryz.prog 63 #[.int .u64 p, .agg #[.int .i64 C, .int .i64 G.m]] W fun e w' => e = .returned (.bool F) ∧ Below W.heap.size W w') := Lib.hid fun W => by rw [← hFv]; exact Pq.refFits_any p C G.m hU W
      obtain ⟨A, hA⟩ : ∃ A, (l.take i).flatMap (Rw.bts G) = A := ⟨_, rfl⟩
      rw [hA] at hrow HZ hal9
      have HROW := Lib.hid hrow
      have HFS := Lib.hid (fun (h : F = true) => fits_smp (hFv.trans h))
      have HCC : Hid (1 ≤ C.toNat) := Lib.hid (by rw [← HC.out]; rcases Hj.chan_at G with e | e <;> rw [e] <;> decide)
      obtain ⟨zs, hzs⟩ : ∃ zs, Pq.Px.smp p = zs := ⟨_, rfl⟩
      rw [hzs] at HUP hsi HZ HFS
      obtain ⟨m, hm⟩ : ∃ m, zs.length = m := ⟨_, rfl⟩
      have HML := Lib.hid hm
      have hm3 : m ≤ 3 := by have := hsi.1; omega
      have HIN := Lib.hid hsi.2
      have HFF := Lib.hid (show Pq.Px.fitsV (l.getD i 0) C G.m = F by rw [hp]; exact hFv)
      obtain ⟨blk, off, ha, c0⟩ : ∃ blk off, a = some ⟨blk, off, none⟩ ∧ wr.cell? ⟨blk, off + i, none⟩ = some (.int .u64 p) := by
        rcases HS.out.2 with h | ⟨blk, off, rfl, hc⟩
        · omega
        · exact ⟨blk, off, rfl, cell_later HBt.out (by rw [hc i hlt, hp])⟩
      subst ha
      have HIL := Lib.hid hil
      clear hp hU hsi hzs hA hm hil hFv hal hB hfit hrow
      have hBt := Below.refl wr.heap.size wr
      go_wp2_with fail
      go_cut [10] from 33 to 39 (fun s10 wx => s10 = .bool F ∧ Below wr.heap.size wr wx)
      case first =>
        go_region_held3 (fun w' => w'.cell? ⟨hb0, 0, none⟩ = some (.int .i64 G.kd) ∧ w'.cell? ⟨hb0, 1, none⟩ = some (.int .i64 G.w) ∧ w'.cell? ⟨hb0, 2, none⟩ = some (.int .i64 G.h) ∧ w'.cell? ⟨hb0, 3, none⟩ = some (.int .i64 G.m) ∧ w'.cell? ⟨blk, off + i, none⟩ = some (.int .u64 p) ∧ Below wr.heap.size wr w')
          (first | (with_reducible exact ⟨k0, k1, k2, k3, c0, .refl _ _⟩) | exact ⟨k0, k1, k2, k3, c0, ⟨rfl, rfl, rfl, Nat.le_refl _, fun _ _ => rfl⟩⟩ | (go_split_ands; refine ⟨?_, ?_, ?_, ?_, ?_, ?_⟩ <;> assumption) | (go_split_ands; refine ⟨cell_later hb9 ?_, cell_later hb9 ?_, cell_later hb9 ?_, cell_later hb9 ?_, cell_later hb9 ?_, bel_step ?_ hb9⟩ <;> assumption))
          (first
            | (go_at_call 70; go_split_ands; refine (HF.out _).mono ?_; rintro e w9 ⟨rfl, hb9⟩)
            | (go_at_call 63; go_split_ands; refine (HFT.out _).mono ?_; rintro e w9 ⟨rfl, hb9⟩))
        all_goals
          go_wp2_with fail
          go_meet
          case rel => go_split_ands; exact ⟨by rfl, bel_step (by assumption) hb9⟩
      case rest =>
        obtain ⟨rfl, hbx⟩ := hcut
        have HBX := Lib.hid (HB.out.trans (hbx.mono HB.out.size))
        have HBT2 := Lib.hid (HBt.out.trans (hbx.mono HBt.out.size))
        have HROW2 := Lib.hid (below_row HROW.out hbx)
        replace k0 := cell_later hbx k0; replace k1 := cell_later hbx k1; replace k2 := cell_later hbx k2; replace k3 := cell_later hbx k3; replace c0 := cell_later hbx c0
        clear hbx hBt HF HFT HMY
        cases F with
        | false =>
          have HV0 : Hid (V = ([], 1)) := Lib.hid (by rw [HVV.out, Pl.fitAll_no HIL.out (by rw [HC.out]; exact HFF.out)]; rfl)
          go_wp2_with fail
          go_returns
          exact rww_nil HV0.out HBT2.out
        | true =>
          have HFS2 := Lib.hid (HFS.out rfl)
          go_wp2_with fail
          refine (HUP.out _).mono ?_
          rintro e w10 ⟨ad, cc, rfl, hown, hb10⟩
          have hzl : 1 ≤ zs.length := by rw [HFS2.out.1]; exact HCC.out
          rcases hown with h | ⟨g, rfl, hgb, hgl, hgc, _⟩
          · rw [h] at hzl; simp at hzl
          rw [HML.out] at hgc ⊢
          have HRA : Hid (RowA w10 v g m zs) := Lib.hid ⟨⟨HML.out, .inr ⟨g, 0, rfl, fun j hj => by rw [Nat.zero_add]; exact hgc j hj⟩⟩, hgl, fun e => by have := (HROW2.out.lt g e).2; omega⟩
          have HRW10 := Lib.hid (below_row HROW2.out hb10)
          have HB10 := Lib.hid (HBX.out.trans (hb10.mono HBX.out.size))
          clear hgc hgl hgb hzl k0 k1 k2 k3 c0 hb10
          obtain ⟨k0, k1, k2, k3⟩ := (HK1.out.later HB10.out).cells
          go_wp2_with fail
          clear k0 k1 k2 k3
          go_loopw [7, 14] (fun u7 u14 wq => ∃ (k : Nat) (v2 : Value), k ≤ m ∧ u14 = .int .i64 k ∧ v2 = u7 ∧ wq.ownsRow w1.heap.size 5 1 v2 (A ++ (zs.take k).flatMap (Rw.wbs G)).length (byts (A ++ (zs.take k).flatMap (Rw.wbs G))) ∧ RowA wq v2 g m zs ∧ Below w1.heap.size w1 wq) (fun _ u14 _ => m - (intOf u14).toNat)
          case atStart => exact ⟨0, _, Nat.zero_le _, rfl, rfl, by simpa using HRW10.out, HRA.out, HB10.out⟩
          case round =>
            obtain ⟨k, v2, hk, rfl, rfl, hrw, hra, hbq⟩ := hrel
            obtain ⟨k0, k1, k2, k3⟩ := (HK1.out.later hbq).cells
            have HBQ := Lib.hid hbq
            have HRAQ := Lib.hid hra
            have HRWQ := Lib.hid hrw
            have hfl : (A ++ (zs.take k).flatMap (Rw.wbs G)).length ≤ 6006 := by
              rw [List.length_append, Rw.flat_len _ (fun s _ => Rw.wbs_len G s), List.length_take]
              have h9 : min k zs.length * Rw.wide G ≤ 3 * 2 := Nat.mul_le_mul (by have := HML.out; omega) (by rw [HW9.out]; decide)
              omega
            clear hbq hra hrw
            obtain ⟨B, hBv⟩ : ∃ B, A ++ (zs.take k).flatMap (Rw.wbs G) = B := ⟨_, rfl⟩
            rw [hBv] at HRWQ hfl
            obtain ⟨nB, hnB⟩ : ∃ nB, B.length = nB := ⟨_, rfl⟩
            have HNB := Lib.hid hnB
            rw [hnB] at HRWQ hfl
            have HBV := Lib.hid hBv
            have q1 : nB + 1 ≤ maxLen := by unfold maxLen; omega
            have q2 : (nB + 1) * 1 ≤ 140737488355328 := by omega
            have q1' : nB + 1 + 1 ≤ maxLen := by unfold maxLen; omega
            have q2' : (nB + 1 + 1) * 1 ≤ 140737488355328 := by omega
            clear hBv hnB
            by_cases hkm : k < m
            · obtain ⟨x, hx⟩ : ∃ x, zs.getD k 0 = x := ⟨_, rfl⟩
              obtain ⟨x0, x1⟩ := HIN.out x (by rw [← hx]; exact getD_mem (by rw [HML.out]; exact hkm))
              have HX : Hid (A ++ (zs.take (k + 1)).flatMap (Rw.wbs G) = B ++ [x / 256, x % 256]) := Lib.hid (by rw [Rw.take_snoc1 zs k (by rw [HML.out]; exact hkm), List.flatMap_append, ← List.append_assoc, HBV.out, hx]; simp [HWB.out])
              have hcx : ∀ W, RowA W v2 g m zs → W.cell? ⟨g, k, none⟩ = some (.int .i64 x) := fun W hW => by
                rcases hW.1.2 with h9 | ⟨g', o', e, hc⟩
                · omega
                · cases e
                  have := hc k hkm
                  rw [Nat.zero_add, hx] at this; exact this
              have HCX := Lib.hid hcx
              clear hx hcx
              go_upto_if 77 with (go_at_call 99; refine (HWI.out _).mono ?_; rintro e w11 ⟨rfl, hb11⟩; have HR11 := Lib.hid (HRAQ.out.later hb11); have HW11 := Lib.hid (below_row HRWQ.out hb11); have HB11 := Lib.hid (HBQ.out.trans (hb11.mono HBQ.out.size)); clear hb11)
              have hcx := HCX.out _ HR11.out
              have q3 := HB11.out.size
              have b1 : 0 ≤ x / 256 := by omega
              have b2 : x / 256 ≤ 255 := by omega
              have b3 : 0 ≤ x % 256 := by omega
              have b4 : x % 256 ≤ 255 := by omega
              go_upto_region 26 with (at_builtin; refine Rw.wpList_app1 rfl _ _ 43 rfl w1.heap.size 5 b0 (.int .u8 0) 1 Tryz.underlying43 hby hyz0 rfl hyz1 hyz2 v2 nB (byts B) rfl (HW11.out.alloc _) w11.heap.size (.int .u8 (x / 256)) rfl rfl (by rw [World.cell?_alloc_at _ _ _ _ rfl]; rfl) q1 q2 (Nat.le_trans q3 (by simp)) ?_; intro v12 w12 hown hgrow hat; have HO12 := Lib.hid hown; have HB12 := Lib.hid ((HB11.out.alloc q3 _).grown hgrow (Nat.le_trans q3 (by simp)) (fun j ej => (HW11.out.lt j ej).1)); have HR12 := Lib.hid ((HR11.out.later (box1' _ _)).grown hgrow hat); clear hown hgrow hat)
              have HO12' : Hid (w12.ownsRow w1.heap.size 5 1 v12 (nB + 1) (byts (B ++ [x / 256]))) := by show World.ownsRow _ _ _ _ _ _ _; have h9 := HO12.out; unfold byts at h9 ⊢; rw [List.map_append]; exact h9
              clear hcx
              have hcx : w12.cell? ⟨g, k, none⟩ = some (.int .i64 x) := by
                rcases HR12.out.1.2 with h9 | ⟨g', o', e, hc⟩
                · omega
                · cases e
                  have h8 := hc k hkm
                  have h7 := HCX.out _ HR11.out
                  rcases HR11.out.1.2 with h9 | ⟨g', o', e, hc2⟩
                  · omega
                  · cases e
                    have h6 := hc2 k hkm
                    rw [Nat.zero_add] at h6 h8
                    rw [h8, ← h6, h7]
              have q4 := HB12.out.size
              go_wp2_with (at_builtin; refine Rw.wpList_app1 rfl _ _ 43 rfl w1.heap.size 5 b0 (.int .u8 0) 1 Tryz.underlying43 hby hyz0 rfl hyz1 hyz2 v12 (nB + 1) (byts (B ++ [x / 256])) rfl (HO12'.out.alloc _) w12.heap.size (.int .u8 (x % 256)) rfl rfl (by rw [World.cell?_alloc_at _ _ _ _ rfl]; rfl) q1' q2' (Nat.le_trans q4 (by simp)) ?_; intro v13 w13 hown hgrow hat; have HO13 := Lib.hid hown; have HB13 := Lib.hid ((HB12.out.alloc q4 _).grown hgrow (Nat.le_trans q4 (by simp)) (fun j ej => (HO12'.out.lt j ej).1)); have HR13 := Lib.hid ((HR12.out.later (box1' _ _)).grown hgrow hat); clear hown hgrow hat)
              go_roundw
              case rel => exact ⟨k + 1, v13, hkm, by go_num, rfl, by rw [HX.out, List.length_append, HNB.out]; have h9 := HO13.out; unfold byts at h9 ⊢; rw [show B ++ [x / 256, x % 256] = (B ++ [x / 256]) ++ [x % 256] by simp, List.map_append]; exact h9, HR13.out, HB13.out⟩
              case measure => simp [intOf]; omega
            · obtain rfl : k = m := by omega
              have HXE : Hid ((l.take (i + 1)).flatMap (Rw.bts G) = B) := Lib.hid (by rw [HZ.out, ← HBV.out, List.take_of_length_le (by rw [HML.out]; exact Nat.le_refl _)])
              go_wp2_with fail
              go_roundw
              case rel => exact ⟨i + 1, v2, by omega, by go_num, rfl, (fun j hj => by
                rcases (show j < i ∨ j = i by omega) with h | rfl
                · exact HFIT.out j h
                · exact HFF.out), by rw [HXE.out, HNB.out]; exact HRWQ.out, HBQ.out⟩
              case measure => simp [intOf]; omega
    · obtain rfl : i = n := by omega
      have HV0 : Hid (V = ((l.take i).flatMap (Rw.bts G), 0)) := Lib.hid (by
        rw [HVV.out, Pl.fitAll_yes (fun j hj => by rw [HC.out]; exact hfit j (by rw [← HL.out]; exact hj)), List.take_of_length_le (by rw [HL.out]; exact Nat.le_refl _)]; rfl)
      clear hB
      go_wp2_with fail
      go_returns
      exact rww_row HV0.out hrow rfl HBt.out
set_option maxRecDepth 100000 in
set_option maxHeartbeats 8000000 in
theorem refWrite_4 (a : Option Addr) (n cap : Nat) (l : List Int) (G : Hd.H) (hf : Hj.Fit G) (hm : Rw.May G) (h4 : G.kd = 4) (hn : n ≤ 1000) (hN : G.w * G.h = (n : Int)) (hl : ∀ p ∈ l, Pq.Px.U p) (w : World) (hs : SlK .u64 w a n l) :
    Calls Tryz.prog 55 #[.slice a n cap, agH G] w (RwwR (Rw.writeT G l) w) := by
  have hmm := hm.m
  have hF := refFormat_any G hm.1
  unfold Hj.fm agH at hF
  have hMY := refRwMay_any G hf
  rw [decide_eq_true hm] at hMY
  unfold agH at hMY
  have HMY := Lib.hid hMY
  have HS := Lib.hid hs
  have HU := Lib.hid hl
  have HL := Lib.hid hs.1
  obtain ⟨V, hV⟩ : ∃ V, Rw.writeT G l = V := ⟨_, rfl⟩
  rw [hV]
  have HV := Lib.hid hV
  obtain ⟨C, hC⟩ : ∃ C, Hj.chan G = C := ⟨_, rfl⟩
  rw [hC] at hF
  have HC := Lib.hid hC
  have HF := Lib.hid hF
  have HM := Lib.hid hm
  have gN : wrap64 (G.w * G.h) = (n : Int) := by rw [hN, IntWalk.wrap64_in] <;> omega
  have gn : ((n : Int) != (n : Int)) = false := by simp
  obtain ⟨b0, hby, hyz0, hyz1, hyz2⟩ : ∃ i, Tryz.prog.info? 5 = some i ∧ i.zero = some (.int .u8 0) ∧ i.size = 1 ∧ i.bytes = 1 := (by have h := Bt.Tryz.info_byt; cases hh : Tryz.prog.info? 5 with | none => rw [hh] at h; cases h | some i => rw [hh] at h; simp at h; exact ⟨i, rfl, h.1, h.2.1, h.2.2⟩)
  obtain ⟨gw, hgw⟩ : ∃ gw : Nat, G.w = (gw : Int) := ⟨G.w.toNat, by omega⟩
  obtain ⟨gh, hgh⟩ : ∃ gh : Nat, G.h = (gh : Int) := ⟨G.h.toNat, by omega⟩
  have hgn : gw * gh = n := by
    have h9 := hN
    rw [hgw, hgh, ← Int.natCast_mul] at h9
    exact Int.ofNat_inj.1 h9
  have HVV : Hid (V = if Pl.fitAll G l = true then (Rw.wRows G l gw gh, 0) else ([], 1)) := Lib.hid (by
    rw [← hV]; unfold Rw.writeT
    rw [if_pos h4, show G.w.toNat = gw by omega, show G.h.toNat = gh by omega])
  have hk4 : (G.kd == 4) = true := by simpa using h4
  have h11 := hm.one h4
  have HM1 : Hid (G.m = 1) := Lib.hid h11.1
  have HC1 : Hid (C = 1) := Lib.hid (by rw [← hC, Rw.chan_eq hm, h11.2.2]; rfl)
  have HGW := Lib.hid hgw
  have HGN := Lib.hid hgn
  have hgw1 : 1 ≤ gw := by omega
  have hgw9 : gw ≤ 4096 := by omega
  have hgh1 : 1 ≤ gh := by omega
  have HWR : Hid (∀ y, Rw.wRows G l gw (y + 1) = Rw.wRows G l gw y ++ Bt.packB (((l.drop (y * gw)).take gw).map Rw.s0)) := Lib.hid fun y => by
    show Rw.wRows G l gw y ++ Rw.rowB G _ = _
    unfold Rw.rowB; rw [if_pos h4]
  obtain ⟨i0, hi8, hz0, hz1, hz2⟩ : ∃ i, Tryz.prog.info? 3 = some i ∧ i.zero = some (.int .i64 0) ∧ i.size = 1 ∧ i.bytes = 8 := (by have h := Tryz.info_in8; cases hh : Tryz.prog.info? 3 with | none => rw [hh] at h; cases h | some i => rw [hh] at h; simp at h; exact ⟨i, rfl, h.1, h.2.1, h.2.2⟩)
  have hne8 : 3 ≠ 5 := by decide
  clear hs hl hV hC hF hf hm hMY h4 hgw hgh hN h11 hmm
  unfold agH
  go_enter Tryz.func55, Tryz.ntmps55
  go_wp2_with fail
  refine (HMY.out _).mono ?_
  rintro e w1 ⟨rfl, hb⟩
  have HB1 := Lib.hid (((Below.refl _ w).alloc (Nat.le_refl _) _).trans (hb.mono (by simp)))
  have HK1 := Lib.hid ((Hb.new w 112 G).later hb)
  clear hb
  obtain ⟨hb0, hh0⟩ : ∃ k, w.heap.size = k := ⟨_, rfl⟩
  rw [hh0] at HK1 ⊢
  have HH0 := Lib.hid hh0
  clear hh0
  obtain ⟨k0, k1, k2, k3⟩ := HK1.out.cells
  go_wp2_with fail
  clear k0 k1 k2 k3 gN gn
  go_loopw [7, 8, 9] (fun u7 u8 u9 wr => ∃ (i : Nat) (v vr : Value), i ≤ n ∧ u9 = .int .i64 i ∧ v = u7 ∧ vr = u8 ∧ (∀ j, j < i → Pq.Px.fitsV (l.getD j 0) C G.m = true) ∧ wr.ownsRow w1.heap.size 5 1 v (Rw.wRows G l gw (i / gw)).length (byts (Rw.wRows G l gw (i / gw))) ∧ wr.ownsRow w1.heap.size 3 1 vr (i % gw) (ints (((l.drop (i / gw * gw)).take (i % gw)).map Rw.s0)) ∧ (Rw.wRows G l gw (i / gw)).length ≤ 4096 * (i / gw) ∧ Below w1.heap.size w1 wr) (fun _ _ u9 _ => n - (intOf u9).toNat)
  case atStart => exact ⟨0, _, _, Nat.zero_le _, rfl, rfl, rfl, (fun j hj => absurd hj (Nat.not_lt_zero _)), by rw [Nat.zero_div]; exact World.ownsRow_nil _ _ _ _, by rw [Nat.zero_mod]; exact World.ownsRow_nil _ _ _ _, by rw [Nat.zero_div]; exact Nat.le_refl _, .refl _ _⟩
  case round =>
    obtain ⟨i, v, vr, hi, rfl, rfl, rfl, hfit, hrow, hrw, hwl, hB⟩ := hrel
    have HB := Lib.hid hB
    have HFIT := Lib.hid hfit
    obtain ⟨k0, k1, k2, k3⟩ := (HK1.out.later hB).cells
    have HBt := Lib.hid (HB1.out.trans (hB.mono HB1.out.size))
    by_cases hlt : i < n
    · obtain ⟨p, hp⟩ : ∃ p, l.getD i 0 = p := ⟨_, rfl⟩
      have hil : i < l.length := by rw [HL.out]; exact hlt
      have hU : Pq.Px.U p := by rw [← hp]; exact HU.out _ (getD_mem hil)
      have hsi := Pl.smp_in hU
      have HUP := Lib.hid (fun W => Pq.refUnpack_any p hU W)
      obtain ⟨F, hFv⟩ : ∃ F, Pq.Px.fitsV p C G.m = F := ⟨_, rfl⟩
      have HFT : Hid (∀ W, Calls Tryz.prog 63 #[.int .u64 p, .agg #[.int .i64 C, .int .i64 G.m]] W fun e w' => e = .returned (.bool F) ∧ Below W.heap.size W w') := Lib.hid fun W => by rw [← hFv]; exact Pq.refFits_any p C G.m hU W
      have HFS := Lib.hid (fun (h : F = true) => fits_smp (hFv.trans h))
      have HROW := Lib.hid hrow
      have HRWI := Lib.hid hrw
      have hdv := Nat.div_le_self i gw
      have hml := Nat.mod_lt i hgw1
      obtain ⟨y, hy⟩ : ∃ y, i / gw = y := ⟨_, rfl⟩
      obtain ⟨r, hr⟩ : ∃ r, i % gw = r := ⟨_, rfl⟩
      have HY := Lib.hid hy
      have HR := Lib.hid hr
      rw [hy] at HROW HRWI hwl hdv
      rw [hr] at HRWI hml
      have hyr : y * gw + r = i := by have := Nat.div_add_mod i gw; rw [hy, hr, Nat.mul_comm] at this; exact this
      have HYR := Lib.hid hyr
      have HLST : Hid (((l.drop (y * gw)).take r).map Rw.s0 ++ [Rw.s0 p] = ((l.drop (y * gw)).take (r + 1)).map Rw.s0) := Lib.hid (by
        have hd : r < (l.drop (y * gw)).length := by rw [List.length_drop]; omega
        have e : (l.drop (y * gw)).getD r 0 = p := by rw [List.getD_eq_getElem?_getD, List.getElem?_drop, hyr, ← List.getD_eq_getElem?_getD, hp]
        rw [Rw.take_snoc1 _ r hd, List.map_append, e]; rfl)
      obtain ⟨q, hq⟩ : ∃ q, ((l.drop (y * gw)).take r).map Rw.s0 = q := ⟨_, rfl⟩
      rw [hq] at HRWI HLST
      obtain ⟨zs, hzs⟩ : ∃ zs, Pq.Px.smp p = zs := ⟨_, rfl⟩
      rw [hzs] at HUP hsi HFS
      have HS0 : Hid (Rw.s0 p = zs.getD 0 0) := Lib.hid (by unfold Rw.s0; rw [hzs])
      have HFF := Lib.hid (show Pq.Px.fitsV (l.getD i 0) C G.m = F by rw [hp]; exact hFv)
      have HIN := Lib.hid hsi.2
      obtain ⟨blk, off, ha, c0⟩ : ∃ blk off, a = some ⟨blk, off, none⟩ ∧ wr.cell? ⟨blk, off + i, none⟩ = some (.int .u64 p) := by
        rcases HS.out.2 with h | ⟨blk, off, rfl, hc⟩
        · omega
        · exact ⟨blk, off, rfl, cell_later HBt.out (by rw [hc i hlt, hp])⟩
      subst ha
      have HIL := Lib.hid hil
      have HDV : Hid (y ≤ 1000) := Lib.hid (by omega)
      have HWL := Lib.hid hwl
      clear hp hU hsi hzs hil hFv hB hfit hrow hrw hq hy hr hdv hyr hwl
      have hBt := Below.refl wr.heap.size wr
      go_wp2_with fail
      go_cut [10] from 33 to 39 (fun s10 wx => s10 = .bool F ∧ Below wr.heap.size wr wx)
      case first =>
        go_region_held3 (fun w' => w'.cell? ⟨hb0, 0, none⟩ = some (.int .i64 G.kd) ∧ w'.cell? ⟨hb0, 1, none⟩ = some (.int .i64 G.w) ∧ w'.cell? ⟨hb0, 2, none⟩ = some (.int .i64 G.h) ∧ w'.cell? ⟨hb0, 3, none⟩ = some (.int .i64 G.m) ∧ w'.cell? ⟨blk, off + i, none⟩ = some (.int .u64 p) ∧ Below wr.heap.size wr w')
          (first | (with_reducible exact ⟨k0, k1, k2, k3, c0, .refl _ _⟩) | exact ⟨k0, k1, k2, k3, c0, ⟨rfl, rfl, rfl, Nat.le_refl _, fun _ _ => rfl⟩⟩ | (go_split_ands; refine ⟨?_, ?_, ?_, ?_, ?_, ?_⟩ <;> assumption) | (go_split_ands; refine ⟨cell_later hb9 ?_, cell_later hb9 ?_, cell_later hb9 ?_, cell_later hb9 ?_, cell_later hb9 ?_, bel_step ?_ hb9⟩ <;> assumption))
          (first
            | (go_at_call 70; go_split_ands; refine (HF.out _).mono ?_; rintro e w9 ⟨rfl, hb9⟩)
            | (go_at_call 63; go_split_ands; refine (HFT.out _).mono ?_; rintro e w9 ⟨rfl, hb9⟩))
        all_goals
          go_wp2_with fail
          go_meet
          case rel => go_split_ands; exact ⟨by rfl, bel_step (by assumption) hb9⟩
      case rest =>
        obtain ⟨rfl, hbx⟩ := hcut
        have HBX := Lib.hid (HB.out.trans (hbx.mono HB.out.size))
        have HBT2 := Lib.hid (HBt.out.trans (hbx.mono HBt.out.size))
        have HROW2 := Lib.hid (below_row HROW.out hbx)
        have HRWI2 := Lib.hid (below_row HRWI.out hbx)
        replace k0 := cell_later hbx k0; replace k1 := cell_later hbx k1; replace k2 := cell_later hbx k2; replace k3 := cell_later hbx k3; replace c0 := cell_later hbx c0
        clear hbx hBt HF HFT HMY
        cases F with
        | false =>
          have HV0 : Hid (V = ([], 1)) := Lib.hid (by rw [HVV.out, Pl.fitAll_no HIL.out (by rw [HC.out]; exact HFF.out)]; rfl)
          go_wp2_with fail
          go_returns
          exact rww_nil HV0.out HBT2.out
        | true =>
          have HFS2 := Lib.hid (HFS.out rfl)
          have HZL : Hid (zs.length = 1) := Lib.hid (by rw [HFS2.out.1, HC1.out]; rfl)
          go_wp2_with fail
          refine (HUP.out _).mono ?_
          rintro e w10 ⟨ad, cc, rfl, hown, hb10⟩
          rcases hown with h | ⟨g, rfl, hgb, hgl, hgc, _⟩
          · have := HZL.out; rw [h] at this; cases this
          rw [HZL.out] at hgc ⊢
          have hcell := hgc 0 (by omega)
          have HO01 : Hid (Rw.s0 p = 0 ∨ Rw.s0 p = 1) := Lib.hid (by
            have hmem : zs.getD 0 0 ∈ zs := getD_mem (by rw [HZL.out]; decide)
            have h1 := HFS2.out.2 _ hmem
            have h2 := HIN.out _ hmem
            rw [HS0.out]
            rw [HM1.out] at h1
            omega)
          rw [← HS0.out] at hcell
          obtain ⟨x, hx⟩ : ∃ x, Rw.s0 p = x := ⟨_, rfl⟩
          rw [hx] at hcell HLST HO01
          have HROWA := Lib.hid (below_row HROW2.out hb10)
          have HRWIA := Lib.hid (below_row HRWI2.out hb10)
          have HB10 := Lib.hid (HBX.out.trans (hb10.mono HBX.out.size))
          clear hgc hgl hgb k0 k1 k2 k3 c0 hb10 hx
          obtain ⟨k0, k1, k2, k3⟩ := (HK1.out.later HB10.out).cells
          have q3 := HB10.out.size
          have q1 : r + 1 ≤ maxLen := by unfold maxLen; omega
          have q2 : (r + 1) * 8 ≤ 140737488355328 := by omega
          go_upto_region 17 with (at_builtin; refine Rw.wpList_app1 rfl _ _ 22 rfl w1.heap.size 3 i0 (.int .i64 0) 8 Tryz.underlying22 hi8 hz0 rfl hz1 hz2 vr r (ints q) rfl (HRWIA.out.alloc _) w10.heap.size (.int .i64 x) rfl rfl (by rw [World.cell?_alloc_at _ _ _ _ rfl]; rfl) q1 q2 (Nat.le_trans q3 (by simp)) ?_; intro v12 w12 hown hgrow hat; have HO12 := Lib.hid hown; have HB12 := Lib.hid ((HB10.out.alloc q3 _).grown hgrow (Nat.le_trans q3 (by simp)) (fun j ej => (HRWIA.out.lt j ej).1)); have HR12 := Lib.hid ((HROWA.out.alloc (.cells #[.int .i64 x] 3)).kept hgrow (apart_rows (Ne.symm hne8) HROWA.out HRWIA.out)); obtain ⟨g12, c12, rfl⟩ := Rw.own_pos hown; clear hown hgrow hat)
          have HQ12 : Hid (w12.ownsRow w1.heap.size 3 1 (.slice (some ⟨g12, 0, none⟩) (r + 1) c12) (r + 1) (ints (((l.drop (y * gw)).take (r + 1)).map Rw.s0))) := by show World.ownsRow _ _ _ _ _ _ _; rw [← HLST.out]; have h9 := HO12.out; unfold ints at h9 ⊢; rw [List.map_append]; exact h9
          clear k0 k1 k2 k3 hcell
          obtain ⟨k0, k1, k2, k3⟩ := (HK1.out.later HB12.out).cells
          have hyN : y * gw + r < n := by have := HYR.out; omega
          by_cases hrw2 : r + 1 = gw
          · have hgq : ((r : Int) + 1 == G.w) = true := by rw [HGW.out]; simp; omega
            have hei : i % gw + 1 = gw := by rw [HR.out]; exact hrw2
            obtain ⟨d1, d2⟩ := Rw.dm_eq hei
            rw [HY.out] at d1
            have HD1 := Lib.hid d1
            have HD2 := Lib.hid d2
            have hON : Bt.Ones (((l.drop (y * gw)).take (r + 1)).map Rw.s0) := by
              intro z hz
              obtain ⟨p', hp', rfl⟩ := List.mem_map.1 hz
              obtain ⟨t, ht, rfl⟩ := List.mem_iff_getElem.1 hp'
              rw [List.length_take, List.length_drop] at ht
              have hle : y * gw + t < l.length := by omega
              have e : ((l.drop (y * gw)).take (r + 1))[t] = l.getD (y * gw + t) 0 := by
                rw [List.getElem_take, List.getElem_drop, List.getD_eq_getElem?_getD, List.getElem?_eq_getElem hle]; rfl
              rw [e]
              have hf : Pq.Px.fitsV (l.getD (y * gw + t) 0) C G.m = true := by
                have h9 := HYR.out
                rcases (show y * gw + t < i ∨ y * gw + t = i by omega) with h | h
                · exact HFIT.out _ h
                · rw [h]; exact HFF.out
              rw [HC1.out, HM1.out] at hf
              exact fits_bit (HU.out _ (getD_mem hle)) hf
            have hQL : (((l.drop (y * gw)).take (r + 1)).map Rw.s0).length = r + 1 := by
              rw [List.length_map, List.length_take, List.length_drop]
              have h8 := HGN.out
              have h9 := HYR.out
              have h7 := HL.out
              have h6 : y < gh := by
                rcases Nat.lt_or_ge y gh with h | h
                · exact h
                · have := Nat.mul_le_mul_left gw h
                  rw [Nat.mul_comm gw y] at this; omega
              have h5 : (y + 1) * gw ≤ gh * gw := Nat.mul_le_mul_right gw h6
              rw [Nat.add_mul, Nat.one_mul, Nat.mul_comm gh gw] at h5
              omega
            have hwr : Rw.wRows G l gw (y + 1) = Rw.wRows G l gw y ++ Bt.packB (((l.drop (y * gw)).take (r + 1)).map Rw.s0) := by
              rw [show (l.drop (y * gw)).take (r + 1) = (l.drop (y * gw)).take gw by rw [hrw2]]
              exact HWR.out y
            obtain ⟨Q, hQ⟩ : ∃ Q, ((l.drop (y * gw)).take (r + 1)).map Rw.s0 = Q := ⟨_, rfl⟩
            rw [hQ] at hwr hON hQL HQ12
            have hok : Bt.packOk Q = true := by
              unfold Bt.packOk
              rw [Bool.and_eq_true, Bool.and_eq_true]
              exact ⟨⟨decide_eq_true (by omega), decide_eq_true (by omega)⟩, decide_eq_true hON⟩
            have hpv : Bt.packV Q = Bt.packB Q := by unfold Bt.packV; rw [if_pos hok]
            have hpe : Bt.packE Q = 0 := by unfold Bt.packE; rw [if_pos hok]
            have hpl := Bt.packB_len ((gw + 7) / 8) Q (by omega) (by omega)
            have hsl : SlK .i64 w12 (some ⟨g12, 0, none⟩) (r + 1) Q := by
              obtain ⟨a', c', hv', hs'⟩ := sl_of_row (z := 0) rfl HQ12.out hQL
              cases hv'; exact hs'
            have hPK := Bt.refPack_any (some ⟨g12, 0, none⟩) (r + 1) c12 Q w12 (by omega) (fun z hz => by rcases hON z hz with e | e <;> rw [e] <;> decide) hsl
            unfold Bt.PackR at hPK
            rw [hpv, hpe] at hPK
            obtain ⟨bb, hbb⟩ : ∃ bb, (Bt.packB Q).length = bb := ⟨_, rfl⟩
            rw [hbb] at hPK hpl
            have HPK := Lib.hid hPK
            have HBB := Lib.hid hbb
            have HWY := Lib.hid hwr
            have hwl := HWL.out
            obtain ⟨nW, hnW⟩ : ∃ nW, (Rw.wRows G l gw y).length = nW := ⟨_, rfl⟩
            rw [hnW] at hwl
            have HNW := Lib.hid hnW
            have HRW3 : Hid (w12.ownsRow w1.heap.size 5 1 v nW (byts (Rw.wRows G l gw y))) := by show World.ownsRow _ _ _ _ _ _ _; have h9 := HR12.out; rw [hnW] at h9; exact h9
            have hdv := HDV.out
            have m1 : nW + bb ≤ maxLen := by unfold maxLen; omega
            have m2 : (nW + bb) * 1 ≤ 140737488355328 := by omega
            have HLB : Hid (nW + bb ≤ 4096 * (y + 1)) := Lib.hid (by omega)
            clear hPK hbb hwr hnW hsl hpl hpv hpe hok hQ hON hQL hwl hyN d1 d2 hei hdv hrw2
            go_wp2_with (first
              | (go_at_call 98; refine HPK.out.mono ?_; rintro e w13 ⟨a13, c13, rfl, ho13, hb13⟩; have HRW4 := Lib.hid (below_row HRW3.out hb13); have HB13 := Lib.hid (HB12.out.trans (hb13.mono HB12.out.size)); obtain ⟨a14, c14, hv14, hs14⟩ := byt_row ho13 HBB.out; cases hv14; have HS14 := Lib.hid hs14; clear ho13 hb13 hs14)
              | (at_builtin; refine wpList_app rfl _ _ 43 rfl w1.heap.size 5 b0 .u8 1 Tryz.underlying43 hby hyz0 hyz1 hyz2 v nW (byts (Rw.wRows G l gw y)) rfl HRW4.out a13 bb c13 (Bt.packB Q) rfl HS14.out m1 m2 HB13.out.size ?_; intro v15 w15 hown hgrow hat; have HO15 := Lib.hid hown; have HB15 := Lib.hid (HB13.out.grown hgrow HB13.out.size (fun j ej => (HRW4.out.lt j ej).1)); clear hown hgrow hat))
            go_roundw
            case rel => exact ⟨i + 1, v15, _, hlt, by go_num, rfl, rfl, (fun j hj => by
              rcases (show j < i ∨ j = i by omega) with h | rfl
              · exact HFIT.out j h
              · exact HFF.out), by rw [HD1.out, HWY.out, List.length_append, HNW.out, HBB.out]; have h9 := HO15.out; unfold byts at h9 ⊢; rw [List.map_append]; exact h9, by rw [HD2.out, List.take_zero]; exact World.ownsRow_nil _ _ _ _, by rw [HD1.out, HWY.out, List.length_append, HNW.out, HBB.out]; exact HLB.out, HB15.out⟩
            case measure => simp [intOf]; omega
          · have hgq : ((r : Int) + 1 == G.w) = false := by rw [HGW.out]; simp; omega
            obtain ⟨d1, d2⟩ := Rw.dm_lt (i := i) (W := gw) (by rw [HR.out]; omega)
            rw [HY.out] at d1
            rw [HR.out] at d2
            have HD1 := Lib.hid d1
            have HD2 := Lib.hid d2
            clear d1 d2 hyN
            go_wp2_with fail
            go_roundw
            case rel => exact ⟨i + 1, v, _, hlt, by go_num, rfl, rfl, (fun j hj => by
              rcases (show j < i ∨ j = i by omega) with h | rfl
              · exact HFIT.out j h
              · exact HFF.out), by rw [HD1.out]; exact HR12.out, by rw [HD1.out, HD2.out]; exact HQ12.out, by rw [HD1.out]; exact HWL.out, HB12.out⟩
            case measure => simp [intOf]; omega
    · obtain rfl : i = n := by omega
      have hdq : i / gw = gh := by rw [← HGN.out, Nat.mul_div_cancel_left _ hgw1]
      have HV0 : Hid (V = (Rw.wRows G l gw gh, 0)) := Lib.hid (by
        rw [HVV.out, Pl.fitAll_yes (fun j hj => by rw [HC.out]; exact hfit j (by rw [← HL.out]; exact hj))]; rfl)
      rw [hdq] at hrow
      clear hB
      go_wp2_with fail
      go_returns
      exact rww_row HV0.out hrow rfl HBt.out
theorem refRawWrite_any (a : Option Addr) (n cap : Nat) (l : List Int) (G : Hd.H) (hf : Hj.Fit G) (hm : Rw.May G) (hn : n ≤ 1000) (hN : G.w * G.h = (n : Int)) (hl : ∀ p ∈ l, Pq.Px.U p) (w : World) (hs : SlK .u64 w a n l) :
    Calls Tryz.prog 55 #[.slice a n cap, agH G] w (RwwR (Rw.writeT G l) w) := by
  by_cases h4 : G.kd = 4
  · exact refWrite_4 a n cap l G hf hm h4 hn hN hl w hs
  · rcases Rw.wide_at G with ⟨_, hw⟩ | ⟨_, hw⟩
    · exact refWrite_2 a n cap l G hf hm h4 hw hn hN hl w hs
    · exact refWrite_1 a n cap l G hf hm h4 hw hn hN hl w hs
theorem Rw.fits_all {G : Hd.H} (hm : Rw.May G) {l : List Int} (hl : Pl.Fits G l) : Pl.fitAll G l = true := by
  have hmm := hm.m
  unfold Pl.fitAll
  rw [List.all_eq_true]
  exact fun p hp => Pl.fits_true (hl p hp) (by omega) (by omega)
theorem Rw.writeT_good {G : Hd.H} (hm : Rw.May G) {l : List Int} (hl : Pl.Fits G l) {W H : Nat} (hW : G.w = (W : Int)) (hH : G.h = (H : Int)) (hL : l.length = W * H) : Rw.writeT G l = (Rw.wRows G l W H, 0) := by
  unfold Rw.writeT
  rw [if_pos (Rw.fits_all hm hl), show G.w.toNat = W by omega, show G.h.toNat = H by omega]
  by_cases h4 : G.kd = 4
  · rw [if_pos h4]
  · rw [if_neg h4, Rw.wRows_flat l W h4 H, List.take_of_length_le (by rw [hL, Nat.mul_comm]; exact Nat.le_refl _)]
end Go.Proofs.YtmnhiagppicegaaGreat
