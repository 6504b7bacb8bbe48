/- A row's pixels, by the document, over any memory. Condition: the head may be, the bytes are a row's. -/
import Derived.Test.YtflpocnbmpdhiaaZgAD
import Derived.Test.YtflpocnbmpdhiaaZBtH
namespace Go.Proofs.Ytflpocnbmpdhiaa
open Go.RowKit
set_option linter.unusedVariables false
namespace Rw
theorem parts_part {k : Nat} {l : List Int} (hl : (parts k l).2 = []) : ∀ t : List Int, t.length < k → parts k (l ++ t) = ((parts k l).1, t) := by
  refine snoc_ind (fun _ => ?_) fun t x ih ht => ?_
  · rw [List.append_nil]; exact Prod.ext rfl hl
  · rw [List.length_append, List.length_singleton] at ht
    have h := ih (by omega)
    rw [← List.append_assoc, parts_wait (by rw [h]; show ¬ t.length + 1 = k; omega), h]
theorem parts_whole {k : Nat} {l t : List Int} (hl : (parts k l).2 = []) (hk : 1 ≤ k) (ht : t.length = k) : parts k (l ++ t) = ((parts k l).1 ++ [t], []) := by
  have hne : t ≠ [] := by intro e; subst e; simp at ht; omega
  obtain ⟨t', x, rfl⟩ : ∃ t' x, t = t' ++ [x] := ⟨_, _, (List.dropLast_concat_getLast hne).symm⟩
  rw [List.length_append, List.length_singleton] at ht
  have h := parts_part hl t' (by omega)
  rw [← List.append_assoc, parts_full (by rw [h]; exact ht), h]
/-- what a row's bytes are as samples, or bits -/
def smpV (h : Hd.H) (bs : List Int) : List Int := if h.kd = 4 then (Bt.bitsOf bs).take h.w.toNat else smp h bs
theorem row_pxs {h : Hd.H} (hm : May h) (bs : List Int) : rowV h bs = pxs h (smpV h bs) := by
  unfold rowV smpV
  by_cases h4 : h.kd = 4
  · rw [if_pos h4, if_pos h4]
    unfold pxs
    rw [(hm.one h4).2.2, parts_one, List.map_map]; rfl
  · rw [if_neg h4, if_neg h4]
theorem pxs_step {h : Hd.H} {L : List Int} {i k : Nat} (hk : chan h = k) (hi : i + k ≤ L.length) (hl : (parts (chan h) (L.take i)).2 = []) : pxs h (L.take (i + k)) = pxs h (L.take i) ++ [pk ((L.drop i).take k)] ∧ (parts (chan h) (L.take (i + k))).2 = [] := by
  have e : L.take (i + k) = L.take i ++ (L.drop i).take k := by rw [List.take_add]
  have hp := parts_whole hl (chan_pos h) (t := (L.drop i).take k) (by rw [List.length_take, List.length_drop]; omega)
  unfold pxs
  rw [e, hp]
  exact ⟨by rw [List.map_append]; rfl, rfl⟩
theorem pxs_end {h : Hd.H} {L : List Int} {i : Nat} (hi : L.length < i + chan h) (hl : (parts (chan h) (L.take i)).2 = []) : pxs h L = pxs h (L.take i) := by
  have hp := parts_part hl (L.drop i) (by rw [List.length_drop]; have := chan_pos h; omega)
  rw [List.take_append_drop] at hp
  unfold pxs; rw [hp]
theorem pxs_le (h : Hd.H) (l : List Int) : (pxs h l).length ≤ l.length := by
  have h1 := pxs_len h l
  have h2 := chan_pos h
  have : (pxs h l).length * 1 ≤ (pxs h l).length * chan h := Nat.mul_le_mul_left _ h2
  omega
theorem sl_part {w : World} {g o n : Nat} {L : List Int} (h : SlK .i64 w (some ⟨g, o, none⟩) n L) {i k : Nat} (hi : i + k ≤ n) : Pq.Sl w (some ⟨g, o + i, none⟩) k ((L.drop i).take k) := by
  refine ⟨by rw [List.length_take, List.length_drop, h.1]; omega, ?_⟩
  rcases h.2 with h0 | ⟨g', o', e, hc⟩
  · exact .inl (by omega)
  · cases e
    refine .inr ⟨g, o + i, rfl, fun j hj => ?_⟩
    have := hc (i + j) (by omega)
    rw [Nat.add_assoc, this, List.getD_eq_getElem?_getD, List.getD_eq_getElem?_getD, List.getElem?_take_of_lt hj, List.getElem?_drop]
end Rw
/-- a row's pixels, told -/
def RowR (w : World) (l : List Int) (n : Nat) (e : Ending) (w' : World) : Prop :=
  ∃ a c, e = .returned (.slice a n c) ∧ SlK .u64 w' a n l ∧ Below w.heap.size w w'
set_option maxRecDepth 100000 in
set_option maxHeartbeats 4000000 in
theorem refRow_1 (g o : Nat) (nb cb : Nat) (bs : List Int) (h : Hd.H) (hm : Rw.May h) (h6 : h.kd ≠ 6) (hnb : nb = Rw.stride h) (w : World) (hs : Bt.Bs w (some ⟨g, o, none⟩) nb cb bs) :
    Calls Try.prog 33 #[.slice (some ⟨g, o, none⟩) nb cb, agH h] w (RowR w (Rw.rowV h bs) (Rw.rowV h bs).length) := by
  have hmm := hm.m
  have hst := Rw.stride_at hm
  rw [Rw.row_pxs hm]
  have hch : Rw.chan h = 1 := by unfold Rw.chan; rw [if_neg h6]
  obtain ⟨L, hL⟩ : ∃ L, Rw.smpV h bs = L := ⟨_, rfl⟩
  rw [hL]
  have hA := fun W hb => refSamples_any (some ⟨g, o, none⟩) nb cb bs (by omega) h W (hs.below hb)
  have hlen : L.length ≤ 24576 := by
    rw [← hL]; unfold Rw.smpV
    split
    · rw [List.length_take]; omega
    · have := Rw.smp_le h bs; rw [hs.1.1] at this; omega
  have hsl := Rw.smp_le h bs
  rw [hs.1.1] at hsl
  obtain ⟨n, hn⟩ : ∃ n, L.length = n := ⟨_, rfl⟩
  rw [hn] at hlen
  have HCH := Lib.hid hch
  obtain ⟨p0, pi, pz0, pz1, pz2⟩ : ∃ i, Try.prog.info? 71 = some i ∧ i.zero = some (.int .u64 0) ∧ i.size = 1 ∧ i.bytes = 8 := (by have h := Try.info_px8; cases hh : Try.prog.info? 71 with | none => rw [hh] at h; cases h | some i => rw [hh] at h; simp at h; exact ⟨i, rfl, h.1, h.2.1, h.2.2⟩)
  have hk6 : (h.kd == 6) = false := by simpa using h6
  have HNL := Lib.hid hn
  unfold agH at hA ⊢
  have HA := Lib.hid hA
  have HS := Lib.hid hs
  have HNB := Lib.hid hnb
  have HMY := Lib.hid hm
  have HLL := Lib.hid hL
  have HWW : Hid (h.w.toNat = h.w) := Lib.hid (by omega)
  have H6 := Lib.hid h6
  obtain ⟨bb, hbb⟩ : ∃ bb, (h.kd == 4) = bb := ⟨_, rfl⟩
  clear hA hs hsl hst hch hmm hm hL hnb hn h6
  go_enter Try.func33, Try.ntmps33
  go_upto_region 1 with fail
  generalize hW : w.alloc (.cells #[.int .i64 h.kd, .int .i64 h.w, .int .i64 h.h, .int .i64 h.m] 25) = w1
  have HN : Hid (Hb w1 w.heap.size 25 h) := by show Hb _ _ _ _; rw [← hW]; exact Hb.new w 25 h
  have HB1 : Hid (Below w.heap.size w w1) := by show Below _ _ _; rw [← hW]; exact box1' _ _
  clear hW
  obtain ⟨n0, n1, n2, n3⟩ := HN.out.cells
  go_upto_if 18 with (go_at_call 59; refine (HA.out _ HB1.out).mono ?_; rintro e w2 ⟨a2, c2, rfl, hs2, hc2, hb2⟩; have HS2 := Lib.hid hs2; have HC2 := Lib.hid hc2; have HN2 := Lib.hid (HN.out.later hb2); have HB2 := Lib.hid (HB1.out.trans (hb2.mono HB1.out.size)); obtain ⟨m0, m1, m2, m3⟩ := HN2.out.cells; clear hs2 hc2 hb2)
  go_cut [5] from 19 to 26 (fun s5 wx => ∃ a c, s5 = .slice a n c ∧ SlK .i64 wx a n L ∧ n ≤ c ∧ Hb wx w.heap.size 25 h ∧ Below w.heap.size w wx)
  case first =>
    cases bb with
    | true =>
      have h4 : h.kd = 4 := by simpa using hbb
      have hst := (Rw.stride_at HMY.out).2.2.1 h4
      have hU := fun W hb => Bt.refUnpack_any (some ⟨g, o, none⟩) nb cb bs h.w W (HS.out.below hb)
      have hbv : Bt.bytesV h.w = (Rw.stride h : Int) := by
        have hmm := HMY.out.m
        unfold Bt.bytesV; rw [if_neg (by omega), hst]
      have hre : Bt.rowE nb h.w = 0 := by
        have hs1 := (Rw.stride_at HMY.out).1
        have h9 := HNB.out
        unfold Bt.rowE; rw [hbv, if_neg (by omega), if_neg (by omega)]
      have hun : Bt.unpackV bs h.w = L := by
        rw [← HLL.out]; unfold Bt.unpackV Rw.smpV
        rw [HS.out.1.1, if_pos hre, if_pos h4]
      rw [hun, hre] at hU
      unfold Bt.UnpR at hU
      rw [HNL.out] at hU
      have HU := Lib.hid hU
      clear h4 hst hbv hre hun hU
      go_wp2_with (go_at_call 61; refine (HU.out _ HB2.out).mono ?_; rintro e w3 ⟨a3, c3, rfl, ho3, hb3⟩; have HO3 := Lib.hid ho3; have HN3 := Lib.hid (HN2.out.later hb3); have HB3 := Lib.hid (HB2.out.trans (hb3.mono HB2.out.size)); clear ho3 hb3)
      go_meet
      case rel =>
        obtain ⟨a', c', hv', hsl'⟩ := sl_of_row (z := 0) rfl HO3.out HNL.out
        cases hv'
        exact ⟨a3, c3, by rfl, hsl', Rw.row_cap HO3.out, HN3.out, HB3.out⟩
    | false =>
      have h4 : h.kd ≠ 4 := by simpa using hbb
      have HL5 : Hid (Rw.smp h bs = L) := Lib.hid (by rw [← HLL.out]; unfold Rw.smpV; rw [if_neg h4])
      clear h4
      go_wp2_with fail
      go_meet
      case rel => exact ⟨a2, c2, by rw [HL5.out, HNL.out], by have h9 := HS2.out; rw [HL5.out, HNL.out] at h9; exact h9, by have h9 := HC2.out; rw [HL5.out, HNL.out] at h9; exact h9, HN2.out, HB2.out⟩
  case rest =>
    obtain ⟨a, c, rfl, hs5, hc5, hN5, hB5⟩ := hcut
    have HS5 := Lib.hid hs5
    have HB5 := Lib.hid hB5
    have HN5 := Lib.hid hN5
    have hcc : (n : Int) ≤ (c : Int) := by omega
    clear n0 n1 n2 n3 m0 m1 m2 m3 hs5 hB5 hN5 HN HB1 HA HS2 HC2 HN2 HB2 HS HMY HLL HNB HWW H6
    obtain ⟨n0, n1, n2, n3⟩ := HN5.out.cells
    go_wp2_with fail
    go_loopw [9, 10] (fun u9 u10 wr => ∃ (i : Nat) (v : Value), i ≤ n ∧ u10 = .int .i64 i ∧ v = u9 ∧ (Rw.parts (Rw.chan h) (L.take i)).2 = [] ∧ wr.ownsRow wc.heap.size 71 1 v (Rw.pxs h (L.take i)).length (pixs (Rw.pxs h (L.take i))) ∧ Below wc.heap.size wc wr) (fun _ u10 _ => n - (intOf u10).toNat)
    case atStart => exact ⟨0, _, Nat.zero_le _, rfl, rfl, rfl, World.ownsRow_nil _ _ _ _, .refl _ _⟩
    case round =>
      obtain ⟨i, v, hi1, rfl, rfl, hrs, hrow, hBc⟩ := hrel
      have HRS := Lib.hid hrs
      have HBC := Lib.hid hBc
      have HRW := Lib.hid hrow
      have hle := Rw.pxs_le h (L.take i)
      rw [List.length_take] at hle
      obtain ⟨m, hmn⟩ : ∃ m, (Rw.pxs h (L.take i)).length = m := ⟨_, rfl⟩
      have HML := Lib.hid hmn
      rw [hmn] at hrow hle
      have HROW := Lib.hid hrow
      have q1 : m + 1 ≤ maxLen := by unfold maxLen; omega
      have q2 : (m + 1) * 8 ≤ 140737488355328 := by omega
      have q3 := hBc.size
      have hsl := HS5.out.below hBc
      clear hrow hrs hle hmn hBc
      by_cases hlt : i + 1 ≤ n
      · have hle : (i : Int) + 1 ≤ (n : Int) := by omega
        have hle2 : (i : Int) + 1 ≤ (c : Int) := by omega
        have hi0 : (0 : Int) ≤ (i : Int) := by omega
        have hi2 : (i : Int) ≤ (i : Int) + 1 := by omega
        obtain ⟨bg, bo, hba, hbc⟩ := Rw.slk_pos hsl (by omega)
        subst hba
        have HPT := Lib.hid (Rw.sl_part hsl hlt)
        have HST := Lib.hid (Rw.pxs_step HCH.out (by rw [HNL.out]; exact hlt) HRS.out)
        obtain ⟨pt, hpt⟩ : ∃ pt, (L.drop i).take 1 = pt := ⟨_, rfl⟩
        rw [hpt] at HPT HST
        obtain ⟨p, hp⟩ : ∃ p, Pq.Px.packV pt = p := ⟨_, rfl⟩
        have HPK : Hid (∀ cq W, Pq.Sl W (some ⟨bg, bo + i, none⟩) 1 pt → Calls Try.prog 62 #[.slice (some ⟨bg, bo + i, none⟩) 1 cq] W fun e w' => e = .returned (.tuple #[.int .u64 p.1, .int .i64 p.2]) ∧ W = w') := Lib.hid fun cq W hW => by
          have h9 := Pq.refPack_any (some ⟨bg, bo + i, none⟩) 1 cq pt W (by omega) hW
          rw [hp] at h9; exact h9
        have HPP : Hid (Rw.pk pt = p.1) := Lib.hid (by unfold Rw.pk; rw [hp])
        clear hbc hsl hp hpt
        go_wp2_with (first | (go_at_call 62; refine (HPK.out _ _ HPT.out).mono ?_; rintro e w9 ⟨rfl, rfl⟩) | (at_builtin; refine Rw.wpList_app1 rfl _ _ 52 rfl wc.heap.size 71 p0 (.int .u64 0) 8 Try.underlying52 pi pz0 rfl pz1 pz2 v m (pixs (Rw.pxs h (L.take i))) rfl (HROW.out.alloc _) wr.heap.size (.int .u64 p.1) rfl rfl (by rw [World.cell?_alloc_at _ _ _ _ rfl]; rfl) q1 q2 (Nat.le_trans q3 (by simp)) ?_; intro v3 w3 hown hgrow hat; have HO3 := Lib.hid hown; have HC3 := Lib.hid ((HBC.out.alloc q3 _).grown hgrow (Nat.le_trans q3 (by simp)) (fun j ej => (HROW.out.lt j ej).1)); clear hown hgrow hat))
        go_roundw
        case rel => exact ⟨i + 1, v3, hlt, by go_num, rfl, HST.out.2, by rw [HST.out.1, List.length_append, HML.out, HPP.out]; have h := HO3.out; unfold pixs at h ⊢; rw [List.map_append]; exact h, HC3.out⟩
        case measure => simp [intOf]; omega
      · have hle : ¬ (i : Int) + 1 ≤ (n : Int) := by omega
        have HE : Hid (Rw.pxs h L = Rw.pxs h (L.take i)) := Lib.hid (Rw.pxs_end (by rw [HNL.out, HCH.out]; omega) HRS.out)
        clear hsl
        go_wp2
        go_ret
        rw [HE.out]
        obtain ⟨a9, c9, rfl, hsl9⟩ := slk_row HRW.out rfl
        exact ⟨a9, c9, rfl, hsl9, HB5.out.trans (Below.mono HBC.out HB5.out.size)⟩
set_option maxRecDepth 100000 in
set_option maxHeartbeats 4000000 in
theorem refRow_3 (g o : Nat) (nb cb : Nat) (bs : List Int) (h : Hd.H) (hm : Rw.May h) (h6 : h.kd = 6) (hnb : nb = Rw.stride h) (w : World) (hs : Bt.Bs w (some ⟨g, o, none⟩) nb cb bs) :
    Calls Try.prog 33 #[.slice (some ⟨g, o, none⟩) nb cb, agH h] w (RowR w (Rw.rowV h bs) (Rw.rowV h bs).length) := by
  have hmm := hm.m
  have hst := Rw.stride_at hm
  rw [Rw.row_pxs hm]
  have hch : Rw.chan h = 3 := by unfold Rw.chan; rw [if_pos h6]
  obtain ⟨L, hL⟩ : ∃ L, Rw.smpV h bs = L := ⟨_, rfl⟩
  rw [hL]
  have hA := fun W hb => refSamples_any (some ⟨g, o, none⟩) nb cb bs (by omega) h W (hs.below hb)
  have hlen : L.length ≤ 24576 := by
    rw [← hL]; unfold Rw.smpV
    split
    · rw [List.length_take]; omega
    · have := Rw.smp_le h bs; rw [hs.1.1] at this; omega
  have hsl := Rw.smp_le h bs
  rw [hs.1.1] at hsl
  obtain ⟨n, hn⟩ : ∃ n, L.length = n := ⟨_, rfl⟩
  rw [hn] at hlen
  have HCH := Lib.hid hch
  obtain ⟨p0, pi, pz0, pz1, pz2⟩ : ∃ i, Try.prog.info? 71 = some i ∧ i.zero = some (.int .u64 0) ∧ i.size = 1 ∧ i.bytes = 8 := (by have h := Try.info_px8; cases hh : Try.prog.info? 71 with | none => rw [hh] at h; cases h | some i => rw [hh] at h; simp at h; exact ⟨i, rfl, h.1, h.2.1, h.2.2⟩)
  have hk6 : (h.kd == 6) = true := by simpa using h6
  have HNL := Lib.hid hn
  unfold agH at hA ⊢
  have HA := Lib.hid hA
  have HS := Lib.hid hs
  have HNB := Lib.hid hnb
  have HMY := Lib.hid hm
  have HLL := Lib.hid hL
  have HWW : Hid (h.w.toNat = h.w) := Lib.hid (by omega)
  have H6 := Lib.hid h6
  obtain ⟨bb, hbb⟩ : ∃ bb, (h.kd == 4) = bb := ⟨_, rfl⟩
  clear hA hs hsl hst hch hmm hm hL hnb hn h6
  go_enter Try.func33, Try.ntmps33
  go_upto_region 1 with fail
  generalize hW : w.alloc (.cells #[.int .i64 h.kd, .int .i64 h.w, .int .i64 h.h, .int .i64 h.m] 25) = w1
  have HN : Hid (Hb w1 w.heap.size 25 h) := by show Hb _ _ _ _; rw [← hW]; exact Hb.new w 25 h
  have HB1 : Hid (Below w.heap.size w w1) := by show Below _ _ _; rw [← hW]; exact box1' _ _
  clear hW
  obtain ⟨n0, n1, n2, n3⟩ := HN.out.cells
  go_upto_if 18 with (go_at_call 59; refine (HA.out _ HB1.out).mono ?_; rintro e w2 ⟨a2, c2, rfl, hs2, hc2, hb2⟩; have HS2 := Lib.hid hs2; have HC2 := Lib.hid hc2; have HN2 := Lib.hid (HN.out.later hb2); have HB2 := Lib.hid (HB1.out.trans (hb2.mono HB1.out.size)); obtain ⟨m0, m1, m2, m3⟩ := HN2.out.cells; clear hs2 hc2 hb2)
  go_cut [5] from 19 to 26 (fun s5 wx => ∃ a c, s5 = .slice a n c ∧ SlK .i64 wx a n L ∧ n ≤ c ∧ Hb wx w.heap.size 25 h ∧ Below w.heap.size w wx)
  case first =>
    have h6 : h.kd = 6 := H6.out
    have h4 : h.kd ≠ 4 := by omega
    cases bb with
    | true => exact absurd (show h.kd = 4 by simpa using hbb) h4
    | false =>
      have HL5 : Hid (Rw.smp h bs = L) := Lib.hid (by rw [← HLL.out]; unfold Rw.smpV; rw [if_neg h4])
      clear h4 h6
      go_wp2_with fail
      go_meet
      case rel => exact ⟨a2, c2, by rw [HL5.out, HNL.out], by have h9 := HS2.out; rw [HL5.out, HNL.out] at h9; exact h9, by have h9 := HC2.out; rw [HL5.out, HNL.out] at h9; exact h9, HN2.out, HB2.out⟩
  case rest =>
    obtain ⟨a, c, rfl, hs5, hc5, hN5, hB5⟩ := hcut
    have HS5 := Lib.hid hs5
    have HB5 := Lib.hid hB5
    have HN5 := Lib.hid hN5
    have hcc : (n : Int) ≤ (c : Int) := by omega
    clear n0 n1 n2 n3 m0 m1 m2 m3 hs5 hB5 hN5 HN HB1 HA HS2 HC2 HN2 HB2 HS HMY HLL HNB HWW H6
    obtain ⟨n0, n1, n2, n3⟩ := HN5.out.cells
    go_wp2_with fail
    go_loopw [9, 10] (fun u9 u10 wr => ∃ (i : Nat) (v : Value), i ≤ n ∧ u10 = .int .i64 i ∧ v = u9 ∧ (Rw.parts (Rw.chan h) (L.take i)).2 = [] ∧ wr.ownsRow wc.heap.size 71 1 v (Rw.pxs h (L.take i)).length (pixs (Rw.pxs h (L.take i))) ∧ Below wc.heap.size wc wr) (fun _ u10 _ => n - (intOf u10).toNat)
    case atStart => exact ⟨0, _, Nat.zero_le _, rfl, rfl, rfl, World.ownsRow_nil _ _ _ _, .refl _ _⟩
    case round =>
      obtain ⟨i, v, hi1, rfl, rfl, hrs, hrow, hBc⟩ := hrel
      have HRS := Lib.hid hrs
      have HBC := Lib.hid hBc
      have HRW := Lib.hid hrow
      have hle := Rw.pxs_le h (L.take i)
      rw [List.length_take] at hle
      obtain ⟨m, hmn⟩ : ∃ m, (Rw.pxs h (L.take i)).length = m := ⟨_, rfl⟩
      have HML := Lib.hid hmn
      rw [hmn] at hrow hle
      have HROW := Lib.hid hrow
      have q1 : m + 1 ≤ maxLen := by unfold maxLen; omega
      have q2 : (m + 1) * 8 ≤ 140737488355328 := by omega
      have q3 := hBc.size
      have hsl := HS5.out.below hBc
      clear hrow hrs hle hmn hBc
      by_cases hlt : i + 3 ≤ n
      · have hle : (i : Int) + 3 ≤ (n : Int) := by omega
        have hle2 : (i : Int) + 3 ≤ (c : Int) := by omega
        have hi0 : (0 : Int) ≤ (i : Int) := by omega
        have hi2 : (i : Int) ≤ (i : Int) + 3 := by omega
        obtain ⟨bg, bo, hba, hbc⟩ := Rw.slk_pos hsl (by omega)
        subst hba
        have HPT := Lib.hid (Rw.sl_part hsl hlt)
        have HST := Lib.hid (Rw.pxs_step HCH.out (by rw [HNL.out]; exact hlt) HRS.out)
        obtain ⟨pt, hpt⟩ : ∃ pt, (L.drop i).take 3 = pt := ⟨_, rfl⟩
        rw [hpt] at HPT HST
        obtain ⟨p, hp⟩ : ∃ p, Pq.Px.packV pt = p := ⟨_, rfl⟩
        have HPK : Hid (∀ cq W, Pq.Sl W (some ⟨bg, bo + i, none⟩) 3 pt → Calls Try.prog 62 #[.slice (some ⟨bg, bo + i, none⟩) 3 cq] W fun e w' => e = .returned (.tuple #[.int .u64 p.1, .int .i64 p.2]) ∧ W = w') := Lib.hid fun cq W hW => by
          have h9 := Pq.refPack_any (some ⟨bg, bo + i, none⟩) 3 cq pt W (by omega) hW
          rw [hp] at h9; exact h9
        have HPP : Hid (Rw.pk pt = p.1) := Lib.hid (by unfold Rw.pk; rw [hp])
        clear hbc hsl hp hpt
        go_wp2_with (first | (go_at_call 62; refine (HPK.out _ _ HPT.out).mono ?_; rintro e w9 ⟨rfl, rfl⟩) | (at_builtin; refine Rw.wpList_app1 rfl _ _ 52 rfl wc.heap.size 71 p0 (.int .u64 0) 8 Try.underlying52 pi pz0 rfl pz1 pz2 v m (pixs (Rw.pxs h (L.take i))) rfl (HROW.out.alloc _) wr.heap.size (.int .u64 p.1) rfl rfl (by rw [World.cell?_alloc_at _ _ _ _ rfl]; rfl) q1 q2 (Nat.le_trans q3 (by simp)) ?_; intro v3 w3 hown hgrow hat; have HO3 := Lib.hid hown; have HC3 := Lib.hid ((HBC.out.alloc q3 _).grown hgrow (Nat.le_trans q3 (by simp)) (fun j ej => (HROW.out.lt j ej).1)); clear hown hgrow hat))
        go_roundw
        case rel => exact ⟨i + 3, v3, hlt, by go_num, rfl, HST.out.2, by rw [HST.out.1, List.length_append, HML.out, HPP.out]; have h := HO3.out; unfold pixs at h ⊢; rw [List.map_append]; exact h, HC3.out⟩
        case measure => simp [intOf]; omega
      · have hle : ¬ (i : Int) + 3 ≤ (n : Int) := by omega
        have HE : Hid (Rw.pxs h L = Rw.pxs h (L.take i)) := Lib.hid (Rw.pxs_end (by rw [HNL.out, HCH.out]; omega) HRS.out)
        clear hsl
        go_wp2
        go_ret
        rw [HE.out]
        obtain ⟨a9, c9, rfl, hsl9⟩ := slk_row HRW.out rfl
        exact ⟨a9, c9, rfl, hsl9, HB5.out.trans (Below.mono HBC.out HB5.out.size)⟩
theorem refRow_any (g o : Nat) (nb cb : Nat) (bs : List Int) (h : Hd.H) (hm : Rw.May h) (hnb : nb = Rw.stride h) (w : World) (hs : Bt.Bs w (some ⟨g, o, none⟩) nb cb bs) :
    Calls Try.prog 33 #[.slice (some ⟨g, o, none⟩) nb cb, agH h] w (RowR w (Rw.rowV h bs) (Rw.rowV h bs).length) := by
  by_cases h6 : h.kd = 6
  · exact refRow_3 g o nb cb bs h hm h6 hnb w hs
  · exact refRow_1 g o nb cb bs h hm h6 hnb w hs
end Go.Proofs.Ytflpocnbmpdhiaa
