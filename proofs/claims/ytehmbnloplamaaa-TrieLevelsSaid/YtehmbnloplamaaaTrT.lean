/- begin: a tree of words, by the code and by the document. No condition. -/
import Derived.Test.YtehmbnloplamaaaTrTf
namespace Go.Proofs.Ytehmbnloplamaaa
open Go.RowKit
set_option linter.unusedVariables false
open Tr
set_option maxRecDepth 100000 in
set_option maxHeartbeats 4000000 in
theorem begin_tr {w : World} {a : Option Addr} {len cap : Nat} {A : Nat → Option Addr} {N C : Nat → Nat} {Z : Nat → List Int} (hat : RowsAt w a len A N C Z) (hlen : len ≤ 9223372036854775807) (raw : Bool) :
    Calls Try.prog 37 #[.slice a len cap, .bool raw] w (BegR (ownV raw N Z (min len 8)) w) := by
  have HAT := Lib.hid hat
  have HOL := Lib.hid (Nat.le_trans (ownV_len raw N Z (min len 8)) (Nat.min_le_right len 8))
  have HOS := Lib.hid (ownV_short raw N Z (min len 8))
  have HB0 := Lib.hid (box1T w (.cells #[.slice none 0 0, .slice none 0 0] 25))
  have HS0 := Lib.hid (Tv.new w (.slice none 0 0) (.slice none 0 0))
  have HSZ0 : Hid ((w.alloc (.cells #[.slice none 0 0, .slice none 0 0] 25)).heap.size = w.heap.size + 1) := Lib.hid (by simp)
  obtain ⟨W0, hW0⟩ : ∃ W0, w.alloc (.cells #[.slice none 0 0, .slice none 0 0] 25) = W0 := ⟨_, rfl⟩
  rw [hW0] at HB0 HS0 HSZ0
  clear hat
  go_enter Try.func37, Try.ntmps37
  go_upto_region 1 with fail
  try rw [hW0]
  clear hW0
  go_upto_region 2 with (go_at_call 30; refine (new_tr _).mono ?_; rintro e w1 ⟨tb, nb, rfl, hT, hb, h1, h2⟩; have HT1 := Lib.hid hT; have HB1 := Lib.hid hb; have HTB := Lib.hid h1; have HNB := Lib.hid h2; clear hT hb h1 h2)
  go_wp2_with fail
  refine (refNew_tr _).mono ?_
  rintro e w2 ⟨g, rfl, hg, hcell, hb2⟩
  have HG := Lib.hid hg
  have HGC := Lib.hid hcell
  have HB2 := Lib.hid hb2
  clear hg hcell hb2
  go_upto_region 3 with fail
  obtain ⟨W3, hW3⟩ : ∃ W3, w2.alloc (.cells #[.slice (some ⟨g, 0, none⟩) 1 1, .slice none 0 0] 25) = W3 := ⟨_, rfl⟩
  have hb3 := box1T w2 (.cells #[.slice (some ⟨g, 0, none⟩) 1 1, .slice none 0 0] 25)
  have S7 := Tv.new w2 (.slice (some ⟨g, 0, none⟩) 1 1) (.slice none 0 0)
  obtain ⟨b7, hb7⟩ : ∃ b7, w2.heap.size = b7 := ⟨_, rfl⟩
  rw [hW3] at hb3 S7
  try rw [hW3]
  have hb13 := bel_step HB2.out hb3
  have hT3 := HT1.out.later hb13
  have hF0 : ∀ k, Fp tb nb ([[]] : LL).length (fun _ => Value.slice none 0 0) k → k < w1.heap.size := fun k hk => (TrX.lt HT1.out hk).2
  have hFl : ∀ k, Fp tb nb ([[]] : LL).length (fun _ => Value.slice none 0 0) k → w.heap.size < k := fun k hk => by
    rcases hk with e | e | ⟨_, _, e⟩
    · have := HTB.out; have := HSZ0.out; omega
    · have := HNB.out; have := HSZ0.out; omega
    · cases e
  have hRL : RvS (Gp (Fp tb nb ([[]] : LL).length (fun _ => Value.slice none 0 0)) w2.heap.size w.heap.size) W3 (some ⟨g, 0, none⟩) 1 [.slice none 0 0] [[]] := fun w'' hs => by
    have hg3 : W3.heap[g]? = some (.cells #[.slice none 0 0] 43 (0, 0)) := (hb3.block g (Array.getElem?_eq_some_iff.1 HGC.out).1).trans HGC.out
    have hg4 := (hs.block g (Array.getElem?_eq_some_iff.1 hg3).1 (fun e => by
      have h1 := HG.out
      have h2 := (Array.getElem?_eq_some_iff.1 HGC.out).1
      have h3 := HB1.out.size
      have h4 := HSZ0.out
      rcases e with e | e | e
      · have := hF0 g e; omega
      · omega
      · omega)).trans hg3
    refine ⟨rfl, rfl, .inr ⟨g, 0, rfl, fun i hi => ?_⟩, fun i hi => ?_⟩
    · obtain rfl : i = 0 := by omega
      simp [World.cell?, hg4]
    · obtain rfl : i = 0 := by omega
      exact ⟨none, 0, rfl, ⟨rfl, .inl rfl⟩, Nat.le_refl _, by omega⟩
  have hRW : RvS (Gp (Fp tb nb ([[]] : LL).length (fun _ => Value.slice none 0 0)) w2.heap.size w.heap.size) W3 none 0 [] [] := fun w'' _ => ⟨rfl, rfl, .inl rfl, fun i hi => by omega⟩
  have hBw : Below w.heap.size w W3 := bel_step (bel_step HB0.out HB1.out) hb13
  have HT3 := Lib.hid hT3
  have HF0 := Lib.hid hF0
  have HFL := Lib.hid hFl
  have HRL := Lib.hid hRL
  have HRW := Lib.hid hRW
  have HBW := Lib.hid hBw
  have HS7 := Lib.hid S7
  have HS5 := Lib.hid (HS0.out.later (bel_step HB1.out hb13))
  have HB13 := Lib.hid hb13
  have HW2S : Hid (w2.heap.size < W3.heap.size ∧ w1.heap.size ≤ w2.heap.size) := Lib.hid ⟨by have := HS7.out.lt; exact this, HB2.out.size⟩
  rw [hb7] at HS7 HRL HRW HW2S ⊢
  have HN7 : Hid (¬ Fp tb nb ([[]] : LL).length (fun _ => Value.slice none 0 0) b7) := Lib.hid (fun e => by have := hF0 b7 e; have := HB2.out.size; omega)
  have HN5 : Hid (¬ Fp tb nb ([[]] : LL).length (fun _ => Value.slice none 0 0) w.heap.size) := Lib.hid (fun e => by have := hFl _ e; omega)
  have HSM := Lib.hid (small_tr (cap := cap) (fun r hr => by
    obtain ⟨⟨b, o, e1, e2⟩, e3⟩ := HAT.out r hr
    exact ⟨⟨b, o, e1, cell_later HBW.out e2⟩, e3.later HBW.out⟩ : RowsAt W3 a len A N C Z) hlen)
  have hFW3 : ∀ k, Gp (Fp tb nb ([[]] : LL).length (fun _ => Value.slice none 0 0)) b7 w.heap.size k → k < W3.heap.size := fun k hk => by
    have h1 := HW2S.out
    have h2 := HB1.out.size
    have h3 := HSZ0.out
    rcases hk with e | e | e
    · have := hF0 k e; omega
    · omega
    · omega
  have HFW3 := Lib.hid hFW3
  have hFlow : ∀ k, Gp (Fp tb nb ([[]] : LL).length (fun _ => Value.slice none 0 0)) b7 w.heap.size k → w.heap.size ≤ k := fun k hk => by
    have h1 := HW2S.out
    have h2 := HB1.out.size
    have h3 := HSZ0.out
    rcases hk with e | e | e
    · have := hFl k e; omega
    · omega
    · omega
  have HFLOW := Lib.hid hFlow
  obtain ⟨F0, hF0e⟩ : ∃ F0 : Nat → Prop, Gp (Fp tb nb ([[]] : LL).length (fun _ => Value.slice none 0 0)) b7 w.heap.size = F0 := ⟨_, rfl⟩
  have HF0E := Lib.hid hF0e
  rw [hF0e] at HRL HRW HFW3 HFLOW
  clear hb3 S7 hb7 hb13 hT3 hF0 hFl hRL hRW hBw hW3 hFW3 hFlow hF0e HG HGC HB2 HTB HNB HT1 HS0 HB0 HB13
  obtain ⟨SR, hSR⟩ : ∃ SR, smallV (rowsIn N Z (min len 8)) = SR := ⟨_, rfl⟩
  obtain ⟨sm, hsm⟩ : ∃ sm, SR.length = sm := ⟨_, rfl⟩
  have HSRE := Lib.hid hSR
  have HSME := Lib.hid hsm
  rw [hSR] at HSM
  unfold SmallR at HSM
  rw [hsm] at HSM
  clear hSR hsm
  go_upto_if 17 with (go_at_call 29; refine HSM.out.mono ?_; rintro e w4 ⟨sa, sc, svs, rfl, hsv, hsc1, hsc2, hb⟩; have HSV := Lib.hid hsv; have HSC1 := Lib.hid hsc1; have HSC2 := Lib.hid hsc2; have HB4 := Lib.hid hb; clear hsv hsc1 hsc2 hb)
  obtain ⟨own, hown⟩ : ∃ own, ownV raw N Z (min len 8) = own := ⟨_, rfl⟩
  have HOWN := Lib.hid hown
  rw [hown] at HOL HOS ⊢
  clear hown
  go_cut [8, 9] from 18 to 41 (fun s8 s9 wx => ∃ oa oc ovs, s8 = .slice oa own.length oc ∧ RvS F0 wx oa own.length ovs own ∧ Below W3.heap.size W3 wx)
  case first =>
    cases raw with
    | false =>
      have hos : own = SR := by rw [← HOWN.out, ← HSRE.out]; rfl
      have HOSE := Lib.hid hos
      clear hos
      go_wp2_with fail
      go_meet
      case rel => exact ⟨sa, sc, svs, by rw [HOSE.out, HSME.out], by rw [HOSE.out, HSME.out]; exact RvS.of_fr HSV.out HFW3.out (Below.refl _ _), HB4.out⟩
    | true =>
      obtain ⟨q, hq⟩ : ∃ q, min len 8 = q := ⟨_, rfl⟩
      have hqn : q ≤ len := by omega
      have hqm : q ≤ 8 := by omega
      have hqe : q = len ∨ (q = 8 ∧ 8 < len) := by omega
      have hol : own = (List.range q).map (fun i => (Z i).take (min (N i) 5)) := by rw [← HOWN.out, ← hq]; rfl
      have HOLE := Lib.hid hol
      obtain ⟨i0, hi, hz0, hz1, hz2⟩ := info_parts Try.info_pxs
      clear hq hol
      go_wp2_with fail
      go_loopw [8, 9] (fun s8 s9 wr => ∃ (k : Nat) (v8 : Value), v8 = s8 ∧ k ≤ q ∧ s9 = .int .i64 k ∧ wr.ownsRow w4.heap.size 43 1 v8 k (rawVs A N C k) ∧ Below w4.heap.size w4 wr) (fun _ s9 _ => q - (intOf s9).toNat)
      case atStart => exact ⟨0, _, rfl, Nat.zero_le _, rfl, World.ownsRow_nil _ _ _ _, Below.refl _ _⟩
      case round =>
        obtain ⟨k, v8, rfl, hk, rfl, hrow, hb⟩ := hrel
        have HROW := Lib.hid hrow
        have HBk := Lib.hid hb
        by_cases hlt : k < q
        · have h1 : (k : Int) < (len : Int) := by omega
          have h2 : (k : Int) < 8 := by omega
          have h0 : (0 : Int) ≤ (k : Int) := Int.natCast_nonneg _
          obtain ⟨⟨b, o, rfl, hc⟩, hir⟩ := HAT.out k (by omega)
          have hc2 := cell_later (bel_step (bel_step HBW.out HB4.out) hb) hc
          have hir2 := isrow_len hir
          have hsucc := rawVs_succ A N C k
          obtain ⟨nk, hnk⟩ : ∃ nk, N k = nk := ⟨_, rfl⟩
          obtain ⟨ck, hck⟩ : ∃ ck, C k = ck := ⟨_, rfl⟩
          obtain ⟨ak, hak⟩ : ∃ ak, A k = ak := ⟨_, rfl⟩
          rw [hnk, hck, hak] at hc2 hsucc
          rw [hnk, hck] at hir2
          obtain ⟨g1, g2, g3, g4⟩ := hir2
          obtain ⟨m5, hm5⟩ : ∃ m5, min nk 5 = m5 := ⟨_, rfl⟩
          rw [hm5] at hsucc
          have HSU := Lib.hid hsucc
          have hm5a : m5 ≤ ck := by omega
          have hm5b : (m5 : Int) ≤ (ck : Int) := by omega
          have hm5z : (0 : Int) ≤ (m5 : Int) := Int.natCast_nonneg _
          have hszk := hb.size
          clear hc hir hnk hck hak hsucc hrow hb g2
          by_cases h5 : nk ≤ 5
          · obtain rfl : m5 = nk := by omega
            have d1 : decide ((5 : Int) < (m5 : Int)) = false := decide_eq_false (by omega)
            have d2 : decide ((m5 : Int) ≤ (5 : Int)) = true := decide_eq_true (by omega)
            have d3 : (m5 : Int) ≤ 5 := by omega
            have d4 : ¬ (5 : Int) < (m5 : Int) := by omega
            have d5 : ¬ 5 < m5 := by omega
            have d6 : min (m5 : Int) 5 = (m5 : Int) := by omega
            clear hm5
            go_wp2_with fail
            go_region_law (refine step_append_lies _ rfl _ _ 22 rfl w4.heap.size 43 i0 (.slice none 0 0) 1 24 Try.underlying22 hi hz0 hz1 hz2 rfl (by decide) v8 k _ rfl (HROW.out.alloc _) ⟨wr.heap.size, 0, none⟩ 1 1 [.slice ak m5 ck] rfl rfl (one_newT2 _ _ _) (by simp [Value.oneCell']) (by omega) (by unfold maxLen; omega) (by omega) (by simp; omega) _ rfl ?_; intro gg cc w5 hown hgrow hat _; have HO5 := Lib.hid hown; have HG5 := Lib.hid (grown_ad (w := wr) (o := .cells #[.slice ak m5 ck] 43) hgrow); clear hown hgrow hat)
            all_goals
              go_wp2_with fail
              go_roundw
              case rel => exact ⟨k + 1, _, rfl, by omega, by go_num, by rw [HSU.out]; exact HO5.out, HBk.out.grown HG5.out hszk (fun j e => (HROW.out.lt j e).1)⟩
              case measure => simp [intOf]; omega
          · obtain rfl : m5 = 5 := by omega
            have d1 : decide ((5 : Int) < (nk : Int)) = true := decide_eq_true (by omega)
            have d2 : decide ((nk : Int) ≤ (5 : Int)) = false := decide_eq_false (by omega)
            have d3 : ¬ (nk : Int) ≤ 5 := by omega
            have d4 : (5 : Int) < (nk : Int) := by omega
            have d5 : 5 < nk := by omega
            have d6 : min (nk : Int) 5 = 5 := by omega
            have d7 : (5 : Int) ≤ (ck : Int) := by omega
            have d8 : 5 ≤ ck := by omega
            have d9 : (if (5 : Int) < (nk : Int) then (5 : Int) else (nk : Int)) = 5 := if_pos (by omega)
            clear hm5
            go_wp2_with fail
            go_region_law (refine step_append_lies _ rfl _ _ 22 rfl w4.heap.size 43 i0 (.slice none 0 0) 1 24 Try.underlying22 hi hz0 hz1 hz2 rfl (by decide) v8 k _ rfl (HROW.out.alloc _) ⟨wr.heap.size, 0, none⟩ 1 1 [.slice ak 5 ck] rfl rfl (one_newT2 _ _ _) (by simp [Value.oneCell']) (by omega) (by unfold maxLen; omega) (by omega) (by simp; omega) _ rfl ?_; intro gg cc w5 hown hgrow hat _; have HO5 := Lib.hid hown; have HG5 := Lib.hid (grown_ad (w := wr) (o := .cells #[.slice ak 5 ck] 43) hgrow); clear hown hgrow hat)
            all_goals
              go_wp2_with fail
              go_roundw
              case rel => exact ⟨k + 1, _, rfl, by omega, by go_num, by rw [HSU.out]; exact HO5.out, HBk.out.grown HG5.out hszk (fun j e => (HROW.out.lt j e).1)⟩
              case measure => simp [intOf]; omega
        · obtain rfl : k = q := by omega
          have hrel : ∃ oa oc ovs, v8 = .slice oa own.length oc ∧ RvS F0 wr oa own.length ovs own ∧ Below W3.heap.size W3 wr := by
            have hbw : Below w.heap.size w wr := bel_step (bel_step HBW.out HB4.out) hb
            have hs4 := HB4.out.size
            have hol := HOLE.out
            have hll : own.length = k := by rw [hol]; simp
            obtain ⟨oa, oc, e⟩ := Tr.own_form hrow
            refine ⟨oa, oc, rawVs A N C k, by rw [e, hll], fun w'' hs => ?_, bel_step HB4.out hb⟩
            have hr : w''.ownsRow w4.heap.size 43 1 v8 k (rawVs A N C k) := own_of_block hrow fun g hg => hs.block g (hrow.lt g hg).2 (fun e => by have := HFW3.out g e; have := (hrow.lt g hg).1; omega)
            rw [e] at hr
            rw [hll]
            have hbl : Below w.heap.size w w'' := hbw.trans (hs.below hbw.size fun g hg e => by have := HFLOW.out g e; omega)
            refine rv_own hr ⟨by rw [hll]; simp [rawVs], fun i hi => ?_⟩ hll
            rw [hll] at hi
            obtain ⟨_, hir⟩ := HAT.out i (by omega)
            have hir2 := isrow_len hir
            have e1 : (rawVs A N C k).getD i (.bool false) = .slice (A i) (min (N i) 5) (C i) := by unfold rawVs; rw [gD (by simpa using hi)]; simp
            have e2 : own.getD i [] = (Z i).take (min (N i) 5) := by rw [hol, gD (by simpa using hi)]; simp
            have e3 : ((Z i).take (min (N i) 5)).length = min (N i) 5 := by rw [List.length_take]; omega
            rw [e1, e2]
            exact ⟨A i, C i, by rw [e3], by rw [e3]; exact (isrow_takeK hir _ (by omega)).below hbl, by rw [e3]; omega, hir2.2.2.2⟩
          have HREL := Lib.hid hrel
          clear hrow hb hrel
          rcases hqe with rfl | ⟨rfl, h8⟩
          · have h1 : ¬ (k : Int) < (k : Int) := by omega
            go_wp2_with fail
            go_meet
            case rel => exact HREL.out
          · have h1 : (8 : Int) < (len : Int) := by omega
            go_wp2_with fail
            go_meet
            case rel => exact HREL.out
  case rest =>
    obtain ⟨oa, oc, ovs, rfl, hov, hb⟩ := hcut
    have HOV := Lib.hid hov
    have HT4 := Lib.hid (HT3.out.later hb)
    have HRL4 := Lib.hid (HRL.out.below hb)
    have HRW4 := Lib.hid (HRW.out.below hb)
    have HS74 := Lib.hid (HS7.out.later hb)
    have HS54 := Lib.hid (HS5.out.later hb)
    have HB4 := Lib.hid (bel_step HBW.out hb)
    clear hov hb
    obtain ⟨m, hm⟩ : ∃ m, own.length = m := ⟨_, rfl⟩
    have HM := Lib.hid hm
    have hm8 : m ≤ 8 := by rw [← hm]; exact HOL.out
    rw [hm] at HOV ⊢
    clear hm
    go_wp2_with fail
    go_loopw [10] (fun s10 wr => ∃ (k nb1 nc1 : Nat) (rv1 : Nat → Value) (la : Option Addr) (lc : Nat) (vs : List Value) (wa : Option Addr) (wc1 : Nat) (us : List Value), k ≤ m ∧ s10 = .int .i64 k ∧ TrP wr W0.heap.size tb nb1 nc1 rv1 (treeOf (own.take k)).1 (treeOf (own.take k)).2 ∧ RvS (Gp (Fp tb nb1 (treeOf (own.take k)).1.length rv1) b7 w.heap.size) wr oa m ovs own ∧ RvS (Gp (Fp tb nb1 (treeOf (own.take k)).1.length rv1) b7 w.heap.size) wr la (treeOf (own.take k)).1.length vs (treeOf (own.take k)).1 ∧ RvS (Gp (Fp tb nb1 (treeOf (own.take k)).1.length rv1) b7 w.heap.size) wr wa (treeOf (own.take k)).2.length us (treeOf (own.take k)).2 ∧ Tv wr b7 (.slice la (treeOf (own.take k)).1.length lc) (.slice wa (treeOf (own.take k)).2.length wc1) ∧ Tv wr w.heap.size (.slice none 0 0) (.slice none 0 0) ∧ ¬ Fp tb nb1 (treeOf (own.take k)).1.length rv1 b7 ∧ ¬ Fp tb nb1 (treeOf (own.take k)).1.length rv1 w.heap.size ∧ Below w.heap.size w wr) (fun s10 _ => m - (intOf s10).toNat)
    case atStart =>
      refine ⟨0, nb, 1, fun _ => .slice none 0 0, some ⟨g, 0, none⟩, 1, [.slice none 0 0], none, 0, [], Nat.zero_le _, rfl, HT4.out, ?_, ?_, ?_, HS74.out, HS54.out, ?_, ?_, HB4.out⟩
      · show RvS (Gp (Fp tb nb ([[]] : LL).length (fun _ => Value.slice none 0 0)) b7 w.heap.size) wc oa m ovs own; rw [HF0E.out]; exact HOV.out
      · show RvS (Gp (Fp tb nb ([[]] : LL).length (fun _ => Value.slice none 0 0)) b7 w.heap.size) wc _ 1 _ [[]]; rw [HF0E.out]; exact HRL4.out
      · show RvS (Gp (Fp tb nb ([[]] : LL).length (fun _ => Value.slice none 0 0)) b7 w.heap.size) wc none 0 [] []; rw [HF0E.out]; exact HRW4.out
      · exact HN7.out
      · exact HN5.out
    case round =>
      obtain ⟨k, nb1, nc1, rv1, la, lc, vs, wa, wc1, us, hk, rfl, hT, hov, hrl, hrw, h7, h5, hn7, hn5, hb⟩ := hrel
      have hiw := treeOf_iw (own.take k)
      have htl := treeOf_len (own.take k) (fun r hr => HOS.out r (List.mem_of_mem_take hr))
      have htd := paths_short (own := own.take k) (fun r hr => HOS.out r (List.mem_of_mem_take hr))
      rw [List.length_take] at htl
      have HOWT := Lib.hid (fun (h : k < own.length) => treeOf_take h)
      obtain ⟨T, hTe⟩ : ∃ T, treeOf (own.take k) = T := ⟨_, rfl⟩
      rw [hTe] at hT hov hrl hrw h7 hn7 hn5 hiw htl htd HOWT
      have HTE := Lib.hid hTe
      obtain ⟨L, Wd⟩ := T
      simp only at hT hov hrl hrw h7 hn7 hn5 hiw htl htd HOWT
      have HT := Lib.hid hT
      have HOVr := Lib.hid hov
      have HRLr := Lib.hid hrl
      have HRWr := Lib.hid hrw
      have HS7r := Lib.hid h7
      have HS5r := Lib.hid h5
      have HN7r := Lib.hid hn7
      have HN5r := Lib.hid hn5
      have HBr := Lib.hid hb
      have HIW := Lib.hid hiw
      have HTD := Lib.hid htd
      obtain ⟨nl, hnl⟩ : ∃ nl, L.length = nl := ⟨_, rfl⟩
      obtain ⟨nw, hnw⟩ : ∃ nw, Wd.length = nw := ⟨_, rfl⟩
      have HNL := Lib.hid hnl
      have HNW := Lib.hid hnw
      have hnl9 : nl ≤ 41 := by omega
      have hnw9 : nw ≤ 8 := by omega
      clear hT hov hrl hrw h5 hn7 hn5 hb hiw htl htd hTe
      by_cases hlt : k < m
      · have hltI : (k : Int) < (m : Int) := by omega
        have hk0 : (0 : Int) ≤ (k : Int) := Int.natCast_nonneg _
        have hst := HOWT.out (by rw [HM.out]; exact hlt)
        have hxs : (own.getD k []).length ≤ 5 := HOS.out _ (gD_mem (by rw [HM.out]; exact hlt))
        obtain ⟨ai, ci, ev, hc1, hc2, hsl⟩ := rvs_ok1 HOVr.out hlt
        have hcl : ∃ b o, oa = some ⟨b, o, none⟩ ∧ wr.cell? ⟨b, o + k, none⟩ = some (.slice ai (own.getD k []).length ci) := by
          rcases HOVr.out.now.cells with h0 | ⟨b, o, e, hc⟩
          · omega
          · exact ⟨b, o, e, by rw [hc k hlt, ev]⟩
        obtain ⟨b, o, rfl, hcell⟩ := hcl
        obtain ⟨x, hx⟩ : ∃ x, own.getD k [] = x := ⟨_, rfl⟩
        rw [hx] at hst hxs hc1 hsl hcell ev
        obtain ⟨xl, hxl⟩ : ∃ xl, x.length = xl := ⟨_, rfl⟩
        rw [hxl] at hxs hc1 hsl hcell
        have HXL := Lib.hid hxl
        have HST := Lib.hid hst
        have HSL := Lib.hid hsl
        have HBOT := Lib.hid (fun w' (hs : Sep (Gp (Fp tb nb1 L.length rv1) b7 w.heap.size) wr w') => (HOVr.out w' hs).cells)
        have HEV := Lib.hid ev
        clear hst hsl hx hxl ev
        by_cases hx0 : xl = 0
        · subst hx0
          have HPN := Lib.hid (put_nil HT.out HIW.out.inv ai ci)
          clear h7 hnl hnw
          go_wp2_with (go_at_call 32; refine HPN.out.mono ?_; rintro e w9 ⟨rfl, hb9⟩; have HB9 := Lib.hid hb9; have hcell9 := cell_later hb9 hcell; clear hb9)
          go_roundw
          case rel =>
            have hxe : x = [] := List.length_eq_zero_iff.1 HXL.out
            have hst : treeOf (own.take (k + 1)) = (L, Wd) := by rw [HST.out, hxe]; rfl
            refine ⟨k + 1, nb1, nc1, rv1, la, lc, vs, wa, wc1, us, by omega, by go_num, ?_⟩
            rw [hst]
            exact ⟨HT.out.later HB9.out, HOVr.out.below HB9.out, HRLr.out.below HB9.out, HRWr.out.below HB9.out, HS7r.out.later HB9.out, HS5r.out.later HB9.out, HN7r.out, HN5r.out, bel_step HBr.out HB9.out⟩
          case measure => simp [intOf]; omega
        · have hx1 : ((xl : Int) == 0) = false := by rw [beq_eq_false_iff_ne]; omega
          obtain ⟨b2, o2, rfl, _⟩ := slk_at (HSL.out wr (Sep.refl _ _)) (by omega)
          have HPT := Lib.hid (put_tr (c := ci) HT.out HIW.out (fun w' hs => HSL.out w' (hs.mono fun _ e => .inl e)) (by omega) (by omega) hc1 hc2 (by rw [HNL.out]; omega) (fun p hp => Nat.le_trans (HTD.out p hp) (by omega)) (by rw [HNW.out]; omega))
          rw [HNW.out] at HPT
          have HMOVE := Lib.hid (fun (w9 : World) (nb2 nc2 : Nat) (rv2 : Nat → Value) (hT2 : TrP w9 W0.heap.size tb nb2 nc2 rv2 (putL L x) (Wd ++ [x])) (ht : Turn wr (Fp tb nb1 L.length rv1) w9 (Fp tb nb2 (putL L x).length rv2)) => begin_move (b7 := b7) (b5 := w.heap.size) HT.out hT2 (by have := HW2S.out; have := HB1.out.size; have := HSZ0.out; omega) (by have := HW2S.out; have := HB1.out.size; have := HSZ0.out; omega) ht HOVr.out HRLr.out HRWr.out HS7r.out HS5r.out HN7r.out HN5r.out HBr.out (by have := HSZ0.out; omega) HEV.out HSL.out hlt HIW.out.inv (by rw [HNL.out]; omega) (by rw [HNW.out]; omega) hc1 hc2 HXL.out (by omega))
          have e0 : ((nw : Int) != (nw : Int)) = false := by simp
          rw [HNL.out, HNW.out] at HMOVE
          have hxne : x ≠ [] := fun e => hx0 (by rw [← HXL.out, e]; rfl)
          have HXNE := Lib.hid hxne
          clear h7 hnl hnw hxne
          go_wp2_with (go_at_call 32; refine HPT.out.mono ?_; rintro e w9 ⟨rfl, nb2, nc2, rv2, hT2, ht⟩; obtain ⟨m1, m2, m3, m4, m5, m6, m7⟩ := HMOVE.out w9 nb2 nc2 rv2 hT2 (by rw [← HNL.out]; exact ht); obtain ⟨x70, x71⟩ := m4.cells; obtain ⟨f70, f71⟩ := m4.fr; have HM1 := Lib.hid m1; have HM4 := Lib.hid m4; have HM5 := Lib.hid m5; have HM6 := Lib.hid m6; have HM7 := Lib.hid m7; clear hT2 ht m1 m4 m5 m6 m7)
          go_region_law (go_simp; go_at_call 33; refine (HM6.out _ rfl).mono ?_; rintro e w10 ⟨la2, lc2, vs2, wa2, wc2, rfl, h1, h2, h3⟩; have HR1 := Lib.hid h1; have HR2 := Lib.hid h2; have HB10 := Lib.hid h3; have hS := HM4.out.later h3; obtain ⟨y70, y71⟩ := hS.cells; obtain ⟨g70, g71⟩ := hS.fr; have HS10 := Lib.hid hS; clear h1 h2 h3 hS)
          all_goals
            go_wp2_with fail
            go_roundw
            case rel =>
              have hst : treeOf (own.take (k + 1)) = (putL L x, Wd ++ [x]) := by rw [HST.out]; unfold Tr.stepT; rw [if_neg HXNE.out]
              refine ⟨k + 1, nb2, nc2, rv2, la2, lc2, vs2, wa2, wc2, us ++ [.slice (some ⟨b2, o2, none⟩) xl ci], by omega, by go_num, ?_⟩
              rw [hst]
              have hlw : (Wd ++ [x]).length = Wd.length + 1 := by simp
              exact HM7.out _ _ _ _ _ _ _ HB10.out HR1.out (by rw [hlw, HNW.out]; exact HR2.out) HS10.out (by rw [hlw, HNW.out])
            case measure => simp [intOf]; omega
      · obtain rfl : k = m := by omega
        have hltI : ¬ (k : Int) < (k : Int) := by omega
        have hall : own.take k = own := List.take_of_length_le (by rw [HM.out]; exact Nat.le_refl _)
        have HALL := Lib.hid hall
        obtain ⟨x0, x1⟩ := h7.cells
        obtain ⟨y0, y1⟩ := HS5r.out.cells
        obtain ⟨f0, f1⟩ := HS5r.out.fr
        have hsp : Sep (Gp (Fp tb nb1 L.length rv1) b7 w.heap.size) wr ((wr.drew.setCell ⟨w.heap.size, 0, none⟩ (.slice la nl lc)).setCell ⟨w.heap.size, 1, none⟩ (.slice wa nw wc1)) := ((Sep.drew _ _).trans (Sep.setCell _ (.inr (.inr rfl)) _)).trans (Sep.setCell _ (.inr (.inr rfl)) _)
        have hfin : BegR own w (.returned (.tuple #[.pointer (some ⟨tb, 0, none⟩), .agg #[.slice la nl lc, .slice wa nw wc1]])) ((wr.drew.setCell ⟨w.heap.size, 0, none⟩ (.slice la nl lc)).setCell ⟨w.heap.size, 1, none⟩ (.slice wa nw wc1)) := by
          have htf := HTE.out
          rw [hall] at htf
          unfold BegR
          rw [htf]
          refine ⟨W0.heap.size, tb, nb1, nc1, rv1, la, lc, vs, wa, wc1, us, by rw [HNL.out, HNW.out], TrX.of_blocks HT.out fun g hg => ?_, (HRLr.out.sep hsp).less, (HRWr.out.sep hsp).less, by rw [HSZ0.out]; omega, ((HBr.out.trans (Below.refl _ _).drew).setCell (by simp) _).setCell (by simp) _⟩
          have hgn : g ≠ w.heap.size := fun e => HN5r.out (e ▸ hg)
          rw [Below.heap_setCell _ _ _ _ (by simpa using hgn), Below.heap_setCell _ _ _ _ (by simpa using hgn)]
          rfl
        have HFIN := Lib.hid hfin
        have HS9 := Lib.hid ((Tv.later (w := wr) HS5r.out (Below.refl _ _).drew).set0 (.slice la nl lc) |>.set1 (.slice wa nw wc1))
        clear hall h7 hfin hsp
        go_wp2_with fail
        go_region
        all_goals
          go_wp2_with fail
          refine bodyPost_ret (ret_tc rfl _ _ _ _ rfl (load_tv HS9.out)) rfl ?_
          have h9 := HFIN.out
          rw [← HOWN.out] at h9
          exact h9
end Go.Proofs.Ytehmbnloplamaaa
