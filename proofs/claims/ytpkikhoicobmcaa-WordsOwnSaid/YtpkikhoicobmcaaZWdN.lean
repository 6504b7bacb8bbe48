/- begin of layer 14: a set of rows, by the code and by the document. No condition. -/
import Derived.Test.YtpkikhoicobmcaaZWdD
import Derived.Test.YtpkikhoicobmcaaZWdF
import Derived.Test.YtpkikhoicobmcaaZWdK
namespace Go.Proofs.Ytpkikhoicobmcaa
open Go.RowKit
set_option linter.unusedVariables false
open Tr Au Wd
section
variable {w : World} {B sb tb nb nc mb : Nat} {rv : Nat → Value} {av : Value} {S : LL}
theorem wAdd_any (h : WsX w B sb tb nb nc mb rv av S) (hS : Ok S) (hl : S.length ≤ 100) (hd : ∀ r ∈ S, r.length ≤ 5) {a : Option Addr} {m c : Nat} {l : List Int} (hs : ∀ w', Sep (Fw sb tb nb mb (pathsOf S).length rv) w w' → SlK .u64 w' a m l) (hm : m ≤ 100) (hmc : m ≤ c) (hc9 : c ≤ 9223372036854775807) :
    Calls Try.prog 23 #[.pointer (some ⟨sb, 0, none⟩), .slice a m c] w (AddR w B sb tb nb mb rv av S l) := by
  have hs0 := hs w (Sep.refl _ _)
  by_cases h0 : l = []
  · subst h0
    obtain rfl : m = 0 := hs0.1.symm
    exact wAdd_nil h hS hl
  · have hm1 : 1 ≤ m := by have := List.length_pos_iff.2 h0; have := hs0.1; omega
    by_cases hin : l ∈ S
    · exact wAdd_old h hS hl hs0 hm hin
    · obtain ⟨b, o, rfl, _⟩ := slk_at hs0 (by omega)
      exact wAdd_new h hS hl hd hs hm1 hm hmc hc9 hin
end
/-- what begin hands back -/
def BegW (own : LL) (w : World) (e : Ending) (w' : World) : Prop := ∃ B sb tb nb nc mb rv ra rc vs, e = .returned (.tuple #[.pointer (some ⟨sb, 0, none⟩), .slice ra (setOf own).length rc]) ∧ WsX w' B sb tb nb nc mb rv (.pointer none) (setOf own) ∧ RvS (Fw sb tb nb mb (pathsOf (setOf own)).length rv) w' ra (setOf own).length vs (setOf own) ∧ w.heap.size ≤ B ∧ Below w.heap.size w w'
set_option maxRecDepth 100000 in
set_option maxHeartbeats 8000000 in
theorem begin14_any {w : World} {a : Option Addr} {len cap : Nat} {A : Nat → Option Addr} {N C : Nat → Nat} {Z : Nat → List Int} (hat : RowsAt w a len A N C Z) (hlen : len ≤ 9223372036854775807) (raw : Bool) :
    Calls Try.prog 9 #[.slice a len cap, .bool raw] w (BegW (ownV raw N Z (min len 8)) w) := by
  have HAT := Lib.hid hat
  have HOL := Lib.hid (Nat.le_trans (ownV_len raw N Z (min len 8)) (Nat.min_le_right len 8))
  have HOS := Lib.hid (ownV_short raw N Z (min len 8))
  have HNW := Lib.hid (wNew_any w)
  clear hat
  go_enter Try.func9, Try.ntmps9
  go_upto_region 2 with (go_at_call 26; refine HNW.out.mono ?_; rintro e W3 ⟨sb, tb, nb, mb, rfl, hX, hb⟩; have HX3 := Lib.hid hX; have HBW := Lib.hid hb; clear hX hb)
  have HSM := Lib.hid (small_tr (cap := cap) (fun r hr => by
    obtain ⟨⟨b, o, e1, e2⟩, e3⟩ := HAT.out r hr
    exact ⟨⟨b, o, e1, cell_later HBW.out e2⟩, e3.later HBW.out⟩ : RowsAt W3 a len A N C Z) hlen)
  obtain ⟨F0, hF0e⟩ : ∃ F0 : Nat → Prop, Fw sb tb nb mb (pathsOf []).length (fun _ => .slice none 0 0) = F0 := ⟨_, rfl⟩
  have HF0E := Lib.hid hF0e
  have HFW3 : Hid (∀ k, F0 k → k < W3.heap.size) := Lib.hid (fun k hk => by rw [← hF0e] at hk; exact (HX3.out.lt hk).2)
  have HFLOW : Hid (∀ k, F0 k → w.heap.size ≤ k) := Lib.hid (fun k hk => by rw [← hF0e] at hk; exact (HX3.out.lt hk).1)
  clear hF0e
  obtain ⟨SR, hSR⟩ : ∃ SR, smallV (rowsIn N Z (min len 8)) = SR := ⟨_, rfl⟩
  obtain ⟨sm, hsm⟩ : ∃ sm, SR.length = sm := ⟨_, rfl⟩
  have HSRE := Lib.hid hSR
  have HSME := Lib.hid hsm
  rw [hSR] at HSM
  unfold SmallR at HSM
  rw [hsm] at HSM
  clear hSR hsm
  go_upto_if 18 with (go_at_call 27; refine HSM.out.mono ?_; rintro e w4 ⟨sa, sc, svs, rfl, hsv, hsc1, hsc2, hb⟩; have HSV := Lib.hid hsv; have HSC1 := Lib.hid hsc1; have HSC2 := Lib.hid hsc2; have HB4 := Lib.hid hb; clear hsv hsc1 hsc2 hb)
  obtain ⟨own, hown⟩ : ∃ own, ownV raw N Z (min len 8) = own := ⟨_, rfl⟩
  have HOWN := Lib.hid hown
  rw [hown] at HOL HOS ⊢
  clear hown
  go_cut [7, 8] from 19 to 42 (fun s8 s9 wx => ∃ oa oc ovs, s8 = .slice oa own.length oc ∧ RvS F0 wx oa own.length ovs own ∧ Below W3.heap.size W3 wx)
  case first =>
    cases raw with
    | false =>
      have hos : own = SR := by rw [← HOWN.out, ← HSRE.out]; rfl
      have HOSE := Lib.hid hos
      clear hos
      go_wp2_with fail
      go_meet
      case rel => exact ⟨sa, sc, svs, by rw [HOSE.out, HSME.out], by rw [HOSE.out, HSME.out]; exact RvS.of_fr HSV.out HFW3.out (Below.refl _ _), HB4.out⟩
    | true =>
      obtain ⟨q, hq⟩ : ∃ q, min len 8 = q := ⟨_, rfl⟩
      have hqn : q ≤ len := by omega
      have hqm : q ≤ 8 := by omega
      have hqe : q = len ∨ (q = 8 ∧ 8 < len) := by omega
      have hol : own = (List.range q).map (fun i => (Z i).take (min (N i) 5)) := by rw [← HOWN.out, ← hq]; rfl
      have HOLE := Lib.hid hol
      obtain ⟨i0, hi, hz0, hz1, hz2⟩ := info_parts Try.info_pxs
      clear hq hol
      go_wp2_with fail
      go_loopw [7, 8] (fun s8 s9 wr => ∃ (k : Nat) (v8 : Value), v8 = s8 ∧ k ≤ q ∧ s9 = .int .i64 k ∧ wr.ownsRow w4.heap.size 27 1 v8 k (rawVs A N C k) ∧ Below w4.heap.size w4 wr) (fun _ s9 _ => q - (intOf s9).toNat)
      case atStart => exact ⟨0, _, rfl, Nat.zero_le _, rfl, World.ownsRow_nil _ _ _ _, Below.refl _ _⟩
      case round =>
        obtain ⟨k, v8, rfl, hk, rfl, hrow, hb⟩ := hrel
        have HROW := Lib.hid hrow
        have HBk := Lib.hid hb
        by_cases hlt : k < q
        · have h1 : (k : Int) < (len : Int) := by omega
          have h2 : (k : Int) < 8 := by omega
          have h0 : (0 : Int) ≤ (k : Int) := Int.natCast_nonneg _
          obtain ⟨⟨b, o, rfl, hc⟩, hir⟩ := HAT.out k (by omega)
          have hc2 := cell_later (bel_step (bel_step HBW.out HB4.out) hb) hc
          have hir2 := isrow_len hir
          have hsucc := rawVs_succ A N C k
          obtain ⟨nk, hnk⟩ : ∃ nk, N k = nk := ⟨_, rfl⟩
          obtain ⟨ck, hck⟩ : ∃ ck, C k = ck := ⟨_, rfl⟩
          obtain ⟨ak, hak⟩ : ∃ ak, A k = ak := ⟨_, rfl⟩
          rw [hnk, hck, hak] at hc2 hsucc
          rw [hnk, hck] at hir2
          obtain ⟨g1, g2, g3, g4⟩ := hir2
          obtain ⟨m5, hm5⟩ : ∃ m5, min nk 5 = m5 := ⟨_, rfl⟩
          rw [hm5] at hsucc
          have HSU := Lib.hid hsucc
          have hm5a : m5 ≤ ck := by omega
          have hm5b : (m5 : Int) ≤ (ck : Int) := by omega
          have hm5z : (0 : Int) ≤ (m5 : Int) := Int.natCast_nonneg _
          have hszk := hb.size
          clear hc hir hnk hck hak hsucc hrow hb g2
          by_cases h5 : nk ≤ 5
          · obtain rfl : m5 = nk := by omega
            have d1 : decide ((5 : Int) < (m5 : Int)) = false := decide_eq_false (by omega)
            have d2 : decide ((m5 : Int) ≤ (5 : Int)) = true := decide_eq_true (by omega)
            have d3 : (m5 : Int) ≤ 5 := by omega
            have d4 : ¬ (5 : Int) < (m5 : Int) := by omega
            have d5 : ¬ 5 < m5 := by omega
            have d6 : min (m5 : Int) 5 = (m5 : Int) := by omega
            clear hm5
            go_wp2_with fail
            go_region_law (refine step_append_lies _ rfl _ _ 22 rfl w4.heap.size 27 i0 (.slice none 0 0) 1 24 Try.underlying22 hi hz0 hz1 hz2 rfl (by decide) v8 k _ rfl (HROW.out.alloc _) ⟨wr.heap.size, 0, none⟩ 1 1 [.slice ak m5 ck] rfl rfl (one_newT2 _ _ _) (by simp [Value.oneCell']) (by omega) (by unfold maxLen; omega) (by omega) (by simp; omega) _ rfl ?_; intro gg cc w5 hown hgrow hat _; have HO5 := Lib.hid hown; have HG5 := Lib.hid (grown_ad (w := wr) (o := .cells #[.slice ak m5 ck] 27) hgrow); clear hown hgrow hat)
            all_goals
              go_wp2_with fail
              go_roundw
              case rel => exact ⟨k + 1, _, rfl, by omega, by go_num, by rw [HSU.out]; exact HO5.out, HBk.out.grown HG5.out hszk (fun j e => (HROW.out.lt j e).1)⟩
              case measure => simp [intOf]; omega
          · obtain rfl : m5 = 5 := by omega
            have d1 : decide ((5 : Int) < (nk : Int)) = true := decide_eq_true (by omega)
            have d2 : decide ((nk : Int) ≤ (5 : Int)) = false := decide_eq_false (by omega)
            have d3 : ¬ (nk : Int) ≤ 5 := by omega
            have d4 : (5 : Int) < (nk : Int) := by omega
            have d5 : 5 < nk := by omega
            have d6 : min (nk : Int) 5 = 5 := by omega
            have d7 : (5 : Int) ≤ (ck : Int) := by omega
            have d8 : 5 ≤ ck := by omega
            have d9 : (if (5 : Int) < (nk : Int) then (5 : Int) else (nk : Int)) = 5 := if_pos (by omega)
            clear hm5
            go_wp2_with fail
            go_region_law (refine step_append_lies _ rfl _ _ 22 rfl w4.heap.size 27 i0 (.slice none 0 0) 1 24 Try.underlying22 hi hz0 hz1 hz2 rfl (by decide) v8 k _ rfl (HROW.out.alloc _) ⟨wr.heap.size, 0, none⟩ 1 1 [.slice ak 5 ck] rfl rfl (one_newT2 _ _ _) (by simp [Value.oneCell']) (by omega) (by unfold maxLen; omega) (by omega) (by simp; omega) _ rfl ?_; intro gg cc w5 hown hgrow hat _; have HO5 := Lib.hid hown; have HG5 := Lib.hid (grown_ad (w := wr) (o := .cells #[.slice ak 5 ck] 27) hgrow); clear hown hgrow hat)
            all_goals
              go_wp2_with fail
              go_roundw
              case rel => exact ⟨k + 1, _, rfl, by omega, by go_num, by rw [HSU.out]; exact HO5.out, HBk.out.grown HG5.out hszk (fun j e => (HROW.out.lt j e).1)⟩
              case measure => simp [intOf]; omega
        · obtain rfl : k = q := by omega
          have hrel : ∃ oa oc ovs, v8 = .slice oa own.length oc ∧ RvS F0 wr oa own.length ovs own ∧ Below W3.heap.size W3 wr := by
            have hbw : Below w.heap.size w wr := bel_step (bel_step HBW.out HB4.out) hb
            have hs4 := HB4.out.size
            have hol := HOLE.out
            have hll : own.length = k := by rw [hol]; simp
            obtain ⟨oa, oc, e⟩ := Tr.own_form hrow
            refine ⟨oa, oc, rawVs A N C k, by rw [e, hll], fun w'' hs => ?_, bel_step HB4.out hb⟩
            have hr : w''.ownsRow w4.heap.size 27 1 v8 k (rawVs A N C k) := own_of_block hrow fun g hg => hs.block g (hrow.lt g hg).2 (fun e => by have := HFW3.out g e; have := (hrow.lt g hg).1; omega)
            rw [e] at hr
            rw [hll]
            have hbl : Below w.heap.size w w'' := hbw.trans (hs.below hbw.size fun g hg e => by have := HFLOW.out g e; omega)
            refine rv_own hr ⟨by rw [hll]; simp [rawVs], fun i hi => ?_⟩ hll
            rw [hll] at hi
            obtain ⟨_, hir⟩ := HAT.out i (by omega)
            have hir2 := isrow_len hir
            have e1 : (rawVs A N C k).getD i (.bool false) = .slice (A i) (min (N i) 5) (C i) := by unfold rawVs; rw [gD (by simpa using hi)]; simp
            have e2 : own.getD i [] = (Z i).take (min (N i) 5) := by rw [hol, gD (by simpa using hi)]; simp
            have e3 : ((Z i).take (min (N i) 5)).length = min (N i) 5 := by rw [List.length_take]; omega
            rw [e1, e2]
            exact ⟨A i, C i, by rw [e3], by rw [e3]; exact (isrow_takeK hir _ (by omega)).below hbl, by rw [e3]; omega, hir2.2.2.2⟩
          have HREL := Lib.hid hrel
          clear hrow hb hrel
          rcases hqe with rfl | ⟨rfl, h8⟩
          · have h1 : ¬ (k : Int) < (k : Int) := by omega
            go_wp2_with fail
            go_meet
            case rel => exact HREL.out
          · have h1 : (8 : Int) < (len : Int) := by omega
            go_wp2_with fail
            go_meet
            case rel => exact HREL.out
  case rest =>
    obtain ⟨oa, oc, ovs, rfl, hov, hb⟩ := hcut
    have HOV := Lib.hid hov
    have HX4 := Lib.hid (HX3.out.later hb)
    have HB4 := Lib.hid (bel_step HBW.out hb)
    clear hov hb
    obtain ⟨m, hm⟩ : ∃ m, own.length = m := ⟨_, rfl⟩
    have HM := Lib.hid hm
    have hm8 : m ≤ 8 := by rw [← hm]; exact HOL.out
    rw [hm] at HOV ⊢
    clear hm
    go_wp2_with fail
    go_loopw [9, 10] (fun s9 s10 wr => ∃ (k nb1 nc1 : Nat) (rv1 : Nat → Value) (ra : Option Addr) (rc : Nat) (vs : List Value), k ≤ m ∧ s10 = .int .i64 k ∧ s9 = .slice ra (setOf (own.take k)).length rc ∧ WsX wr w.heap.size sb tb nb1 nc1 mb rv1 (.pointer none) (setOf (own.take k)) ∧ RvS (Fw sb tb nb1 mb (pathsOf (setOf (own.take k))).length rv1) wr oa m ovs own ∧ RvS (Fw sb tb nb1 mb (pathsOf (setOf (own.take k))).length rv1) wr ra (setOf (own.take k)).length vs (setOf (own.take k)) ∧ Below w.heap.size w wr) (fun _ s10 _ => m - (intOf s10).toNat)
    case atStart =>
      refine ⟨0, nb, 1, fun _ => .slice none 0 0, none, 0, [], Nat.zero_le _, rfl, rfl, HX4.out, ?_, ?_, HB4.out⟩
      · show RvS (Fw sb tb nb mb (pathsOf []).length (fun _ => Value.slice none 0 0)) wc oa m ovs own; rw [HF0E.out]; exact HOV.out
      · exact fun w'' _ => ⟨rfl, rfl, .inl rfl, fun i hi => absurd hi (Nat.not_lt_zero _)⟩
    case round =>
      obtain ⟨k, nb1, nc1, rv1, ra, rc, vs, hk, rfl, rfl, hX, hov, hrv, hb⟩ := hrel
      have hsok := setOf_ok (own.take k)
      have hsl := setOf_len (own.take k)
      have hss := setOf_short (own := own.take k) (fun r hr => HOS.out r (List.mem_of_mem_take hr))
      rw [List.length_take] at hsl
      have HST := Lib.hid (fun (h : k < own.length) => setOf_take h)
      obtain ⟨S, hS⟩ : ∃ S, setOf (own.take k) = S := ⟨_, rfl⟩
      rw [hS] at hX hov hrv hsok hsl hss HST ⊢
      have HSE := Lib.hid hS
      have HX := Lib.hid hX
      have HOVr := Lib.hid hov
      have HRVr := Lib.hid hrv
      have HBr := Lib.hid hb
      by_cases hlt : k < m
      · have hltI : (k : Int) < (m : Int) := by omega
        have hk0 : (0 : Int) ≤ (k : Int) := Int.natCast_nonneg _
        have hko : k < own.length := by rw [HM.out]; exact hlt
        have hst := HST.out hko
        obtain ⟨b, o, ai, ci, hoa, e1, e2, e3, e4⟩ := rv_row hov.now hlt
        have hev : ∃ aj cj, ovs.getD k (.bool false) = .slice aj (own.getD k []).length cj ∧ (own.getD k []).length ≤ cj ∧ cj ≤ 9223372036854775807 ∧ ∀ w', Sep (Fw sb tb nb1 mb (pathsOf S).length rv1) wr w' → SlK .u64 w' aj (own.getD k []).length (own.getD k []) := rvs_ok1 hov hlt
        obtain ⟨aj, cj, hev1, hev2, hev3, hev4⟩ := hev
        have hcell : ∀ {F : Nat → Prop} {W : World}, RvS F W oa m ovs own → W.cell? ⟨b, o + k, none⟩ = some (.slice aj (own.getD k []).length cj) := fun h => by
          rcases h.now.cells with e | ⟨b', o', e, hc⟩
          · omega
          · rw [hoa] at e; injection e with e; injection e with e5 e6 _; subst e5 e6
            rw [hc k hlt, hev1]
        have hx5 : (own.getD k []).length ≤ 5 := HOS.out _ (gD_mem hko)
        have HADD := Lib.hid (wAdd_any hX hsok (by omega) hss (l := own.getD k []) hev4 (by omega) hev2 hev3)
        unfold AddR at HADD
        have HCELL := Lib.hid (fun (F : Nat → Prop) (W : World) (h : RvS F W oa m ovs own) => hcell h)
        have HRAD := Lib.hid (fun (W : World) (h0 : own.getD k [] ≠ []) (h1 : Rv W ra S.length vs S) (h2 : Ok1 W (.slice aj (own.getD k []).length cj) (own.getD k [])) => refAdd14 (rc := rc) h1 (by omega) h2 rfl h0)
        have HEV := Lib.hid (And.intro hev2 (And.intro hev3 hev4))
        have hck := hcell hov
        have HLN : Hid (own.getD k [] = [] → (own.getD k []).length = 0) := Lib.hid (fun h => by rw [h]; rfl)
        have HLP : Hid (own.getD k [] ≠ [] → 0 < (own.getD k []).length) := Lib.hid (fun h => List.length_pos_iff.2 h)
        obtain ⟨x, hx⟩ : ∃ x, own.getD k [] = x := ⟨_, rfl⟩
        rw [hx] at HADD HCELL HRAD HEV hck hst HLN HLP
        have HST2 := Lib.hid hst
        obtain ⟨xl, hxl⟩ : ∃ xl, x.length = xl := ⟨_, rfl⟩
        have HXL := Lib.hid hxl
        rw [hxl] at HADD HCELL HRAD HEV hck HLN HLP
        obtain ⟨sn, hsn⟩ : ∃ sn, S.length = sn := ⟨_, rfl⟩
        have HSN := Lib.hid hsn
        have HLX := Lib.hid (fun k hk => (hX.lt (g := k) hk).2)
        subst hoa
        rw [hsn]
        clear hX hov hrv hb hsok hsl hss hS hst e1 e2 e3 e4 hev1 hev2 hev3 hev4 hcell hx5 hx hxl hsn hko HST
        go_wp2_with fail
        refine HADD.out.mono ?_
        rintro e w5 ⟨rfl, nb2, nc2, rv2, av2, hav2, hX2, hTu2⟩
        obtain rfl := hav2 trivial
        have hov5 := HOVr.out.turn hTu2
        have hrv5 := HRVr.out.turn hTu2
        have hc5 := HCELL.out _ _ hov5
        have HX2 := Lib.hid hX2
        have HTu2 := Lib.hid hTu2
        have HOV5 := Lib.hid hov5
        have HRV5 := Lib.hid hrv5
        have HB5 := Lib.hid (HBr.out.trans (hTu2.sep.below HBr.out.size fun g hg e => by have := (HX.out.lt e).1; omega))
        clear hck hX2 hTu2 hov5 hrv5
        by_cases h0 : x = []
        · have hx0 := HLN.out h0
          subst hx0
          have hadd : addS S x = S := by rw [h0]; rfl
          rw [if_pos h0, if_pos h0]
          rw [hadd] at HX2 HTu2 HOV5 HRV5 HST2
          clear h0 hadd
          go_wp2_with fail
          go_roundw
          case rel =>
            have hov9 := HOV5.out
            have hrv9 := HRV5.out
            have hst := HST2.out
            refine ⟨k + 1, nb2, nc2, rv2, ra, rc, vs, by omega, by go_num, by rw [hst, HSN.out], by rw [hst]; exact HX2.out, by rw [hst]; exact hov9, by rw [hst]; exact hrv9, HB5.out⟩
          case measure => simp [intOf]; omega
        · have hxp := HLP.out h0
          have hxb : ((xl : Int) == 0) = false := by rw [beq_eq_false_iff_ne]; omega
          have hxi : ¬ xl = 0 := by omega
          have hok5 : ∀ w', Sep (Fw sb tb nb2 mb (pathsOf (addS S x)).length rv2) w5 w' → Ok1 w' (.slice aj xl cj) x := fun w' hs => ⟨aj, cj, by rw [HXL.out], by rw [HXL.out]; exact HEV.out.2.2 w' (HTu2.out.sepAll hs), by rw [HXL.out]; exact HEV.out.1, HEV.out.2.1⟩
          have hRA := HRAD.out w5 h0 HRV5.out.now (hok5 w5 (Sep.refl _ _))
          rw [HSN.out] at hRA
          have HRA := Lib.hid hRA
          have HRS := Lib.hid (fun e w' h => radd_stands (rc := rc) (e := e) (w' := w') h0 HRV5.out hok5 (fun g hg => (HX2.out.lt hg).2) h)
          rw [HSN.out] at HRS
          rw [if_neg h0, if_neg h0]
          obtain ⟨y, hy⟩ : ∃ y, findV (addS S x) x = y := ⟨_, rfl⟩
          rw [hy] at HRS ⊢
          have hyy : (y != y) = false := by simp
          clear h0 hok5 hRA hy
          go_wp2_with fail
          refine HRA.out.mono ?_
          rintro e w6 hra6
          obtain ⟨ra6, rc6, vs6, rfl, hrv6, hb6⟩ := HRS.out e w6 hra6
          have HRV6 := Lib.hid hrv6
          have HB6 := Lib.hid hb6
          clear hra6 hrv6 hb6
          go_wp2_with fail
          go_roundw
          case rel =>
            have hst := HST2.out
            refine ⟨k + 1, nb2, nc2, rv2, ra6, rc6, vs6, by omega, by go_num, by rw [hst], by rw [hst]; exact HX2.out.later HB6.out, by rw [hst]; exact HOV5.out.below HB6.out, by rw [hst]; exact HRV6.out, bel_step HB5.out HB6.out⟩
          case measure => simp [intOf]; omega
      · obtain rfl : k = m := by omega
        have hltI : ¬ (k : Int) < (k : Int) := by omega
        have hta : own.take k = own := by rw [← HM.out]; exact List.take_length
        have hfin : BegW own w (.returned (.tuple #[.pointer (some ⟨sb, 0, none⟩), .slice ra S.length rc])) wr := by
          have e : setOf own = S := by rw [← HSE.out, hta]
          exact ⟨w.heap.size, sb, tb, nb1, nc1, mb, rv1, ra, rc, vs, by rw [e], by rw [e]; exact hX, by rw [e]; exact hrv, Nat.le_refl _, hb⟩
        have HFIN := Lib.hid hfin
        clear hX hov hrv hb hfin hta HST
        go_wp2_with fail
        go_ret2
        have h9 := HFIN.out
        rw [← HOWN.out] at h9
        exact h9
end Go.Proofs.Ytpkikhoicobmcaa
