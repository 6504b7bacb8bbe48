/- AutomatonOwn: an automaton is of the tree as it was: the walk of the law. No condition. -/
import Derived.Test.YtehmbnloplamaaaZAuU
import Derived.Test.YtehmbnloplamaaaAuO
import Derived.Test.YtehmbnloplamaaaZgAu
namespace Go.Proofs.Ytehmbnloplamaaa
open Go.RowKit
set_option linter.unusedVariables false
open Tr Au
/-- a word is put, or refused -/
theorem put_any {w : World} {B tb nb nc : Nat} {rv : Nat → Value} {L V : LL} (h : TrP w B tb nb nc rv L V) (hI : Iw L V) {a : Option Addr} {m c : Nat} {l : List Int} (hs : ∀ w', Sep (Fp tb nb L.length rv) w w' → SlK .u64 w' a m l) (hm5 : m ≤ 100) (hmc : m ≤ c) (hc9 : c ≤ 9223372036854775807) (hlen : L.length ≤ 900) (hdep : ∀ x ∈ L, x.length ≤ 900) (hwl : V.length ≤ 1000) :
    Calls Try.prog 32 #[.pointer (some ⟨tb, 0, none⟩), .slice a m c] w fun e w' => (∃ u v, e = .returned (.tuple #[.int .i64 u, .int .i64 v])) ∧ ∃ F', Turn w (Fp tb nb L.length rv) w' F' := by
  rcases Nat.eq_zero_or_pos m with rfl | hm
  · refine (put_nil h hI.inv a c).mono ?_
    rintro e w' ⟨rfl, hb⟩
    exact ⟨⟨_, _, rfl⟩, _, Turn.below hb⟩
  · obtain ⟨b, o, rfl, _⟩ := slk_at (hs w (Sep.refl _ _)) hm
    refine (put_tr h hI hs hm hm5 hmc hc9 hlen hdep hwl).mono ?_
    rintro e w' ⟨rfl, nb', nc', rv', _, ht⟩
    exact ⟨⟨_, _, rfl⟩, _, ht⟩
/-- what was made of a tree stands, whatever the tree does -/
theorem own_kept {w w9 W2 : World} {B ab sb b7 nl nw lc wc : Nat} {rva : Nat → Value} {L V : LL} {F F' : Nat → Prop} {la wa : Option Addr} {vs us : List Value} (hA : AuP w9 B ab sb rva L V) (hB : ∀ g, F g → g < B) (hrl : RvS (Gp F b7 b7) w9 la nl vs L) (hrw : RvS (Gp F b7 b7) w9 wa nw us V) (h7 : Tv w9 b7 (.slice la nl lc) (.slice wa nw wc)) (hn7 : ¬ F b7) (hb : Below w.heap.size w w9) (hlow : ∀ g, F g → w.heap.size ≤ g) (ht : Turn w9 F W2 F') :
    AuP W2 B ab sb rva L V ∧ Rv W2 la nl vs L ∧ Rv W2 wa nw us V ∧ Tv W2 b7 (.slice la nl lc) (.slice wa nw wc) ∧ Below w.heap.size w W2 := by
  refine ⟨AuX.of_blocks hA fun g hg => ht.sep.block g (AuX.lt hA hg).2 (fun e => ?_), hrl W2 (ht.sep.mono fun _ e => .inl e), hrw W2 (ht.sep.mono fun _ e => .inl e), (h7.turn ht hn7).1, hb.trans (ht.sep.below hb.size fun g hg e => ?_)⟩
  · have := hB g e; have := (AuX.lt hA hg).1; omega
  · have := hlow g e; omega
set_option maxRecDepth 100000 in
set_option maxHeartbeats 4000000 in
theorem automatonOwn_walk (a0 : Option Addr) (len0 cap0 : Nat) (a1 : Option Addr) (len1 cap1 : Nat) (z1 : List Int) (w : World) (w0 : IsRows w a0 len0 cap0) (w1 : IsRow .u64 w a1 len1 cap1 z1) :
    Calls Try.prog 7 #[.slice a0 len0 cap0, .slice a1 len1 cap1] w fun e w' => e = .returned (.bool true) ∧ Below w.heap.size w w' := by
  obtain ⟨A, N, C, Z, hat⟩ := isrows_at w0
  have hsm := small_tr (cap := cap0) hat (isrows_len w0)
  have e13 : smallV (rowsIn N Z (min len0 8)) = own13 false N Z (min len0 8) := by unfold own13; rw [if_neg (by simp)]
  rw [e13] at hsm
  have hol := Nat.le_trans (own13_len false N Z (min len0 8)) (Nat.min_le_right len0 8)
  have hos := own13_short false N Z (min len0 8)
  have hone := own13_ne (raw := false) (N := N) (Z := Z) (q := min len0 8) (fun i hi => by
    obtain ⟨_, hir⟩ := hat i (by omega)
    exact (isrow_len hir).2.1)
  obtain ⟨own, hown⟩ : ∃ own, own13 false N Z (min len0 8) = own := ⟨_, rfl⟩
  rw [hown] at hsm hol hos hone
  obtain ⟨m, hm⟩ : ∃ m, own.length = m := ⟨_, rfl⟩
  rw [hm] at hol
  have HM := Lib.hid hm
  have HSM := Lib.hid hsm
  unfold SmallR at HSM
  rw [hm] at HSM
  have HOS := Lib.hid hos
  have HONE := Lib.hid hone
  have hz := isrow_len w1
  obtain ⟨z5, hz5⟩ : ∃ q, min len1 5 = q := ⟨_, rfl⟩
  have hz52 : z5 ≤ len1 := by omega
  have hz55 : z5 ≤ 5 := by omega
  have HZA := Lib.hid (isrow_takeK w1 z5 hz52)
  obtain ⟨hz1, hz2, hz3, hz4⟩ := hz
  clear w0 w1 hat hsm e13 hos hone hown hm
  go_enter Try.func7, Try.ntmps7
  go_upto_region 2 with (go_at_call 29; refine HSM.out.mono ?_; rintro e w1 ⟨oa, oc, ovs, rfl, hov, hoc1, hoc2, hb⟩; have HOV1 := Lib.hid (hov w1 (Fr.below (Below.refl _ _))); have HB1 := Lib.hid hb; clear hov hb)
  go_upto_region 3 with (go_at_call 30; refine (new_tr _).mono ?_; rintro e w2 ⟨tb, nb, rfl, hT, hb, h1, h2⟩; have HT2 := Lib.hid hT; have HB2 := Lib.hid hb; have HTB := Lib.hid h1; have HNB := Lib.hid h2; clear hT hb h1 h2)
  go_wp2_with fail
  refine (refNew_tr _).mono ?_
  rintro e w3 ⟨g, rfl, hg, hcell, hb3⟩
  have HG := Lib.hid hg
  have HGC := Lib.hid hcell
  have HB3 := Lib.hid hb3
  clear hg hcell hb3
  go_upto_region 4 with fail
  obtain ⟨W4, hW4⟩ : ∃ W4, w3.alloc (.cells #[.slice (some ⟨g, 0, none⟩) 1 1, .slice none 0 0] 25) = W4 := ⟨_, rfl⟩
  have hb4 := box1T w3 (.cells #[.slice (some ⟨g, 0, none⟩) 1 1, .slice none 0 0] 25)
  have S7 := Tv.new w3 (.slice (some ⟨g, 0, none⟩) 1 1) (.slice none 0 0)
  obtain ⟨b7, hb7⟩ : ∃ b7, w3.heap.size = b7 := ⟨_, rfl⟩
  rw [hW4] at hb4 S7
  try rw [hW4]
  have hb24 := bel_step HB3.out hb4
  have hT4 := HT2.out.later hb24
  have hF0 : ∀ k, Fp tb nb ([[]] : LL).length (fun _ => Value.slice none 0 0) k → k < w2.heap.size := fun k hk => (TrX.lt HT2.out hk).2
  have hFl : ∀ k, Fp tb nb ([[]] : LL).length (fun _ => Value.slice none 0 0) k → w1.heap.size ≤ k := fun k hk => by
    rcases hk with e | e | ⟨_, _, e⟩
    · have := HTB.out; omega
    · have := HNB.out; omega
    · cases e
  have hs12 := HB2.out.size
  have hs23 := HB3.out.size
  have hs01 := HB1.out.size
  have hRL : RvS (Gp (Fp tb nb ([[]] : LL).length (fun _ => Value.slice none 0 0)) w3.heap.size w3.heap.size) W4 (some ⟨g, 0, none⟩) 1 [.slice none 0 0] [[]] := fun w'' hs => by
    have hg3 : W4.heap[g]? = some (.cells #[.slice none 0 0] 43 (0, 0)) := (hb4.block g (Array.getElem?_eq_some_iff.1 HGC.out).1).trans HGC.out
    have hg4 := (hs.block g (Array.getElem?_eq_some_iff.1 hg3).1 (fun e => by
      have h1 := HG.out
      have h2 := (Array.getElem?_eq_some_iff.1 HGC.out).1
      rcases e with e | e | e
      · have := hF0 g e; omega
      · omega
      · omega)).trans hg3
    refine ⟨rfl, rfl, .inr ⟨g, 0, rfl, fun i hi => ?_⟩, fun i hi => ?_⟩
    · obtain rfl : i = 0 := by omega
      simp [World.cell?, hg4]
    · obtain rfl : i = 0 := by omega
      exact ⟨none, 0, rfl, ⟨rfl, .inl rfl⟩, Nat.le_refl _, by omega⟩
  have hRW : RvS (Gp (Fp tb nb ([[]] : LL).length (fun _ => Value.slice none 0 0)) w3.heap.size w3.heap.size) W4 none 0 [] [] := fun w'' _ => ⟨rfl, rfl, .inl rfl, fun i hi => by omega⟩
  have hb14 : Below w1.heap.size w1 W4 := bel_step HB2.out hb24
  have hOV : RvS (Gp (Fp tb nb ([[]] : LL).length (fun _ => Value.slice none 0 0)) w3.heap.size w3.heap.size) W4 oa m ovs own := fun w'' hs => HOV1.out.later (hb14.trans (hs.below hb14.size fun k hk e => by
    rcases e with e | e | e
    · have := hFl k e; omega
    · omega
    · omega))
  have hBw : Below w.heap.size w W4 := bel_step HB1.out hb14
  have HT4 := Lib.hid hT4
  have HRL := Lib.hid hRL
  have HRW := Lib.hid hRW
  have HOV := Lib.hid hOV
  have HBW := Lib.hid hBw
  have HS7 := Lib.hid S7
  have HLOW : Hid (w.heap.size ≤ b7 ∧ w.heap.size ≤ w1.heap.size) := Lib.hid (by omega)
  have HN7 : Hid (¬ Fp tb nb ([[]] : LL).length (fun _ => Value.slice none 0 0) b7) := Lib.hid (fun e => by have := hF0 b7 e; omega)
  rw [hb7] at HS7 HRL HRW HOV ⊢
  clear hb4 S7 hb7 hW4 hb24 hT4 hF0 hFl hs12 hs23 hs01 hRL hRW hb14 hOV hBw
  go_wp2_with fail
  go_loopw [8] (fun s8 wr => ∃ (k nb1 nc1 : Nat) (rv1 : Nat → Value) (la : Option Addr) (lc : Nat) (vs : List Value) (wa : Option Addr) (wc1 : Nat) (us : List Value), k ≤ m ∧ s8 = .int .i64 k ∧ TrP wr w1.heap.size tb nb1 nc1 rv1 (treeOf (own.take k)).1 (treeOf (own.take k)).2 ∧ RvS (Gp (Fp tb nb1 (treeOf (own.take k)).1.length rv1) b7 b7) wr oa m ovs own ∧ RvS (Gp (Fp tb nb1 (treeOf (own.take k)).1.length rv1) b7 b7) wr la (treeOf (own.take k)).1.length vs (treeOf (own.take k)).1 ∧ RvS (Gp (Fp tb nb1 (treeOf (own.take k)).1.length rv1) b7 b7) wr wa (treeOf (own.take k)).2.length us (treeOf (own.take k)).2 ∧ Tv wr b7 (.slice la (treeOf (own.take k)).1.length lc) (.slice wa (treeOf (own.take k)).2.length wc1) ∧ ¬ Fp tb nb1 (treeOf (own.take k)).1.length rv1 b7 ∧ Below w.heap.size w wr) (fun s8 _ => m - (intOf s8).toNat)
  case atStart =>
    exact ⟨0, nb, 1, fun _ => .slice none 0 0, some ⟨g, 0, none⟩, 1, [.slice none 0 0], none, 0, [], Nat.zero_le _, rfl, HT4.out, HOV.out, HRL.out, HRW.out, HS7.out, HN7.out, HBW.out⟩
  case round =>
    obtain ⟨k, nb1, nc1, rv1, la, lc, vs, wa, wc1, us, hk, rfl, hT, hov, hrl, hrw, h7, hn7, hb⟩ := hrel
    have hiw := treeOf_iw (own.take k)
    have htl := treeOf_len (own.take k) (fun r hr => HOS.out r (List.mem_of_mem_take hr))
    have htd := paths_short (own := own.take k) (fun r hr => HOS.out r (List.mem_of_mem_take hr))
    rw [List.length_take] at htl
    have HOWT := Lib.hid (fun (h : k < own.length) => treeOf_take h)
    obtain ⟨T, hTe⟩ : ∃ T, treeOf (own.take k) = T := ⟨_, rfl⟩
    rw [hTe] at hT hov hrl hrw h7 hn7 hiw htl htd HOWT
    obtain ⟨L, Wd⟩ := T
    simp only at hT hov hrl hrw h7 hn7 hiw htl htd HOWT
    have HT := Lib.hid hT
    have HOVr := Lib.hid hov
    have HRLr := Lib.hid hrl
    have HRWr := Lib.hid hrw
    have HS7r := Lib.hid h7
    have HN7r := Lib.hid hn7
    have HBr := Lib.hid hb
    have HIW := Lib.hid hiw
    have HTD := Lib.hid htd
    obtain ⟨nl, hnl⟩ : ∃ nl, L.length = nl := ⟨_, rfl⟩
    obtain ⟨nw, hnw⟩ : ∃ nw, Wd.length = nw := ⟨_, rfl⟩
    have HNL := Lib.hid hnl
    have HNW := Lib.hid hnw
    have hnl9 : nl ≤ 41 := by omega
    have hnw9 : nw ≤ 8 := by omega
    clear hT hov hrl hrw hn7 hb hiw htl htd hTe
    by_cases hlt : k < m
    · have hltI : (k : Int) < (m : Int) := by omega
      have hk0 : (0 : Int) ≤ (k : Int) := Int.natCast_nonneg _
      have hst := HOWT.out (by rw [HM.out]; exact hlt)
      have hxs : (own.getD k []).length ≤ 5 := HOS.out _ (gD_mem (by rw [HM.out]; exact hlt))
      obtain ⟨ai, ci, ev, hc1, hc2, hsl⟩ := rvs_ok1 HOVr.out hlt
      have hcl : ∃ b o, oa = some ⟨b, o, none⟩ ∧ wr.cell? ⟨b, o + k, none⟩ = some (.slice ai (own.getD k []).length ci) := by
        rcases HOVr.out.now.cells with h0 | ⟨b, o, e, hc⟩
        · omega
        · exact ⟨b, o, e, by rw [hc k hlt, ev]⟩
      obtain ⟨b, o, rfl, hcell⟩ := hcl
      obtain ⟨x, hx⟩ : ∃ x, own.getD k [] = x := ⟨_, rfl⟩
      rw [hx] at hst hxs hc1 hsl hcell ev
      obtain ⟨xl, hxl⟩ : ∃ xl, x.length = xl := ⟨_, rfl⟩
      rw [hxl] at hxs hc1 hsl hcell
      have HXL := Lib.hid hxl
      have HXE := Lib.hid (show own.getD k [] ≠ [] → xl = 0 → False by rw [hx]; intro h1 h2; exact h1 (List.length_eq_zero_iff.1 (hxl.trans h2)))
      have HST := Lib.hid hst
      have HSL := Lib.hid hsl
      have HEV := Lib.hid ev
      clear hst hsl hx hxl ev
      have hx0 : ¬ xl = 0 := fun e => HXE.out (HONE.out _ (gD_mem (by rw [HM.out]; exact hlt))) e
      obtain ⟨b2, o2, rfl, _⟩ := slk_at (HSL.out wr (Sep.refl _ _)) (by omega)
      have HPT := Lib.hid (put_tr (c := ci) HT.out HIW.out (fun w' hs => HSL.out w' (hs.mono fun _ e => .inl e)) (by omega) (by omega) hc1 hc2 (by rw [HNL.out]; omega) (fun p hp => Nat.le_trans (HTD.out p hp) (by omega)) (by rw [HNW.out]; omega))
      rw [HNW.out] at HPT
      have HMOVE := Lib.hid (fun (w9 : World) (nb2 nc2 : Nat) (rv2 : Nat → Value) (hT2 : TrP w9 w1.heap.size tb nb2 nc2 rv2 (putL L x) (Wd ++ [x])) (ht : Turn wr (Fp tb nb1 L.length rv1) w9 (Fp tb nb2 (putL L x).length rv2)) => begin_move1 (b7 := b7) HT.out hT2 HLOW.out.1 ht HOVr.out HRLr.out HRWr.out HS7r.out HN7r.out HBr.out HLOW.out.2 HEV.out HSL.out hlt HIW.out.inv (by rw [HNL.out]; omega) (by rw [HNW.out]; omega) hc1 hc2 HXL.out (by omega))
      rw [HNL.out, HNW.out] at HMOVE
      have hxne : x ≠ [] := fun e => hx0 (by rw [← HXL.out, e]; rfl)
      have HXNE := Lib.hid hxne
      clear h7 hnl hnw hxne
      go_wp2_with (go_at_call 32; refine HPT.out.mono ?_; rintro e w9 ⟨rfl, nb2, nc2, rv2, hT2, ht⟩; obtain ⟨m1, m2, m3, m4, m6, m7⟩ := HMOVE.out w9 nb2 nc2 rv2 hT2 (by rw [← HNL.out]; exact ht); obtain ⟨x70, x71⟩ := m4.cells; obtain ⟨f70, f71⟩ := m4.fr; have HM1 := Lib.hid m1; have HM4 := Lib.hid m4; have HM6 := Lib.hid m6; have HM7 := Lib.hid m7; clear hT2 ht m1 m4 m6 m7)
      go_region_law (go_simp; go_at_call 33; refine (HM6.out _ rfl).mono ?_; rintro e w10 ⟨la2, lc2, vs2, wa2, wc2, rfl, h1, h2, h3⟩; have HR1 := Lib.hid h1; have HR2 := Lib.hid h2; have HB10 := Lib.hid h3; have hS := HM4.out.later h3; obtain ⟨y70, y71⟩ := hS.cells; obtain ⟨g70, g71⟩ := hS.fr; have HS10 := Lib.hid hS; clear h1 h2 h3 hS)
      all_goals
        go_wp2_with fail
        go_roundw
        case rel =>
          have hst : treeOf (own.take (k + 1)) = (putL L x, Wd ++ [x]) := by rw [HST.out]; unfold Tr.stepT; rw [if_neg HXNE.out]
          refine ⟨k + 1, nb2, nc2, rv2, la2, lc2, vs2, wa2, wc2, us ++ [.slice (some ⟨b2, o2, none⟩) xl ci], by omega, by go_num, ?_⟩
          rw [hst]
          have hlw : (Wd ++ [x]).length = Wd.length + 1 := by simp
          exact HM7.out _ _ _ _ _ _ _ HB10.out HR1.out (by rw [hlw, HNW.out]; exact HR2.out) HS10.out (by rw [hlw, HNW.out])
        case measure => simp [intOf]; omega
    · obtain rfl : k = m := by omega
      have hltI : ¬ (k : Int) < (k : Int) := by omega
      have hnl1 : 1 ≤ nl := by rw [← hnl]; exact HIW.out.inv.pos
      have HNE := Lib.hid (new_au HT.out HIW.out (by rw [HNL.out]; omega) (by rw [HNW.out]; omega))
      have HBl : Hid (∀ g, Fp tb nb1 L.length rv1 g → w.heap.size ≤ g ∧ g < wr.heap.size) := Lib.hid fun g hg => by
        have h1 := TrX.lt HT.out hg
        have h2 := HLOW.out.2
        exact ⟨by omega, h1.2⟩
      have HRLq : Hid (RvS (Gp (Fp tb nb1 L.length rv1) b7 b7) wr la nl vs L) := Lib.hid (by rw [← hnl]; exact HRLr.out)
      rw [hnl, hnw] at HS7r
      rw [hnw] at HRWr
      clear h7 hnl hnw
      go_upto_region 14 with (go_at_call 34; refine HNE.out.mono ?_; rintro e w9 ⟨ab, sb, rva, rfl, hA, hb9⟩; have HA9 := Lib.hid hA; have HB9 := Lib.hid hb9; clear hA hb9)
      have HT9 := Lib.hid (HT.out.later HB9.out)
      have HLE := Lib.hid (len_tr HT9.out)
      rw [HNL.out] at HLE
      go_upto_region 15 with (go_at_call 35; refine HLE.out.mono ?_; rintro e y0 ⟨rfl, rfl⟩)
      have HW9 := Lib.hid (bel_step HBr.out HB9.out)
      have HRL9 := Lib.hid (HRLq.out.below HB9.out)
      have HRW9 := Lib.hid (HRWr.out.below HB9.out)
      have HS79 := Lib.hid (HS7r.out.later HB9.out)
      have HPA := Lib.hid (put_any (c := cap1) HT9.out HIW.out (fun w' hs => HZA.out.below (HW9.out.trans (hs.below HW9.out.size fun g hg e => by have := (HBl.out g e).1; omega))) (by omega) (by omega) hz4 (by rw [HNL.out]; omega) (fun p hp => Nat.le_trans (HTD.out p hp) (by omega)) (by rw [HNW.out]; omega))
      have HKP := Lib.hid (fun (W2 : World) (F' : Nat → Prop) (ht : Turn w9 (Fp tb nb1 L.length rv1) W2 F') => own_kept (w := w) (b7 := b7) HA9.out (fun g hg => (HBl.out g hg).2) HRL9.out HRW9.out HS79.out HN7r.out HW9.out (fun g hg => (HBl.out g hg).1) ht)
      go_cut [49] from 43 to 49 (fun s49 wx => ∃ W2 : World, W2 = wx ∧ AuP W2 wr.heap.size ab sb rva L Wd ∧ Rv W2 la nl vs L ∧ Rv W2 wa nw us Wd ∧ Tv W2 b7 (.slice la nl lc) (.slice wa nw wc1) ∧ Below w.heap.size w W2)
      case first =>
        by_cases h5 : len1 ≤ 5
        · obtain rfl : z5 = len1 := by omega
          have d1 : decide ((5 : Int) < (z5 : Int)) = false := decide_eq_false (by omega)
          have d2 : decide ((z5 : Int) ≤ (5 : Int)) = true := decide_eq_true (by omega)
          have d3 : (z5 : Int) ≤ 5 := by omega
          have d4 : ¬ (5 : Int) < (z5 : Int) := by omega
          have d5 : ¬ 5 < z5 := by omega
          have d6 : min (z5 : Int) 5 = (z5 : Int) := by omega
          have d7 : (z5 : Int) ≤ (cap1 : Int) := by omega
          have d8 : (0 : Int) ≤ (z5 : Int) := Int.natCast_nonneg _
          clear hz5
          go_wp2_with (go_at_call 32; refine HPA.out.mono ?_; rintro e w12 ⟨⟨u1, u2, rfl⟩, F', ht⟩; have HFN := Lib.hid (HKP.out w12 F' ht); clear ht)
          go_meet
          case rel => exact ⟨_, rfl, HFN.out⟩
        · have d1 : decide ((5 : Int) < (len1 : Int)) = true := decide_eq_true (by omega)
          obtain rfl : z5 = 5 := by omega
          have d2 : decide ((len1 : Int) ≤ (5 : Int)) = false := decide_eq_false (by omega)
          have d3 : ¬ (len1 : Int) ≤ 5 := by omega
          have d4 : (5 : Int) < (len1 : Int) := by omega
          have d5 : 5 < len1 := by omega
          have d6 : min (len1 : Int) 5 = 5 := by omega
          have d7 : (5 : Int) ≤ (cap1 : Int) := by omega
          have d9 : ¬ len1 < 5 := by omega
          clear hz5
          go_wp2_with (go_at_call 32; refine HPA.out.mono ?_; rintro e w12 ⟨⟨u1, u2, rfl⟩, F', ht⟩; have HFN := Lib.hid (HKP.out w12 F' ht); clear ht)
          go_meet
          case rel => exact ⟨_, rfl, HFN.out⟩
      case rest =>
        obtain ⟨W2, rfl, hA2, hR1, hR2, hS7, hB2⟩ := hcut
        have HTa := Lib.hid hA2
        have HRL2 := Lib.hid hR1
        have HRW2 := Lib.hid hR2
        have HS4 := Lib.hid hS7
        have HBE := Lib.hid hB2
        clear hA2 hR1 hR2 hS7 hB2 hz5
        go_wp2_with fail
        go_loopw [11] (fun s11 wr => ∃ i : Nat, i ≤ nl ∧ s11 = .int .i64 i ∧ Below W2.heap.size W2 wr) (fun s11 _ => nl - (intOf s11).toNat)
        case atStart => exact ⟨0, by omega, rfl, Below.refl _ _⟩
        case round =>
          obtain ⟨i, hi, rfl, hb⟩ := hrel
          have HB := Lib.hid hb
          obtain ⟨x0, x1⟩ := (HS4.out.later hb).cells
          clear hb
          obtain ⟨W6, rfl⟩ : ∃ W6, W6 = wr := ⟨_, rfl⟩
          by_cases hit : i < nl
          · have hitI : (i : Int) < (nl : Int) := by omega
            have hi0 : (0 : Int) ≤ (i : Int) := Int.natCast_nonneg _
            have HFa := Lib.hid (fun (W' : World) (hw : Below W6.heap.size W6 W') => fall_P (HTa.out.later (bel_step HB.out hw)) HIW.out (i : Int))
            have HFb := Lib.hid (fun (W' : World) (hw : Below W6.heap.size W6 W') => refFall_tr (wa := wa) (wn := nw) (wc := wc1) (lc := lc) (HRL2.out.later (bel_step HB.out hw)) HIW.out.inv (by omega) (i : Int))
            have HEa := Lib.hid (fun (W' : World) (hw : Below W6.heap.size W6 W') => ends_P (HTa.out.later (bel_step HB.out hw)) HIW.out (by have := HNW.out; omega) (i : Int))
            have HEb := Lib.hid (fun (W' : World) (hw : Below W6.heap.size W6 W') => refEnds_tr (lc := lc) (wc := wc1) (HRL2.out.later (bel_step HB.out hw)) (HRW2.out.later (bel_step HB.out hw)) (fun x hx => (HIW.out.ws x hx).2) (by omega) (by omega) (i : Int))
            unfold EndsR at HEa
            unfold REndsR at HEb
            obtain ⟨xf, hxf⟩ : ∃ x, fallV L (i : Int) = x := ⟨_, rfl⟩
            rw [hxf] at HFa HFb
            obtain ⟨D, hD⟩ : ∃ x, finV L Wd (i : Int) = x := ⟨_, rfl⟩
            have hDl : D.length ≤ 1000 := by
              rw [← hD]; unfold finV; split
              · simp
              · exact Nat.le_trans (fin_len _ _) (by have := HNW.out; omega)
            rw [hD] at HEa HEb
            obtain ⟨nd, hnd⟩ : ∃ x, D.length = x := ⟨_, rfl⟩
            rw [hnd] at HEa HEb hDl
            have HND := Lib.hid hnd
            have e1 : (xf != xf) = false := by simp
            clear hxf hD hnd
            have HX1 := Lib.hid (fun (W' : World) (hw : Below W6.heap.size W6 W') => (HS4.out.later (bel_step HB.out hw)).cells)
            go_upto_region 19 with fail
            have hS : W6.drew.cell? ⟨b7, 0, none⟩ = some (.slice la nl lc) ∧ W6.drew.cell? ⟨b7, 1, none⟩ = some (.slice wa nw wc1) := HX1.out _ (Below.refl _ _).drew
            refine wp_region_held_drew (S := fun w' => w'.cell? ⟨b7, 0, none⟩ = some (.slice la nl lc) ∧ w'.cell? ⟨b7, 1, none⟩ = some (.slice wa nw wc1)) (by kernel_rfl) hS (fun _ => ?_)
            refine wpAnyH_take (i := 0) (v := .pointer (some ⟨ab, 0, none⟩)) rfl (by kernel_rfl) (by kernel_rfl) (by kernel_rfl) (fun _ _ _ h => h) (Or.inl ⟨by kernel_rfl, fun w9 hSw => ?_⟩) hS ?_
            · obtain ⟨s1, s2⟩ := hSw
              go_simp
            change wpAnyH _ _ _ _ _ _ _ (Act.put _ (some 55) (.pointer (some ⟨ab, 0, none⟩))) _
            (try simp only [Act.put, List.setIfInBounds_toArray, List.set_cons_zero, List.set_cons_succ])
            refine wpAnyH_take (i := 1) (v := .int .i64 (i : Int)) rfl (by kernel_rfl) (by kernel_rfl) (by kernel_rfl) (fun _ _ _ h => h) (Or.inl ⟨by kernel_rfl, fun w9 hSw => ?_⟩) hS ?_
            · obtain ⟨s1, s2⟩ := hSw
              go_simp
            change wpAnyH _ _ _ _ _ _ _ (Act.put _ (some 56) (.int .i64 (i : Int))) _
            (try simp only [Act.put, List.setIfInBounds_toArray, List.set_cons_zero, List.set_cons_succ])
            refine wpAnyH_take (i := 3) (v := .agg #[.slice la nl lc, .slice wa nw wc1]) rfl (by kernel_rfl) (by kernel_rfl) (by kernel_rfl) (fun _ _ _ h => h) (Or.inl ⟨by kernel_rfl, fun w9 hSw => ?_⟩) hS ?_
            · obtain ⟨s1, s2⟩ := hSw
              go_simp
            change wpAnyH _ _ _ _ _ _ _ (Act.put _ (some 58) (.agg #[.slice la nl lc, .slice wa nw wc1])) _
            (try simp only [Act.put, List.setIfInBounds_toArray, List.set_cons_zero, List.set_cons_succ])
            refine wpAnyH_take (i := 4) (v := .int .i64 (i : Int)) rfl (by kernel_rfl) (by kernel_rfl) (by kernel_rfl) (fun _ _ _ h => h) (Or.inl ⟨by kernel_rfl, fun w9 hSw => ?_⟩) hS ?_
            · obtain ⟨s1, s2⟩ := hSw
              go_simp
            change wpAnyH _ _ _ _ _ _ _ (Act.put _ (some 59) (.int .i64 (i : Int))) _
            (try simp only [Act.put, List.setIfInBounds_toArray, List.set_cons_zero, List.set_cons_succ])
            refine wpAnyH_ready (rs := [2]) (by kernel_rfl) (by simp) ?_
            refine AllReadyH.cons rfl (fun K hK => ?_) AllReadyH.nil
            go_simp
            refine (HFa.out _ (Below.refl _ _).drew).mono ?_
            rintro e y1 ⟨rfl, hbb⟩
            have HY1 := Lib.hid (bel_und hbb)
            have hS2 := HX1.out _ HY1.out
            clear hS hbb
            have hS := hS2
            clear hS2
            refine hK.out _ _ hS (fun _ => ?_)
            clear hK K
            (try simp only [Act.put, List.setIfInBounds_toArray, List.set_cons_zero, List.set_cons_succ])
            refine wpAnyH_ready (rs := [5]) (by kernel_rfl) (by simp) ?_
            refine AllReadyH.cons rfl (fun K hK => ?_) AllReadyH.nil
            go_simp
            refine (HFb.out _ HY1.out).mono ?_
            rintro e y2 ⟨rfl, hbb⟩
            have HY2 := Lib.hid (bel_step HY1.out hbb)
            have hS2 := HX1.out _ HY2.out
            clear hS hbb
            have hS := hS2
            clear hS2
            refine hK.out _ _ hS (fun _ => ?_)
            clear hK K
            (try simp only [Act.put, List.setIfInBounds_toArray, List.set_cons_zero, List.set_cons_succ])
            refine wpAnyH_take (i := 6) (v := .bool false) rfl (by kernel_rfl) (by kernel_rfl) (by kernel_rfl) (fun _ _ _ h => h) (Or.inl ⟨by kernel_rfl, fun w9 hSw => ?_⟩) hS ?_
            · obtain ⟨s1, s2⟩ := hSw
              go_simp
            change wpAnyH _ _ _ _ _ _ _ (Act.put _ (some 61) (.bool false)) _
            (try simp only [Act.put, List.setIfInBounds_toArray, List.set_cons_zero, List.set_cons_succ])
            refine wpAnyH_take (i := 7) (v := .bool false) rfl (by kernel_rfl) (by kernel_rfl) (by kernel_rfl) (fun _ _ _ h => h) (Or.inl ⟨by kernel_rfl, fun w9 hSw => ?_⟩) hS ?_
            · obtain ⟨s1, s2⟩ := hSw
              go_simp
            change wpAnyH _ _ _ _ _ _ _ (Act.put _ (some 62) (.bool false)) _
            (try simp only [Act.put, List.setIfInBounds_toArray, List.set_cons_zero, List.set_cons_succ])
            refine wpAnyH_take (i := 8) (v := .pointer (some ⟨ab, 0, none⟩)) rfl (by kernel_rfl) (by kernel_rfl) (by kernel_rfl) (fun _ _ _ h => h) (Or.inl ⟨by kernel_rfl, fun w9 hSw => ?_⟩) hS ?_
            · obtain ⟨s1, s2⟩ := hSw
              go_simp
            change wpAnyH _ _ _ _ _ _ _ (Act.put _ (some 63) (.pointer (some ⟨ab, 0, none⟩))) _
            (try simp only [Act.put, List.setIfInBounds_toArray, List.set_cons_zero, List.set_cons_succ])
            refine wpAnyH_take (i := 9) (v := .int .i64 (i : Int)) rfl (by kernel_rfl) (by kernel_rfl) (by kernel_rfl) (fun _ _ _ h => h) (Or.inl ⟨by kernel_rfl, fun w9 hSw => ?_⟩) hS ?_
            · obtain ⟨s1, s2⟩ := hSw
              go_simp
            change wpAnyH _ _ _ _ _ _ _ (Act.put _ (some 64) (.int .i64 (i : Int))) _
            (try simp only [Act.put, List.setIfInBounds_toArray, List.set_cons_zero, List.set_cons_succ])
            refine wpAnyH_take (i := 11) (v := .agg #[.slice la nl lc, .slice wa nw wc1]) rfl (by kernel_rfl) (by kernel_rfl) (by kernel_rfl) (fun _ _ _ h => h) (Or.inl ⟨by kernel_rfl, fun w9 hSw => ?_⟩) hS ?_
            · obtain ⟨s1, s2⟩ := hSw
              go_simp
            change wpAnyH _ _ _ _ _ _ _ (Act.put _ (some 66) (.agg #[.slice la nl lc, .slice wa nw wc1])) _
            (try simp only [Act.put, List.setIfInBounds_toArray, List.set_cons_zero, List.set_cons_succ])
            refine wpAnyH_take (i := 12) (v := .int .i64 (i : Int)) rfl (by kernel_rfl) (by kernel_rfl) (by kernel_rfl) (fun _ _ _ h => h) (Or.inl ⟨by kernel_rfl, fun w9 hSw => ?_⟩) hS ?_
            · obtain ⟨s1, s2⟩ := hSw
              go_simp
            change wpAnyH _ _ _ _ _ _ _ (Act.put _ (some 67) (.int .i64 (i : Int))) _
            (try simp only [Act.put, List.setIfInBounds_toArray, List.set_cons_zero, List.set_cons_succ])
            refine wpAnyH_ready (rs := [10]) (by kernel_rfl) (by simp) ?_
            refine AllReadyH.cons rfl (fun K hK => ?_) AllReadyH.nil
            go_simp
            refine (HEa.out _ HY2.out).mono ?_
            rintro e y4 ⟨fa, fc, rfl, hfa, hbb⟩
            have HFA0 := Lib.hid hfa
            clear hfa
            have HY4 := Lib.hid (bel_step HY2.out hbb)
            have hS2 := HX1.out _ HY4.out
            clear hS hbb
            have hS := hS2
            clear hS2
            refine hK.out _ _ hS (fun _ => ?_)
            clear hK K
            (try simp only [Act.put, List.setIfInBounds_toArray, List.set_cons_zero, List.set_cons_succ])
            refine wpAnyH_ready (rs := [13]) (by kernel_rfl) (by simp) ?_
            refine AllReadyH.cons rfl (fun K hK => ?_) AllReadyH.nil
            go_simp
            refine (HEb.out _ HY4.out).mono ?_
            rintro e y5 ⟨ea, ec, rfl, hea, hbb⟩
            have HEB := Lib.hid hea
            have HFA := Lib.hid (HFA0.out.later hbb)
            clear hea
            have HY5 := Lib.hid (bel_step HY4.out hbb)
            have hS2 := HX1.out _ HY5.out
            clear hS hbb
            have hS := hS2
            clear hS2
            refine hK.out _ _ hS (fun _ => ?_)
            clear hK K
            (try simp only [Act.put, List.setIfInBounds_toArray, List.set_cons_zero, List.set_cons_succ])
            have HSA := Lib.hid (Sm.same_self fa ea nd nd fc ec D y5 (by omega) (by have := HFA.out.sl; rwa [HND.out] at this) (by have := HEB.out.sl; rwa [HND.out] at this))
            refine wpAnyH_ready (rs := [14]) (by kernel_rfl) (by simp) ?_
            refine AllReadyH.cons rfl (fun K hK => ?_) AllReadyH.nil
            go_simp
            refine HSA.out.mono ?_
            rintro e y6 ⟨rfl, hbb⟩
            have HY6 := Lib.hid (bel_step HY5.out hbb)
            have hS2 := HX1.out _ HY6.out
            clear hS hbb
            have hS := hS2
            clear hS2
            refine hK.out _ _ hS (fun _ => ?_)
            clear hK K
            (try simp only [Act.put, List.setIfInBounds_toArray, List.set_cons_zero, List.set_cons_succ])
            refine wpAnyH_take (i := 15) (v := .bool false) rfl (by kernel_rfl) (by kernel_rfl) (by kernel_rfl) (fun _ _ _ h => h) (Or.inl ⟨by kernel_rfl, fun w9 hSw => ?_⟩) hS ?_
            · obtain ⟨s1, s2⟩ := hSw
              go_simp
            change wpAnyH _ _ _ _ _ _ _ (Act.put _ (some 70) (.bool false)) _
            (try simp only [Act.put, List.setIfInBounds_toArray, List.set_cons_zero, List.set_cons_succ])
            refine wpAnyH_take (i := 16) (v := .bool false) rfl (by kernel_rfl) (by kernel_rfl) (by kernel_rfl) (fun _ _ _ h => h) (Or.inl ⟨by kernel_rfl, fun w9 hSw => ?_⟩) hS ?_
            · obtain ⟨s1, s2⟩ := hSw
              go_simp
            change wpAnyH _ _ _ _ _ _ _ (Act.put _ (some 71) (.bool false)) _
            (try simp only [Act.put, List.setIfInBounds_toArray, List.set_cons_zero, List.set_cons_succ])
            refine wpAnyH_done (by kernel_rfl) ?_ _
            (try simp only [Act.put, List.setIfInBounds_toArray, List.set_cons_zero, List.set_cons_succ])
            clear hS
            go_wp2_with fail
            go_loopw [12] (fun s12 wz => ∃ q : Nat, q ≤ 3 ∧ s12 = .int .u64 q ∧ Below W6.heap.size W6 wz) (fun s12 _ => 3 - (intOf s12).toNat)
            case atStart => exact ⟨0, by omega, rfl, HY6.out⟩
            case round =>
              obtain ⟨q, hq, rfl, hbz⟩ := hrel
              have HBZ := Lib.hid hbz
              have HBr2 := Lib.hid (bel_step HB.out hbz)
              clear hbz
              by_cases hqt : q < 3
              · have hqI : (q : Int) < 3 := by omega
                have hq0 : (0 : Int) ≤ (q : Int) := Int.natCast_nonneg _
                have HCa := Lib.hid (fun (W' : World) (hw : Below wr.heap.size wr W') => next_P (HTa.out.later (bel_step HBr2.out hw)) HIW.out (i : Int) (q : Int))
                have HCb := Lib.hid (fun (W' : World) (hw : Below wr.heap.size wr W') => refNext_tr (wa := wa) (wn := nw) (wc := wc1) (lc := lc) (HRL2.out.later (bel_step HBr2.out hw)) HIW.out.inv (by omega) (fun p hp => Nat.le_trans (HTD.out p hp) (by omega)) (i : Int) (q : Int))
                obtain ⟨x, hx⟩ : ∃ x, nextV L (i : Int) (q : Int) = x := ⟨_, rfl⟩
                rw [hx] at HCa HCb
                have e1 : (x != x) = false := by simp
                have HX1 := Lib.hid (fun (W' : World) (hw : Below wr.heap.size wr W') => (HS4.out.later (bel_step HBr2.out hw)).cells)
                clear hx
                go_upto_region 24 with fail
                have hS : wr.drew.cell? ⟨b7, 0, none⟩ = some (.slice la nl lc) ∧ wr.drew.cell? ⟨b7, 1, none⟩ = some (.slice wa nw wc1) := HX1.out _ (Below.refl _ _).drew
                refine wp_region_held_drew (S := fun w' => w'.cell? ⟨b7, 0, none⟩ = some (.slice la nl lc) ∧ w'.cell? ⟨b7, 1, none⟩ = some (.slice wa nw wc1)) (by kernel_rfl) hS (fun _ => ?_)
                refine wpAnyH_take (i := 0) (v := .pointer (some ⟨ab, 0, none⟩)) rfl (by kernel_rfl) (by kernel_rfl) (by kernel_rfl) (fun _ _ _ h => h) (Or.inl ⟨by kernel_rfl, fun w9 hSw => ?_⟩) hS ?_
                · obtain ⟨s1, s2⟩ := hSw
                  go_simp
                change wpAnyH _ _ _ _ _ _ _ (Act.put _ (some 76) (.pointer (some ⟨ab, 0, none⟩))) _
                (try simp only [Act.put, List.setIfInBounds_toArray, List.set_cons_zero, List.set_cons_succ])
                refine wpAnyH_take (i := 1) (v := .int .i64 (i : Int)) rfl (by kernel_rfl) (by kernel_rfl) (by kernel_rfl) (fun _ _ _ h => h) (Or.inl ⟨by kernel_rfl, fun w9 hSw => ?_⟩) hS ?_
                · obtain ⟨s1, s2⟩ := hSw
                  go_simp
                change wpAnyH _ _ _ _ _ _ _ (Act.put _ (some 77) (.int .i64 (i : Int))) _
                (try simp only [Act.put, List.setIfInBounds_toArray, List.set_cons_zero, List.set_cons_succ])
                refine wpAnyH_take (i := 2) (v := .int .u64 (q : Int)) rfl (by kernel_rfl) (by kernel_rfl) (by kernel_rfl) (fun _ _ _ h => h) (Or.inl ⟨by kernel_rfl, fun w9 hSw => ?_⟩) hS ?_
                · obtain ⟨s1, s2⟩ := hSw
                  go_simp
                change wpAnyH _ _ _ _ _ _ _ (Act.put _ (some 78) (.int .u64 (q : Int))) _
                (try simp only [Act.put, List.setIfInBounds_toArray, List.set_cons_zero, List.set_cons_succ])
                refine wpAnyH_take (i := 4) (v := .agg #[.slice la nl lc, .slice wa nw wc1]) rfl (by kernel_rfl) (by kernel_rfl) (by kernel_rfl) (fun _ _ _ h => h) (Or.inl ⟨by kernel_rfl, fun w9 hSw => ?_⟩) hS ?_
                · obtain ⟨s1, s2⟩ := hSw
                  go_simp
                change wpAnyH _ _ _ _ _ _ _ (Act.put _ (some 80) (.agg #[.slice la nl lc, .slice wa nw wc1])) _
                (try simp only [Act.put, List.setIfInBounds_toArray, List.set_cons_zero, List.set_cons_succ])
                refine wpAnyH_take (i := 5) (v := .int .i64 (i : Int)) rfl (by kernel_rfl) (by kernel_rfl) (by kernel_rfl) (fun _ _ _ h => h) (Or.inl ⟨by kernel_rfl, fun w9 hSw => ?_⟩) hS ?_
                · obtain ⟨s1, s2⟩ := hSw
                  go_simp
                change wpAnyH _ _ _ _ _ _ _ (Act.put _ (some 81) (.int .i64 (i : Int))) _
                (try simp only [Act.put, List.setIfInBounds_toArray, List.set_cons_zero, List.set_cons_succ])
                refine wpAnyH_take (i := 6) (v := .int .u64 (q : Int)) rfl (by kernel_rfl) (by kernel_rfl) (by kernel_rfl) (fun _ _ _ h => h) (Or.inl ⟨by kernel_rfl, fun w9 hSw => ?_⟩) hS ?_
                · obtain ⟨s1, s2⟩ := hSw
                  go_simp
                change wpAnyH _ _ _ _ _ _ _ (Act.put _ (some 82) (.int .u64 (q : Int))) _
                (try simp only [Act.put, List.setIfInBounds_toArray, List.set_cons_zero, List.set_cons_succ])
                refine wpAnyH_ready (rs := [3]) (by kernel_rfl) (by simp) ?_
                refine AllReadyH.cons rfl (fun K hK => ?_) AllReadyH.nil
                go_simp
                refine (HCa.out _ (Below.refl _ _).drew).mono ?_
                rintro e v1 ⟨rfl, hbb⟩
                have HV1 := Lib.hid (bel_und hbb)
                have hS2 := HX1.out _ HV1.out
                clear hS hbb
                have hS := hS2
                clear hS2
                refine hK.out _ _ hS (fun _ => ?_)
                clear hK K
                (try simp only [Act.put, List.setIfInBounds_toArray, List.set_cons_zero, List.set_cons_succ])
                refine wpAnyH_ready (rs := [7]) (by kernel_rfl) (by simp) ?_
                refine AllReadyH.cons rfl (fun K hK => ?_) AllReadyH.nil
                go_simp
                refine (HCb.out _ HV1.out).mono ?_
                rintro e v2 ⟨rfl, hbb⟩
                have HV2 := Lib.hid (bel_step HV1.out hbb)
                have hS2 := HX1.out _ HV2.out
                clear hS hbb
                have hS := hS2
                clear hS2
                refine hK.out _ _ hS (fun _ => ?_)
                clear hK K
                (try simp only [Act.put, List.setIfInBounds_toArray, List.set_cons_zero, List.set_cons_succ])
                refine wpAnyH_take (i := 8) (v := .bool false) rfl (by kernel_rfl) (by kernel_rfl) (by kernel_rfl) (fun _ _ _ h => h) (Or.inl ⟨by kernel_rfl, fun w9 hSw => ?_⟩) hS ?_
                · obtain ⟨s1, s2⟩ := hSw
                  go_simp
                change wpAnyH _ _ _ _ _ _ _ (Act.put _ (some 84) (.bool false)) _
                (try simp only [Act.put, List.setIfInBounds_toArray, List.set_cons_zero, List.set_cons_succ])
                refine wpAnyH_done (by kernel_rfl) ?_ _
                (try simp only [Act.put, List.setIfInBounds_toArray, List.set_cons_zero, List.set_cons_succ])
                clear hS
                go_wp2_with fail
                go_roundw
                case rel => exact ⟨q + 1, by omega, by go_num, bel_step HBZ.out HV2.out⟩
                case measure => simp [intOf]; omega
              · obtain rfl : q = 3 := by omega
                have hqI : ¬ ((3 : Nat) : Int) < 3 := by omega
                go_wp2_with fail
                go_roundw
                case rel => exact ⟨i + 1, by omega, by go_num, HBr2.out⟩
                case measure => simp [intOf]; omega
          · obtain rfl : i = nl := by omega
            have hitI : ¬ (i : Int) < (i : Int) := by omega
            have HLn := Lib.hid (len_P (HTa.out.later HB.out))
            rw [HNL.out] at HLn
            go_wp2_with (first
              | (go_at_call 11; refine HLn.out.mono ?_; rintro e y0 ⟨rfl, rfl⟩)
              | (go_at_call 20; refine (lives13_any _).mono ?_; rintro e y3 ⟨rfl, hb3⟩; have HY3 := Lib.hid hb3; clear hb3))
            go_ret
            exact ⟨rfl, bel_step HBE.out (bel_step HB.out HY3.out)⟩
end Go.Proofs.Ytehmbnloplamaaa
