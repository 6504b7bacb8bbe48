/- AutomatonRuns: the states behind numbers, by the code and by the document: the walk of the law. No condition. -/
import Derived.Test.YtehmbnloplamaaaZAuU
import Derived.Test.YtehmbnloplamaaaZgAu
import Derived.Test.YtehmbnloplamaaaAround
namespace Go.Proofs.Ytehmbnloplamaaa
open Go.RowKit
set_option linter.unusedVariables false
open Tr Au
theorem px_take {w : World} {a : Option Addr} {len cap : Nat} {zs : List Int} (h : IsRow .u64 w a len cap zs) (n : Nat) : ∀ x ∈ zs.take n, 0 ≤ x ∧ x ≤ 18446744073709551615 := fun x hx => by
  have := isrow_wfK h x (List.mem_of_mem_take hx)
  simp [Lit.wf, IntKind.min, IntKind.max, IntKind.bits, IntKind.signed] at this; omega
theorem cells2 {W : World} {g : Nat} {t : TypeId} {u v : Value} (h : W.heap[g]? = some (.cells #[u, v] t (0, 0))) : W.cell? ⟨g, 0, none⟩ = some u ∧ W.cell? ⟨g, 1, none⟩ = some v := by
  refine ⟨?_, ?_⟩ <;> simp [World.cell?, h]
theorem two_cells (w : World) (t : TypeId) (u v : Value) {w' : World} (hb : Below (w.alloc (.cells #[u, v] t)).heap.size (w.alloc (.cells #[u, v] t)) w') : w'.cell? ⟨w.heap.size, 0, none⟩ = some u ∧ w'.cell? ⟨w.heap.size, 1, none⟩ = some v := by
  obtain ⟨h1, h2⟩ := cells2 (World.alloc_heap_new w (.cells #[u, v] t))
  exact ⟨cell_later hb h1, cell_later hb h2⟩
set_option maxRecDepth 100000 in
set_option maxHeartbeats 4000000 in
theorem automatonRuns_walk (a0 : Option Addr) (len0 cap0 : Nat) (raw : Bool) (a2 : Option Addr) (len2 cap2 : Nat) (z2 : List Int) (a3 : Int) (w : World) (w0 : IsRows w a0 len0 cap0) (w2 : IsRow .u64 w a2 len2 cap2 z2) (w3 : (Lit.int .i64 a3).wf = true) :
    Calls Try.prog 5 #[.slice a0 len0 cap0, .bool raw, .slice a2 len2 cap2, .int .i64 a3] w fun e w' => e = .returned (.bool true) ∧ Below w.heap.size w w' := by
  obtain ⟨A, N, C, Z, hat⟩ := isrows_at w0
  obtain ⟨L, W, hT, hI, hl1, hl2, hw8, hd5, hx5, hB⟩ := begin13_use (cap := cap0) hat (isrows_len w0) raw
  have HBG := Lib.hid hB
  unfold BegL at HBG
  have HIW := Lib.hid hI
  have HTD := Lib.hid hd5
  have HWS := Lib.hid hx5
  obtain ⟨nl, hnl⟩ : ∃ nl, L.length = nl := ⟨_, rfl⟩
  obtain ⟨nw, hnw⟩ : ∃ nw, W.length = nw := ⟨_, rfl⟩
  have HNL := Lib.hid hnl
  have HNW := Lib.hid hnw
  rw [hnl] at HBG
  rw [hnw] at HBG
  have hnl9 : nl ≤ 41 := by omega
  have hnl1 : 1 ≤ nl := by omega
  have hnw9 : nw ≤ 8 := by omega
  have hz := isrow_len w2
  obtain ⟨q, hq⟩ : ∃ q, min len2 12 = q := ⟨_, rfl⟩
  have hq2 : q ≤ len2 := by omega
  have hq7 : q ≤ 12 := by omega
  have HZA := Lib.hid (isrow_takeK w2 q hq2)
  have HZR := Lib.hid (fun (w' : World) (hb : Below w.heap.size w w') => row_tr (c := cap2) ((isrow_takeK w2 len2 (Nat.le_refl _)).below hb) (px_take w2 len2) hz.1 12 (by decide))
  obtain ⟨hz1, hz2, hz3, hz4⟩ := hz
  rw [hq] at HZR
  have hRl := rowV_len (z2.take len2) 12
  rw [List.length_take, Nat.min_eq_left hz2, hq] at hRl
  obtain ⟨R, hR⟩ : ∃ R, rowV (z2.take len2) 12 = R := ⟨_, rfl⟩
  rw [hR] at HZR hRl
  have HRL9 := Lib.hid hRl
  have hQl : (z2.take q).length = q := by rw [List.length_take]; omega
  obtain ⟨Q, hQ⟩ : ∃ Q, z2.take q = Q := ⟨_, rfl⟩
  rw [hQ] at HZA hQl
  have HQL := Lib.hid hQl
  have hqc : q ≤ cap2 := by omega
  have ha3 : -9223372036854775808 ≤ a3 ∧ a3 ≤ 9223372036854775807 := by simp [Lit.wf, IntKind.min, IntKind.max, IntKind.bits, IntKind.signed] at w3; omega
  have HA3 := Lib.hid ha3
  clear w2 hR hRl hQ hQl w3 ha3
  clear w0 hat hT hnl hnw hI hl1 hl2 hw8 hd5 hx5 hB
  go_enter Try.func5, Try.ntmps5
  go_upto_region 2 with (go_at_call 10; refine HBG.out.mono ?_; rintro e w1 ⟨B, ab, sb, rv, la, lc, vs, wa, wc, us, rfl, hT, hrl, hrw, hb⟩; have HT := Lib.hid hT; have HRL := Lib.hid hrl; have HRW := Lib.hid hrw; have HB := Lib.hid hb; clear hT hrl hrw hb)
  have S4 := Tv.new w1 (.slice la nl lc) (.slice wa nw wc)
  have hb4 := box1T w1 (.cells #[.slice la nl lc, .slice wa nw wc] 25)
  obtain ⟨W2, hW2⟩ : ∃ W2, w1.alloc (.cells #[.slice la nl lc, .slice wa nw wc] 25) = W2 := ⟨_, rfl⟩
  rw [hW2] at S4 hb4
  try rw [hW2]
  obtain ⟨b4, hb4e⟩ : ∃ b4, w1.heap.size = b4 := ⟨_, rfl⟩
  have HT2 := Lib.hid (HT.out.later hb4)
  have HRL2 := Lib.hid (HRL.out.later hb4)
  have HRW2 := Lib.hid (HRW.out.later hb4)
  have HB2 := Lib.hid (bel_step HB.out hb4)
  rw [hb4e] at S4
  try rw [hb4e]
  have HS4 := Lib.hid S4
  clear S4 hb4 hb4e hW2 HT HRW HRL
  have HRow := Lib.hid (fun (w' : World) (hb : Below W2.heap.size W2 w') => HZR.out w' (bel_step HB2.out hb))
  go_upto_region 4 with fail
  go_cut [11] from 32 to 39 (fun s11 wx => ∃ (W5 : World) (g5 : Nat) (ar : Option Addr) (cr : Nat), W5 = wx ∧ s11 = .slice (some ⟨g5, 0, none⟩) 2 2 ∧ (∀ W', Below W5.heap.size W5 W' → W'.cell? ⟨g5, 0, none⟩ = some (.slice a2 q cap2) ∧ W'.cell? ⟨g5, 1, none⟩ = some (.slice ar q cr)) ∧ SlK .u64 W5 ar q R ∧ q ≤ cr ∧ cr ≤ 9223372036854775807 ∧ Below W2.heap.size W2 W5)
  case first =>
    by_cases h7 : len2 ≤ 12
    · obtain rfl : q = len2 := by omega
      have d1 : decide ((12 : Int) < (q : Int)) = false := decide_eq_false (by omega)
      have d2 : decide ((q : Int) ≤ (12 : Int)) = true := decide_eq_true (by omega)
      have d3 : (q : Int) ≤ 12 := by omega
      have d4 : ¬ (12 : Int) < (q : Int) := by omega
      have d5 : ¬ 12 < q := by omega
      have d6 : min (q : Int) 12 = (q : Int) := by omega
      have d7 : (q : Int) ≤ (cap2 : Int) := by omega
      have d8 : (0 : Int) ≤ (q : Int) := Int.natCast_nonneg _
      clear hq
      go_region_law (go_simp; go_at_call 23; refine (HRow.out _ ((Below.refl _ _).drew)).mono ?_; rintro e w9 ⟨v, rfl, ho, hb9⟩; have HB9 := Lib.hid (bel_und hb9); obtain ⟨ar, cr, er, o1, o2, o3⟩ := ok1_own ho (by omega) (Fr.below (Below.refl _ _)).p; rw [HRL9.out] at er o1 o2; subst er; have HO9 := Lib.hid o1; clear ho hb9 o1)
      all_goals
        have hba := box1T w9 (.cells #[.slice a2 q cap2, .slice ar q cr] 43)
        go_wp2_with fail
        go_meet
        case rel => exact ⟨_, _, ar, cr, rfl, rfl, fun W' hb => two_cells w9 43 (.slice a2 q cap2) (.slice ar q cr) (w' := W') hb, HO9.out.below hba, o2, o3, bel_step HB9.out hba⟩
    · have d1 : decide ((12 : Int) < (len2 : Int)) = true := decide_eq_true (by omega)
      obtain rfl : q = 12 := by omega
      have d2 : decide ((len2 : Int) ≤ (12 : Int)) = false := decide_eq_false (by omega)
      have d3 : ¬ (len2 : Int) ≤ 12 := by omega
      have d4 : (12 : Int) < (len2 : Int) := by omega
      have d5 : 12 < len2 := by omega
      have d6 : min (len2 : Int) 12 = 12 := by omega
      have d7 : (12 : Int) ≤ (cap2 : Int) := by omega
      have d9 : ¬ len2 < 12 := by omega
      clear hq
      go_region_law (go_simp; go_at_call 23; refine (HRow.out _ ((Below.refl _ _).drew)).mono ?_; rintro e w9 ⟨v, rfl, ho, hb9⟩; have HB9 := Lib.hid (bel_und hb9); obtain ⟨ar, cr, er, o1, o2, o3⟩ := ok1_own ho (by omega) (Fr.below (Below.refl _ _)).p; rw [HRL9.out] at er o1 o2; subst er; have HO9 := Lib.hid o1; clear ho hb9 o1)
      all_goals
        have hba := box1T w9 (.cells #[.slice a2 12 cap2, .slice ar 12 cr] 43)
        go_wp2_with fail
        go_meet
        case rel => exact ⟨_, _, ar, cr, rfl, rfl, fun W' hb => two_cells w9 43 (.slice a2 12 cap2) (.slice ar 12 cr) (w' := W') hb, HO9.out.below hba, o2, o3, bel_step HB9.out hba⟩
  case rest =>
    obtain ⟨W5, g5, ar, cr, rfl, rfl, hc, hsr, hcr1, hcr2, hb5⟩ := hcut
    have HC := Lib.hid hc
    have HB5 := Lib.hid hb5
    have HSR := Lib.hid hsr
    have HSA := Lib.hid (HZA.out.below (bel_step HB2.out hb5))
    clear hc hsr hb5 hq
    go_wp2_with fail
    go_loopw [12] (fun s12 wr => ∃ i : Nat, i ≤ 2 ∧ s12 = .int .i64 i ∧ Below W5.heap.size W5 wr) (fun s12 _ => 2 - (intOf s12).toNat)
    case atStart => exact ⟨0, by omega, rfl, Below.refl _ _⟩
    case round =>
      obtain ⟨i, hi, rfl, hb⟩ := hrel
      have HB := Lib.hid hb
      by_cases hlt : i < 2
      · have hltI : (i : Int) < 2 := by omega
        have hi0 : (0 : Int) ≤ (i : Int) := Int.natCast_nonneg _
        obtain ⟨ak, ck, X, hcell, hsk, hXl, hck1, hck2⟩ : ∃ ak ck X, (∀ W', Below wr.heap.size wr W' → W'.cell? ⟨g5, i, none⟩ = some (.slice ak q ck)) ∧ (∀ W', Below wr.heap.size wr W' → SlK .u64 W' ak q X) ∧ X.length = q ∧ q ≤ ck ∧ ck ≤ 9223372036854775807 := by
          rcases Nat.eq_zero_or_pos i with rfl | h
          · exact ⟨a2, cap2, Q, fun W' hw => (HC.out W' (bel_step hb hw)).1, fun W' hw => HSA.out.below (bel_step hb hw), HQL.out, by omega, hz4⟩
          · obtain rfl : i = 1 := by omega
            exact ⟨ar, cr, R, fun W' hw => (HC.out W' (bel_step hb hw)).2, fun W' hw => HSR.out.below (bel_step hb hw), HRL9.out, hcr1, hcr2⟩
        have HTr := Lib.hid (HT2.out.later (bel_step HB5.out hb))
        have HXL := Lib.hid hXl
        have HCI := Lib.hid hcell
        have HSK := Lib.hid hsk
        have HRun := Lib.hid (run_in (c := ck) HTr.out HIW.out (k := 0) (by omega) (by rw [HNL.out]; omega) (hsk _ (Below.refl _ _)) (by omega))
        have cx := hcell _ (Below.refl _ _)
        have HBr := Lib.hid (bel_step HB5.out hb)
        clear hb hcell hsk hXl
        obtain ⟨Wr, hWr⟩ : ∃ Wr, Wr = wr := ⟨_, rfl⟩
        subst hWr
        go_upto_region 9 with (go_at_call 24; refine HRun.out.mono ?_; rintro e wR ⟨as', cs, rfl, hsl, hb1⟩; have HSS := Lib.hid hsl; have HBR := Lib.hid hb1; have cy := HCI.out _ hb1; clear hsl hb1 cx)
        have eqq : ((q : Int) != (q : Int)) = false := by simp
        go_wp2_with fail
        go_loopw [14] (fun s14 wk => ∃ k : Nat, k ≤ q ∧ s14 = .int .i64 k ∧ Below wR.heap.size wR wk) (fun s14 _ => q - (intOf s14).toNat)
        case atStart => exact ⟨0, by omega, rfl, Below.refl _ _⟩
        case round =>
          clear cy
          obtain ⟨k, hk, rfl, hb⟩ := hrel
          have HBk := Lib.hid hb
          clear hb
          obtain ⟨wk, hwk⟩ : ∃ wk, wk = wr := ⟨_, rfl⟩
          subst hwk
          by_cases hkt : k < q
          · have hktI : (k : Int) < (q : Int) := by omega
            have hk0 : (0 : Int) ≤ (k : Int) := Int.natCast_nonneg _
            obtain ⟨bs, os, rfl, hcs⟩ := slk_at (HSS.out _ HBk.out) (by omega)
            have hck := hcs k hkt
            obtain ⟨f1, f2⟩ := run_facts HIW.out HXL.out hkt
            rw [f1] at hck
            obtain ⟨d, hd⟩ : ∃ d, deep L (X.take (k + 1)) = d := ⟨_, rfl⟩
            rw [hd] at hck f2
            obtain ⟨Y, hY⟩ : ∃ Y, X.take (k + 1) = Y := ⟨_, rfl⟩
            rw [hY] at hd f2
            obtain ⟨k1, hk1⟩ : ∃ k1, k + 1 = k1 := ⟨_, rfl⟩
            rw [hk1] at hY
            have hk1q : k1 ≤ q := by omega
            have hk1c : (k1 : Int) ≤ (ck : Int) := by omega
            have hk10 : (0 : Int) ≤ (k1 : Int) := Int.natCast_nonneg _
            have HK1 : Hid (IntKind.i64.wrap ((k : Int) + 1) = (k1 : Int)) := Lib.hid (by
              rw [show (k : Int) + 1 = (k1 : Int) by omega]; simp [IntKind.wrap, IntKind.bits, IntKind.signed]; omega)
            have HSY : Hid (∀ W', Below wk.heap.size wk W' → SlK .u64 W' ak k1 Y) := Lib.hid (fun W' hw => by
              have := slk_take (HSK.out W' (bel_step (bel_step HBR.out HBk.out) hw)) hk1q
              rwa [hY] at this)
            have HXk := Lib.hid (fun (W' : World) (hw : Below wk.heap.size wk W') => (HS4.out.later (bel_step HBr.out (bel_step (bel_step HBR.out HBk.out) hw))).cells)
            have HDP := Lib.hid (fun (W' : World) (hw : Below wk.heap.size wk W') => deepest_all (wa := wa) (wn := nw) (wc := wc) (lc := lc) (pc := ck) (HRL2.out.later (bel_step HBr.out (bel_step (bel_step HBR.out HBk.out) hw))) HIW.out.inv (by omega) (HSY.out W' hw) (by omega) hck2)
            rw [hd] at HDP
            have HCK := Lib.hid (fun (W' : World) (hw : Below wk.heap.size wk W') => cell_later hw hck)
            have HS14 : Hid (∀ W', Below wk.heap.size wk W' → W'.cell? ⟨b4, 0, none⟩ = some (.slice la nl lc) ∧ W'.cell? ⟨b4, 1, none⟩ = some (.slice wa nw wc) ∧ W'.cell? ⟨g5, i, none⟩ = some (.slice ak q ck) ∧ W'.cell? ⟨bs, os + k, none⟩ = some (.int .i64 (d : Int))) := Lib.hid (fun W' hw => ⟨(HXk.out W' hw).1, (HXk.out W' hw).2, HCI.out W' (bel_step (bel_step HBR.out HBk.out) hw), HCK.out W' hw⟩)
            have edd : ((d : Int) != (d : Int)) = false := by simp
            have HF2 := Lib.hid f2
            have hk12 : k1 ≤ 12 := by omega
            have HKK := Lib.hid hk1
            clear f1 f2 hcs hck hd hY hk1
            go_upto_region 14 with fail
            have hS : wk.drew.cell? ⟨b4, 0, none⟩ = some (.slice la nl lc) ∧ wk.drew.cell? ⟨b4, 1, none⟩ = some (.slice wa nw wc) ∧ wk.drew.cell? ⟨g5, i, none⟩ = some (.slice ak q ck) ∧ wk.drew.cell? ⟨bs, os + k, none⟩ = some (.int .i64 (d : Int)) := HS14.out _ (Below.refl _ _).drew
            refine wp_region_held_drew (S := fun w' => w'.cell? ⟨b4, 0, none⟩ = some (.slice la nl lc) ∧ w'.cell? ⟨b4, 1, none⟩ = some (.slice wa nw wc) ∧ w'.cell? ⟨g5, i, none⟩ = some (.slice ak q ck) ∧ w'.cell? ⟨bs, os + k, none⟩ = some (.int .i64 (d : Int))) (by kernel_rfl) hS (fun _ => ?_)
            refine wpAnyH_take (i := 0) (v := .slice (some ⟨bs, os, none⟩) q cs) rfl (by kernel_rfl) (by kernel_rfl) (by kernel_rfl) (fun _ _ _ h => h) (Or.inl ⟨by kernel_rfl, fun w9 hSw => ?_⟩) hS ?_
            · obtain ⟨s1, s2, s3, s4⟩ := hSw
              go_simp
            change wpAnyH _ _ _ _ _ _ _ (Act.put _ (some 64) (.slice (some ⟨bs, os, none⟩) q cs)) _
            (try simp only [Act.put, List.setIfInBounds_toArray, List.set_cons_zero, List.set_cons_succ])
            refine wpAnyH_take (i := 1) (v := .int .i64 (k : Int)) rfl (by kernel_rfl) (by kernel_rfl) (by kernel_rfl) (fun _ _ _ h => h) (Or.inl ⟨by kernel_rfl, fun w9 hSw => ?_⟩) hS ?_
            · obtain ⟨s1, s2, s3, s4⟩ := hSw
              go_simp
            change wpAnyH _ _ _ _ _ _ _ (Act.put _ (some 65) (.int .i64 (k : Int))) _
            (try simp only [Act.put, List.setIfInBounds_toArray, List.set_cons_zero, List.set_cons_succ])
            refine wpAnyH_take (i := 2) (v := .pointer (some ⟨bs, os + k, none⟩)) rfl (by kernel_rfl) (by kernel_rfl) (by kernel_rfl) (fun _ _ _ h => h) (Or.inl ⟨by kernel_rfl, fun w9 hSw => ?_⟩) hS ?_
            · obtain ⟨s1, s2, s3, s4⟩ := hSw
              go_simp
            change wpAnyH _ _ _ _ _ _ _ (Act.put _ (some 66) (.pointer (some ⟨bs, os + k, none⟩))) _
            (try simp only [Act.put, List.setIfInBounds_toArray, List.set_cons_zero, List.set_cons_succ])
            refine wpAnyH_take (i := 3) (v := .int .i64 (d : Int)) rfl (by kernel_rfl) (by kernel_rfl) (by kernel_rfl) (fun _ _ _ h => h) (Or.inl ⟨by kernel_rfl, fun w9 hSw => ?_⟩) hS ?_
            · obtain ⟨s1, s2, s3, s4⟩ := hSw
              go_simp
            change wpAnyH _ _ _ _ _ _ _ (Act.put _ (some 67) (.int .i64 (d : Int))) _
            (try simp only [Act.put, List.setIfInBounds_toArray, List.set_cons_zero, List.set_cons_succ])
            refine wpAnyH_take (i := 4) (v := .agg #[.slice la nl lc, .slice wa nw wc]) rfl (by kernel_rfl) (by kernel_rfl) (by kernel_rfl) (fun _ _ _ h => h) (Or.inl ⟨by kernel_rfl, fun w9 hSw => ?_⟩) hS ?_
            · obtain ⟨s1, s2, s3, s4⟩ := hSw
              go_simp
            change wpAnyH _ _ _ _ _ _ _ (Act.put _ (some 68) (.agg #[.slice la nl lc, .slice wa nw wc])) _
            (try simp only [Act.put, List.setIfInBounds_toArray, List.set_cons_zero, List.set_cons_succ])
            refine wpAnyH_take (i := 5) (v := .slice (some ⟨g5, 0, none⟩) 2 2) rfl (by kernel_rfl) (by kernel_rfl) (by kernel_rfl) (fun _ _ _ h => h) (Or.inl ⟨by kernel_rfl, fun w9 hSw => ?_⟩) hS ?_
            · obtain ⟨s1, s2, s3, s4⟩ := hSw
              go_simp
            change wpAnyH _ _ _ _ _ _ _ (Act.put _ (some 69) (.slice (some ⟨g5, 0, none⟩) 2 2)) _
            (try simp only [Act.put, List.setIfInBounds_toArray, List.set_cons_zero, List.set_cons_succ])
            refine wpAnyH_take (i := 6) (v := .int .i64 (i : Int)) rfl (by kernel_rfl) (by kernel_rfl) (by kernel_rfl) (fun _ _ _ h => h) (Or.inl ⟨by kernel_rfl, fun w9 hSw => ?_⟩) hS ?_
            · obtain ⟨s1, s2, s3, s4⟩ := hSw
              go_simp
            change wpAnyH _ _ _ _ _ _ _ (Act.put _ (some 70) (.int .i64 (i : Int))) _
            (try simp only [Act.put, List.setIfInBounds_toArray, List.set_cons_zero, List.set_cons_succ])
            refine wpAnyH_take (i := 7) (v := .pointer (some ⟨g5, i, none⟩)) rfl (by kernel_rfl) (by kernel_rfl) (by kernel_rfl) (fun _ _ _ h => h) (Or.inl ⟨by kernel_rfl, fun w9 hSw => ?_⟩) hS ?_
            · obtain ⟨s1, s2, s3, s4⟩ := hSw
              go_simp
            change wpAnyH _ _ _ _ _ _ _ (Act.put _ (some 71) (.pointer (some ⟨g5, i, none⟩))) _
            (try simp only [Act.put, List.setIfInBounds_toArray, List.set_cons_zero, List.set_cons_succ])
            refine wpAnyH_take (i := 8) (v := .slice ak q ck) rfl (by kernel_rfl) (by kernel_rfl) (by kernel_rfl) (fun _ _ _ h => h) (Or.inl ⟨by kernel_rfl, fun w9 hSw => ?_⟩) hS ?_
            · obtain ⟨s1, s2, s3, s4⟩ := hSw
              go_simp
            change wpAnyH _ _ _ _ _ _ _ (Act.put _ (some 72) (.slice ak q ck)) _
            (try simp only [Act.put, List.setIfInBounds_toArray, List.set_cons_zero, List.set_cons_succ])
            refine wpAnyH_take (i := 9) (v := .int .i64 (k : Int)) rfl (by kernel_rfl) (by kernel_rfl) (by kernel_rfl) (fun _ _ _ h => h) (Or.inl ⟨by kernel_rfl, fun w9 hSw => ?_⟩) hS ?_
            · obtain ⟨s1, s2, s3, s4⟩ := hSw
              go_simp
            change wpAnyH _ _ _ _ _ _ _ (Act.put _ (some 73) (.int .i64 (k : Int))) _
            (try simp only [Act.put, List.setIfInBounds_toArray, List.set_cons_zero, List.set_cons_succ])
            refine wpAnyH_take (i := 10) (v := .int .i64 (k1 : Int)) rfl (by kernel_rfl) (by kernel_rfl) (by kernel_rfl) (fun _ _ _ h => h) (Or.inl ⟨by kernel_rfl, fun w9 hSw => ?_⟩) hS ?_
            · obtain ⟨s1, s2, s3, s4⟩ := hSw
              go_simp
              exact HK1.out
            change wpAnyH _ _ _ _ _ _ _ (Act.put _ (some 74) (.int .i64 (k1 : Int))) _
            (try simp only [Act.put, List.setIfInBounds_toArray, List.set_cons_zero, List.set_cons_succ])
            refine wpAnyH_take (i := 11) (v := .slice ak k1 ck) rfl (by kernel_rfl) (by kernel_rfl) (by kernel_rfl) (fun _ _ _ h => h) (Or.inl ⟨by kernel_rfl, fun w9 hSw => ?_⟩) hS ?_
            · obtain ⟨s1, s2, s3, s4⟩ := hSw
              go_simp
            change wpAnyH _ _ _ _ _ _ _ (Act.put _ (some 75) (.slice ak k1 ck)) _
            (try simp only [Act.put, List.setIfInBounds_toArray, List.set_cons_zero, List.set_cons_succ])
            refine wpAnyH_take (i := 12) (v := .int .i64 (k : Int)) rfl (by kernel_rfl) (by kernel_rfl) (by kernel_rfl) (fun _ _ _ h => h) (Or.inl ⟨by kernel_rfl, fun w9 hSw => ?_⟩) hS ?_
            · obtain ⟨s1, s2, s3, s4⟩ := hSw
              go_simp
            change wpAnyH _ _ _ _ _ _ _ (Act.put _ (some 76) (.int .i64 (k : Int))) _
            (try simp only [Act.put, List.setIfInBounds_toArray, List.set_cons_zero, List.set_cons_succ])
            refine wpAnyH_take (i := 13) (v := .int .i64 (k1 : Int)) rfl (by kernel_rfl) (by kernel_rfl) (by kernel_rfl) (fun _ _ _ h => h) (Or.inl ⟨by kernel_rfl, fun w9 hSw => ?_⟩) hS ?_
            · obtain ⟨s1, s2, s3, s4⟩ := hSw
              go_simp
              exact HK1.out
            change wpAnyH _ _ _ _ _ _ _ (Act.put _ (some 77) (.int .i64 (k1 : Int))) _
            (try simp only [Act.put, List.setIfInBounds_toArray, List.set_cons_zero, List.set_cons_succ])
            refine wpAnyH_ready (rs := [14]) (by kernel_rfl) (by simp) ?_
            refine AllReadyH.cons rfl (fun K hK => ?_) AllReadyH.nil
            go_simp
            refine (HDP.out _ (Below.refl _ _).drew).mono ?_
            rintro ex y1 ⟨rfl, hbb⟩
            have HY1 := Lib.hid (bel_und hbb)
            have hS2 := HS14.out _ HY1.out
            clear hS hbb
            have hS := hS2
            clear hS2
            refine hK.out _ _ hS (fun _ => ?_)
            clear hK K
            (try simp only [Act.put, List.setIfInBounds_toArray, List.set_cons_zero, List.set_cons_succ])
            refine wpAnyH_take (i := 15) (v := .bool false) rfl (by kernel_rfl) (by kernel_rfl) (by kernel_rfl) (fun _ _ _ h => h) (Or.inl ⟨by kernel_rfl, fun w9 hSw => ?_⟩) hS ?_
            · obtain ⟨s1, s2, s3, s4⟩ := hSw
              go_simp
            change wpAnyH _ _ _ _ _ _ _ (Act.put _ (some 79) (.bool false)) _
            (try simp only [Act.put, List.setIfInBounds_toArray, List.set_cons_zero, List.set_cons_succ])
            refine wpAnyH_done (by kernel_rfl) ?_ _
            (try simp only [Act.put, List.setIfInBounds_toArray, List.set_cons_zero, List.set_cons_succ])
            have HB14 := Lib.hid (bel_step (bel_step HBR.out HBk.out) HY1.out)
            obtain ⟨c0, c1⟩ := HXk.out _ HY1.out
            clear hS
            go_wp2_with fail
            go_loopw [15] (fun s15 wj => ∃ j : Nat, j ≤ nw ∧ s15 = .int .i64 j ∧ Below y1.heap.size y1 wj) (fun s15 _ => nw - (intOf s15).toNat)
            case atStart => exact ⟨0, by omega, rfl, Below.refl _ _⟩
            case round =>
              clear c0 c1
              obtain ⟨j, hj, rfl, hb⟩ := hrel
              have HBj := Lib.hid (bel_step HY1.out hb)
              have HBj1 := Lib.hid hb
              clear hb
              obtain ⟨wj, hwj⟩ : ∃ wj, wj = wr := ⟨_, rfl⟩
              subst hwj
              obtain ⟨c0, c1⟩ := HXk.out _ HBj.out
              by_cases hjt : j < nw
              · have hjtI : (j : Int) < (nw : Int) := by omega
                have hj0 : (0 : Int) ≤ (j : Int) := Int.natCast_nonneg _
                have HEN := Lib.hid (ends_P (HTr.out.later (bel_step (bel_step HBR.out HBk.out) HBj.out)) HIW.out (by have := HNW.out; omega) (d : Int))
                unfold EndsR at HEN
                rw [HF2.out] at HEN
                obtain ⟨E, hE⟩ : ∃ E, fin W Y = E := ⟨_, rfl⟩
                rw [hE] at HEN
                have hEl : E.length ≤ 1000 := by rw [← hE]; exact Nat.le_trans (fin_len _ _) (by have := HNW.out; omega)
                have hEj : decide ((j : Int) ∈ E) = decide (W.getD j [] <:+ Y) := by rw [← hE]; exact fin_has (by have := HNW.out; omega)
                obtain ⟨ne, hne⟩ : ∃ n, E.length = n := ⟨_, rfl⟩
                rw [hne] at HEN hEl
                have HNE := Lib.hid hne
                have HEJ := Lib.hid hEj
                have cd := HCK.out _ HBj.out
                clear hE hEj hne
                go_upto_region 21 with (go_at_call 18; refine HEN.out.mono ?_; rintro ex wE ⟨ae, ce, rfl, hae, hb1⟩; have HAE := Lib.hid hae.sl; have HBE := Lib.hid (bel_step HBj.out hb1); have HBE0 := Lib.hid hb1; clear hae hb1)
                rw [HNE.out] at HAE
                have HAN := Lib.hid (fun (m : Nat) (hm : m < ne) => any_succ (e := E) (m := m) (by rw [HNE.out]; exact hm) (j : Int))
                clear cd c0 c1
                go_wp2_with fail
                go_loopw [18, 16] (fun s18 s16 wm => ∃ m : Nat, m ≤ ne ∧ s18 = .int .i64 m ∧ s16 = .bool (decide ((j : Int) ∈ E.take m)) ∧ Below wE.heap.size wE wm) (fun s18 _ _ => ne - (intOf s18).toNat)
                case atStart => exact ⟨0, by omega, rfl, by simp, Below.refl _ _⟩
                case round =>
                  obtain ⟨m, hm, rfl, rfl, hb⟩ := hrel
                  have HBm := Lib.hid hb
                  by_cases hmt : m < ne
                  · have hmtI : (m : Int) < (ne : Int) := by omega
                    have hm0 : (0 : Int) ≤ (m : Int) := Int.natCast_nonneg _
                    obtain ⟨be, oe, rfl, hce⟩ := slk_at (HAE.out.below hb) (by omega)
                    have hcm := hce m hmt
                    have han := HAN.out m hmt
                    obtain ⟨zn, hzn⟩ : ∃ z, decide ((j : Int) ∈ E.take (m + 1)) = z := ⟨_, rfl⟩
                    rw [hzn] at han
                    have HZN := Lib.hid hzn
                    obtain ⟨ev, hev⟩ : ∃ v, E.getD m 0 = v := ⟨_, rfl⟩
                    rw [hev] at hcm han
                    obtain ⟨zm, hzm⟩ : ∃ z, decide ((j : Int) ∈ E.take m) = z := ⟨_, rfl⟩
                    rw [hzm] at han
                    rw [hzm]
                    obtain ⟨zq, hzq⟩ : ∃ z, (ev == (j : Int)) = z := ⟨_, rfl⟩
                    rw [hzq] at han
                    clear hce hb hzn hev hzm
                    cases zm
                    · rw [Bool.false_or] at han
                      subst han
                      go_wp2_with fail
                      go_roundw
                      case rel => exact ⟨m + 1, by omega, by go_num, by rw [HZN.out], HBm.out⟩
                      case measure => simp [intOf]; omega
                    · rw [Bool.true_or] at han
                      subst han
                      go_wp2_with fail
                      go_roundw
                      case rel => exact ⟨m + 1, by omega, by go_num, by rw [HZN.out], HBm.out⟩
                      case measure => simp [intOf]; omega
                  · obtain rfl : m = ne := by omega
                    have hmt2 : ¬ (m : Int) < (m : Int) := by omega
                    have hEt : E.take m = E := by rw [← HNE.out]; exact List.take_length
                    rw [hEt, HEJ.out]
                    have HBX := Lib.hid (bel_step HBE.out hb)
                    obtain ⟨wm, hwm⟩ : ∃ wm, wm = wr := ⟨_, rfl⟩
                    subst hwm
                    clear hb hEt
                    obtain ⟨bw, ow, rfl, hrw⟩ := rv_each HRW2.out (by omega)
                    obtain ⟨aj, cj, hj1, hj2, hj3, hj4⟩ := hrw j hjt
                    have hwp : 0 < (W.getD j []).length := by
                      have := (HIW.out.ws (W.getD j []) (gD_mem (by rw [HNW.out]; exact hjt))).2
                      exact List.length_pos_iff.2 this
                    obtain ⟨lj, hlj⟩ : ∃ l, (W.getD j []).length = l := ⟨_, rfl⟩
                    rw [hlj] at hj1 hj2 hj3 hwp
                    have HWk := Lib.hid (bel_step HBr.out (bel_step (bel_step HBR.out HBk.out) HBX.out))
                    have HLT := Lib.hid (fun (W' : World) (hw : Below wm.heap.size wm W') => refLast_tr (ca := ck) (cb := cj) (HSY.out W' (bel_step HBX.out hw)) (hj2 W' (bel_step HWk.out hw)) hwp (by omega) hck2 (by omega))
                    have HS25 : Hid (∀ W', Below wm.heap.size wm W' → W'.cell? ⟨b4, 0, none⟩ = some (.slice la nl lc) ∧ W'.cell? ⟨b4, 1, none⟩ = some (.slice (some ⟨bw, ow, none⟩) nw wc) ∧ W'.cell? ⟨g5, i, none⟩ = some (.slice ak q ck) ∧ W'.cell? ⟨bw, ow + j, none⟩ = some (.slice aj lj cj)) := Lib.hid (fun W' hw => ⟨(HXk.out W' (bel_step HBX.out hw)).1, (HXk.out W' (bel_step HBX.out hw)).2, HCI.out W' (bel_step (bel_step HBR.out HBk.out) (bel_step HBX.out hw)), hj1 W' (bel_step HWk.out hw)⟩)
                    obtain ⟨z, hz⟩ : ∃ z, decide (W.getD j [] <:+ Y) = z := ⟨_, rfl⟩
                    have HZ := Lib.hid hz
                    rw [hz]
                    have ezz : (z != z) = false := by simp
                    clear hz hlj hj1 hj2 hrw
                    go_upto_region 25 with fail
                    have hS : wm.drew.cell? ⟨b4, 0, none⟩ = some (.slice la nl lc) ∧ wm.drew.cell? ⟨b4, 1, none⟩ = some (.slice (some ⟨bw, ow, none⟩) nw wc) ∧ wm.drew.cell? ⟨g5, i, none⟩ = some (.slice ak q ck) ∧ wm.drew.cell? ⟨bw, ow + j, none⟩ = some (.slice aj lj cj) := HS25.out _ (Below.refl _ _).drew
                    refine wp_region_held_drew (S := fun w' => w'.cell? ⟨b4, 0, none⟩ = some (.slice la nl lc) ∧ w'.cell? ⟨b4, 1, none⟩ = some (.slice (some ⟨bw, ow, none⟩) nw wc) ∧ w'.cell? ⟨g5, i, none⟩ = some (.slice ak q ck) ∧ w'.cell? ⟨bw, ow + j, none⟩ = some (.slice aj lj cj)) (by kernel_rfl) hS (fun _ => ?_)
                    refine wpAnyH_take (i := 0) (v := .bool z) rfl (by kernel_rfl) (by kernel_rfl) (by kernel_rfl) (fun _ _ _ h => h) (Or.inl ⟨by kernel_rfl, fun w9 hSw => ?_⟩) hS ?_
                    · obtain ⟨s1, s2, s3, s4⟩ := hSw
                      go_simp
                    change wpAnyH _ _ _ _ _ _ _ (Act.put _ (some 108) (.bool z)) _
                    (try simp only [Act.put, List.setIfInBounds_toArray, List.set_cons_zero, List.set_cons_succ])
                    refine wpAnyH_take (i := 1) (v := .slice (some ⟨g5, 0, none⟩) 2 2) rfl (by kernel_rfl) (by kernel_rfl) (by kernel_rfl) (fun _ _ _ h => h) (Or.inl ⟨by kernel_rfl, fun w9 hSw => ?_⟩) hS ?_
                    · obtain ⟨s1, s2, s3, s4⟩ := hSw
                      go_simp
                    change wpAnyH _ _ _ _ _ _ _ (Act.put _ (some 109) (.slice (some ⟨g5, 0, none⟩) 2 2)) _
                    (try simp only [Act.put, List.setIfInBounds_toArray, List.set_cons_zero, List.set_cons_succ])
                    refine wpAnyH_take (i := 2) (v := .int .i64 (i : Int)) rfl (by kernel_rfl) (by kernel_rfl) (by kernel_rfl) (fun _ _ _ h => h) (Or.inl ⟨by kernel_rfl, fun w9 hSw => ?_⟩) hS ?_
                    · obtain ⟨s1, s2, s3, s4⟩ := hSw
                      go_simp
                    change wpAnyH _ _ _ _ _ _ _ (Act.put _ (some 110) (.int .i64 (i : Int))) _
                    (try simp only [Act.put, List.setIfInBounds_toArray, List.set_cons_zero, List.set_cons_succ])
                    refine wpAnyH_take (i := 3) (v := .pointer (some ⟨g5, i, none⟩)) rfl (by kernel_rfl) (by kernel_rfl) (by kernel_rfl) (fun _ _ _ h => h) (Or.inl ⟨by kernel_rfl, fun w9 hSw => ?_⟩) hS ?_
                    · obtain ⟨s1, s2, s3, s4⟩ := hSw
                      go_simp
                    change wpAnyH _ _ _ _ _ _ _ (Act.put _ (some 111) (.pointer (some ⟨g5, i, none⟩))) _
                    (try simp only [Act.put, List.setIfInBounds_toArray, List.set_cons_zero, List.set_cons_succ])
                    refine wpAnyH_take (i := 4) (v := .slice ak q ck) rfl (by kernel_rfl) (by kernel_rfl) (by kernel_rfl) (fun _ _ _ h => h) (Or.inl ⟨by kernel_rfl, fun w9 hSw => ?_⟩) hS ?_
                    · obtain ⟨s1, s2, s3, s4⟩ := hSw
                      go_simp
                    change wpAnyH _ _ _ _ _ _ _ (Act.put _ (some 112) (.slice ak q ck)) _
                    (try simp only [Act.put, List.setIfInBounds_toArray, List.set_cons_zero, List.set_cons_succ])
                    refine wpAnyH_take (i := 5) (v := .int .i64 (k : Int)) rfl (by kernel_rfl) (by kernel_rfl) (by kernel_rfl) (fun _ _ _ h => h) (Or.inl ⟨by kernel_rfl, fun w9 hSw => ?_⟩) hS ?_
                    · obtain ⟨s1, s2, s3, s4⟩ := hSw
                      go_simp
                    change wpAnyH _ _ _ _ _ _ _ (Act.put _ (some 113) (.int .i64 (k : Int))) _
                    (try simp only [Act.put, List.setIfInBounds_toArray, List.set_cons_zero, List.set_cons_succ])
                    refine wpAnyH_take (i := 6) (v := .int .i64 (k1 : Int)) rfl (by kernel_rfl) (by kernel_rfl) (by kernel_rfl) (fun _ _ _ h => h) (Or.inl ⟨by kernel_rfl, fun w9 hSw => ?_⟩) hS ?_
                    · obtain ⟨s1, s2, s3, s4⟩ := hSw
                      go_simp
                      exact HK1.out
                    change wpAnyH _ _ _ _ _ _ _ (Act.put _ (some 114) (.int .i64 (k1 : Int))) _
                    (try simp only [Act.put, List.setIfInBounds_toArray, List.set_cons_zero, List.set_cons_succ])
                    refine wpAnyH_take (i := 7) (v := .slice ak k1 ck) rfl (by kernel_rfl) (by kernel_rfl) (by kernel_rfl) (fun _ _ _ h => h) (Or.inl ⟨by kernel_rfl, fun w9 hSw => ?_⟩) hS ?_
                    · obtain ⟨s1, s2, s3, s4⟩ := hSw
                      go_simp
                    change wpAnyH _ _ _ _ _ _ _ (Act.put _ (some 115) (.slice ak k1 ck)) _
                    (try simp only [Act.put, List.setIfInBounds_toArray, List.set_cons_zero, List.set_cons_succ])
                    refine wpAnyH_take (i := 8) (v := .pointer (some ⟨b4, 1, none⟩)) rfl (by kernel_rfl) (by kernel_rfl) (by kernel_rfl) (fun _ _ _ h => h) (Or.inl ⟨by kernel_rfl, fun w9 hSw => ?_⟩) hS ?_
                    · obtain ⟨s1, s2, s3, s4⟩ := hSw
                      go_simp
                    change wpAnyH _ _ _ _ _ _ _ (Act.put _ (some 116) (.pointer (some ⟨b4, 1, none⟩))) _
                    (try simp only [Act.put, List.setIfInBounds_toArray, List.set_cons_zero, List.set_cons_succ])
                    refine wpAnyH_take (i := 9) (v := .slice (some ⟨bw, ow, none⟩) nw wc) rfl (by kernel_rfl) (by kernel_rfl) (by kernel_rfl) (fun _ _ _ h => h) (Or.inl ⟨by kernel_rfl, fun w9 hSw => ?_⟩) hS ?_
                    · obtain ⟨s1, s2, s3, s4⟩ := hSw
                      go_simp
                    change wpAnyH _ _ _ _ _ _ _ (Act.put _ (some 117) (.slice (some ⟨bw, ow, none⟩) nw wc)) _
                    (try simp only [Act.put, List.setIfInBounds_toArray, List.set_cons_zero, List.set_cons_succ])
                    refine wpAnyH_take (i := 10) (v := .int .i64 (j : Int)) rfl (by kernel_rfl) (by kernel_rfl) (by kernel_rfl) (fun _ _ _ h => h) (Or.inl ⟨by kernel_rfl, fun w9 hSw => ?_⟩) hS ?_
                    · obtain ⟨s1, s2, s3, s4⟩ := hSw
                      go_simp
                    change wpAnyH _ _ _ _ _ _ _ (Act.put _ (some 118) (.int .i64 (j : Int))) _
                    (try simp only [Act.put, List.setIfInBounds_toArray, List.set_cons_zero, List.set_cons_succ])
                    refine wpAnyH_take (i := 11) (v := .pointer (some ⟨bw, ow + j, none⟩)) rfl (by kernel_rfl) (by kernel_rfl) (by kernel_rfl) (fun _ _ _ h => h) (Or.inl ⟨by kernel_rfl, fun w9 hSw => ?_⟩) hS ?_
                    · obtain ⟨s1, s2, s3, s4⟩ := hSw
                      go_simp
                    change wpAnyH _ _ _ _ _ _ _ (Act.put _ (some 119) (.pointer (some ⟨bw, ow + j, none⟩))) _
                    (try simp only [Act.put, List.setIfInBounds_toArray, List.set_cons_zero, List.set_cons_succ])
                    refine wpAnyH_take (i := 12) (v := .slice aj lj cj) rfl (by kernel_rfl) (by kernel_rfl) (by kernel_rfl) (fun _ _ _ h => h) (Or.inl ⟨by kernel_rfl, fun w9 hSw => ?_⟩) hS ?_
                    · obtain ⟨s1, s2, s3, s4⟩ := hSw
                      go_simp
                    change wpAnyH _ _ _ _ _ _ _ (Act.put _ (some 120) (.slice aj lj cj)) _
                    (try simp only [Act.put, List.setIfInBounds_toArray, List.set_cons_zero, List.set_cons_succ])
                    refine wpAnyH_ready (rs := [13]) (by kernel_rfl) (by simp) ?_
                    refine AllReadyH.cons rfl (fun K hK => ?_) AllReadyH.nil
                    go_simp
                    refine (HLT.out _ (Below.refl _ _).drew).mono ?_
                    rintro ex y2 ⟨rfl, hbb⟩
                    rw [HZ.out]
                    have HY2 := Lib.hid (bel_und hbb)
                    have hS2 := HS25.out _ HY2.out
                    clear hS hbb
                    have hS := hS2
                    clear hS2
                    refine hK.out _ _ hS (fun _ => ?_)
                    clear hK K
                    (try simp only [Act.put, List.setIfInBounds_toArray, List.set_cons_zero, List.set_cons_succ])
                    refine wpAnyH_take (i := 14) (v := .bool false) rfl (by kernel_rfl) (by kernel_rfl) (by kernel_rfl) (fun _ _ _ h => h) (Or.inl ⟨by kernel_rfl, fun w9 hSw => ?_⟩) hS ?_
                    · obtain ⟨s1, s2, s3, s4⟩ := hSw
                      go_simp
                    change wpAnyH _ _ _ _ _ _ _ (Act.put _ (some 122) (.bool false)) _
                    (try simp only [Act.put, List.setIfInBounds_toArray, List.set_cons_zero, List.set_cons_succ])
                    refine wpAnyH_done (by kernel_rfl) ?_ _
                    (try simp only [Act.put, List.setIfInBounds_toArray, List.set_cons_zero, List.set_cons_succ])
                    go_wp2_with fail
                    go_roundw
                    case rel => exact ⟨j + 1, by omega, by go_num, bel_step HBj1.out (bel_step (bel_step HBE0.out HBm.out) HY2.out)⟩
                    case measure => simp [intOf]; omega
              · obtain rfl : j = nw := by omega
                have hjt2 : ¬ (j : Int) < (j : Int) := by omega
                go_wp2_with fail
                go_roundw
                case rel => exact ⟨k + 1, by omega, by go_num, bel_step HBk.out HBj.out⟩
                case measure => simp [intOf]; omega
          · obtain rfl : k = q := by omega
            have hkt2 : ¬ (k : Int) < (k : Int) := by omega
            go_wp2_with fail
            go_roundw
            case rel => exact ⟨i + 1, by omega, by go_num, bel_step HB.out (bel_step HBR.out HBk.out)⟩
            case measure => simp [intOf]; omega
      · obtain rfl : i = 2 := by omega
        have HBt := Lib.hid (bel_step HB5.out hb)
        obtain ⟨Wt, hWt⟩ : ∃ Wt, Wt = wr := ⟨_, rfl⟩
        subst hWt
        obtain ⟨x0, x1⟩ := (HS4.out.later HBt.out).cells
        obtain ⟨kk, hkk⟩ : ∃ z, Ar.around a3 (nl : Int) = z := ⟨_, rfl⟩
        have hk2 := Ar.around_lt a3 (nl : Int) (by omega)
        have HAR := Lib.hid (aroundOf a3 (nl : Int) HA3.out.1 HA3.out.2 (by omega) (by omega))
        rw [hkk] at hk2 HAR
        clear hb hkk
        go_upto_region 28 with (go_at_call 27; refine (HAR.out _).mono ?_; rintro e w6 ⟨rfl, rfl⟩)
        clear HAR x0 x1
        go_upto_region 29 with (go_at_call 23; refine (HRow.out _ HBt.out).mono ?_; rintro e w7 ⟨v, rfl, ho, hb7⟩; obtain ⟨ao, co, er, o1, o2, o3⟩ := ok1_own ho (by omega) (Fr.below (Below.refl _ _)).p; rw [HRL9.out] at er o1 o2; subst er; have HSO := Lib.hid o1; have HB7 := Lib.hid (bel_step HBt.out hb7); clear ho hb7 o1)
        have HT7 := Lib.hid (HT2.out.later HB7.out)
        have HRun := Lib.hid (run_in (c := co) HT7.out HIW.out hk2.1 (by rw [HNL.out]; exact hk2.2) HSO.out (by omega))
        go_upto_region 30 with (go_at_call 24; refine HRun.out.mono ?_; rintro e w8 ⟨ar2, cr2, rfl, hsl, hb8⟩; have HSS := Lib.hid hsl; have HB8 := Lib.hid hb8; clear hsl hb8)
        have HT8 := Lib.hid (HT7.out.later HB8.out)
        have HB28 := Lib.hid (bel_step HB7.out HB8.out)
        have HX8 := Lib.hid (fun (W' : World) (hw : Below w8.heap.size w8 W') => (HS4.out.later (bel_step HB28.out hw)).cells)
        have HNXT := Lib.hid (fun (x y : Int) (W' : World) (hw : Below w8.heap.size w8 W') => refNext_tr (wa := wa) (wn := nw) (wc := wc) (lc := lc) (HRL2.out.later (bel_step HB28.out hw)) HIW.out.inv (by omega) (fun p hp => Nat.le_trans (HTD.out p hp) (by omega)) x y)
        go_wp2_with fail
        go_loopw [23, 22] (fun s23 s22 wr => ∃ i : Nat, i ≤ q ∧ s23 = .int .i64 i ∧ s22 = .int .i64 (st L kk R i) ∧ Below w8.heap.size w8 wr) (fun s23 _ _ => q - (intOf s23).toNat)
        case atStart => exact ⟨0, by omega, rfl, rfl, Below.refl _ _⟩
        case round =>
          obtain ⟨i, hi, rfl, rfl, hb⟩ := hrel
          have HBi := Lib.hid hb
          by_cases hit : i < q
          · have hitI : (i : Int) < (q : Int) := by omega
            have hi0 : (0 : Int) ≤ (i : Int) := Int.natCast_nonneg _
            have hsn := st_next (L := L) kk R i
            have hra : (runs L kk R q).getD i 0 = st L kk R (i + 1) := runs_at hit
            obtain ⟨x, hx⟩ : ∃ x, st L kk R i = x := ⟨_, rfl⟩
            obtain ⟨y, hy⟩ : ∃ y, st L kk R (i + 1) = y := ⟨_, rfl⟩
            obtain ⟨p, hp⟩ : ∃ p, R.getD i 0 = p := ⟨_, rfl⟩
            have HYY := Lib.hid hy
            rw [hx, hy, hp] at hsn
            rw [hy] at hra
            rw [hx]
            obtain ⟨br, ors, rfl, hcr⟩ := slk_at (HSO.out.below (bel_step HB8.out hb)) (by omega)
            obtain ⟨bz, oz, rfl, hcz⟩ := slk_at (HSS.out _ hb) (by omega)
            have hcri := hcr i hit
            have hczi := hcz i hit
            rw [hp] at hcri
            rw [hra] at hczi
            have HNX := Lib.hid (fun (W' : World) (hw : Below wr.heap.size wr W') => HNXT.out x p W' (bel_step HBi.out hw))
            rw [hsn] at HNX
            have HCR := Lib.hid (fun (W' : World) (hw : Below wr.heap.size wr W') => cell_later hw hcri)
            have HCZ := Lib.hid (fun (W' : World) (hw : Below wr.heap.size wr W') => cell_later hw hczi)
            have HS34 : Hid (∀ W', Below wr.heap.size wr W' → W'.cell? ⟨b4, 0, none⟩ = some (.slice la nl lc) ∧ W'.cell? ⟨b4, 1, none⟩ = some (.slice wa nw wc) ∧ W'.cell? ⟨br, ors + i, none⟩ = some (.int .u64 p)) := Lib.hid (fun W' hw => ⟨(HX8.out W' (bel_step HBi.out hw)).1, (HX8.out W' (bel_step HBi.out hw)).2, HCR.out W' hw⟩)
            have eyy : (y != y) = false := by simp
            clear hb hcr hcz hcri hczi hsn hra hx hy hp
            go_upto_region 34 with fail
            have hS : wr.drew.cell? ⟨b4, 0, none⟩ = some (.slice la nl lc) ∧ wr.drew.cell? ⟨b4, 1, none⟩ = some (.slice wa nw wc) ∧ wr.drew.cell? ⟨br, ors + i, none⟩ = some (.int .u64 p) := HS34.out _ (Below.refl _ _).drew
            refine wp_region_held_drew (S := fun w' => w'.cell? ⟨b4, 0, none⟩ = some (.slice la nl lc) ∧ w'.cell? ⟨b4, 1, none⟩ = some (.slice wa nw wc) ∧ w'.cell? ⟨br, ors + i, none⟩ = some (.int .u64 p)) (by kernel_rfl) hS (fun _ => ?_)
            refine wpAnyH_take (i := 0) (v := .agg #[.slice la nl lc, .slice wa nw wc]) rfl (by kernel_rfl) (by kernel_rfl) (by kernel_rfl) (fun _ _ _ h => h) (Or.inl ⟨by kernel_rfl, fun w9 hSw => ?_⟩) hS ?_
            · obtain ⟨s1, s2, s3⟩ := hSw
              go_simp
            change wpAnyH _ _ _ _ _ _ _ (Act.put _ (some 147) (.agg #[.slice la nl lc, .slice wa nw wc])) _
            (try simp only [Act.put, List.setIfInBounds_toArray, List.set_cons_zero, List.set_cons_succ])
            refine wpAnyH_take (i := 1) (v := .int .i64 x) rfl (by kernel_rfl) (by kernel_rfl) (by kernel_rfl) (fun _ _ _ h => h) (Or.inl ⟨by kernel_rfl, fun w9 hSw => ?_⟩) hS ?_
            · obtain ⟨s1, s2, s3⟩ := hSw
              go_simp
            change wpAnyH _ _ _ _ _ _ _ (Act.put _ (some 148) (.int .i64 x)) _
            (try simp only [Act.put, List.setIfInBounds_toArray, List.set_cons_zero, List.set_cons_succ])
            refine wpAnyH_take (i := 2) (v := .slice (some ⟨br, ors, none⟩) q co) rfl (by kernel_rfl) (by kernel_rfl) (by kernel_rfl) (fun _ _ _ h => h) (Or.inl ⟨by kernel_rfl, fun w9 hSw => ?_⟩) hS ?_
            · obtain ⟨s1, s2, s3⟩ := hSw
              go_simp
            change wpAnyH _ _ _ _ _ _ _ (Act.put _ (some 149) (.slice (some ⟨br, ors, none⟩) q co)) _
            (try simp only [Act.put, List.setIfInBounds_toArray, List.set_cons_zero, List.set_cons_succ])
            refine wpAnyH_take (i := 3) (v := .int .i64 (i : Int)) rfl (by kernel_rfl) (by kernel_rfl) (by kernel_rfl) (fun _ _ _ h => h) (Or.inl ⟨by kernel_rfl, fun w9 hSw => ?_⟩) hS ?_
            · obtain ⟨s1, s2, s3⟩ := hSw
              go_simp
            change wpAnyH _ _ _ _ _ _ _ (Act.put _ (some 150) (.int .i64 (i : Int))) _
            (try simp only [Act.put, List.setIfInBounds_toArray, List.set_cons_zero, List.set_cons_succ])
            refine wpAnyH_take (i := 4) (v := .pointer (some ⟨br, ors + i, none⟩)) rfl (by kernel_rfl) (by kernel_rfl) (by kernel_rfl) (fun _ _ _ h => h) (Or.inl ⟨by kernel_rfl, fun w9 hSw => ?_⟩) hS ?_
            · obtain ⟨s1, s2, s3⟩ := hSw
              go_simp
            change wpAnyH _ _ _ _ _ _ _ (Act.put _ (some 151) (.pointer (some ⟨br, ors + i, none⟩))) _
            (try simp only [Act.put, List.setIfInBounds_toArray, List.set_cons_zero, List.set_cons_succ])
            refine wpAnyH_take (i := 5) (v := .int .u64 p) rfl (by kernel_rfl) (by kernel_rfl) (by kernel_rfl) (fun _ _ _ h => h) (Or.inl ⟨by kernel_rfl, fun w9 hSw => ?_⟩) hS ?_
            · obtain ⟨s1, s2, s3⟩ := hSw
              go_simp
            change wpAnyH _ _ _ _ _ _ _ (Act.put _ (some 152) (.int .u64 p)) _
            (try simp only [Act.put, List.setIfInBounds_toArray, List.set_cons_zero, List.set_cons_succ])
            refine wpAnyH_ready (rs := [6]) (by kernel_rfl) (by simp) ?_
            refine AllReadyH.cons rfl (fun K hK => ?_) AllReadyH.nil
            go_simp
            refine (HNX.out _ (Below.refl _ _).drew).mono ?_
            rintro ex y3 ⟨rfl, hbb⟩
            have HY3 := Lib.hid (bel_und hbb)
            have hS2 := HS34.out _ HY3.out
            clear hS hbb
            have hS := hS2
            clear hS2
            refine hK.out _ _ hS (fun _ => ?_)
            clear hK K
            (try simp only [Act.put, List.setIfInBounds_toArray, List.set_cons_zero, List.set_cons_succ])
            refine wpAnyH_take (i := 7) (v := .int .i64 y) rfl (by kernel_rfl) (by kernel_rfl) (by kernel_rfl) (fun _ _ _ h => h) (Or.inl ⟨by kernel_rfl, fun w9 hSw => ?_⟩) hS ?_
            · obtain ⟨s1, s2, s3⟩ := hSw
              go_simp
            change wpAnyH _ _ _ _ _ _ _ (Act.put _ (some 22) (.int .i64 y)) _
            (try simp only [Act.put, List.setIfInBounds_toArray, List.set_cons_zero, List.set_cons_succ])
            refine wpAnyH_done (by kernel_rfl) ?_ _
            (try simp only [Act.put, List.setIfInBounds_toArray, List.set_cons_zero, List.set_cons_succ])
            have cz := HCZ.out _ HY3.out
            go_wp2_with fail
            go_roundw
            case rel => exact ⟨i + 1, by omega, by go_num, by rw [HYY.out], bel_step HBi.out HY3.out⟩
            case measure => simp [intOf]; omega
          · obtain rfl : i = q := by omega
            have hit2 : ¬ (i : Int) < (i : Int) := by omega
            obtain ⟨x0, x1⟩ := HX8.out _ hb
            have HO1 := Lib.hid (run_out (k := -1) (c := co) (HT8.out.later hb) HIW.out (.inl (by omega)) (HSO.out.below (bel_step HB8.out hb)) (by omega))
            have HO2 := Lib.hid (fun (W' : World) (hw : Below wr.heap.size wr W') => run_out (k := (nl : Int)) (c := co) (HT8.out.later (bel_step HBi.out hw)) HIW.out (.inr (by rw [HNL.out]; omega)) (HSO.out.below (bel_step HB8.out (bel_step HBi.out hw))) (by omega))
            have HX9 := Lib.hid (fun (W' : World) (hw : Below wr.heap.size wr W') => HX8.out W' (bel_step HBi.out hw))
            clear hb
            go_wp2_with (first
              | (go_at_call 24; (with_reducible refine HO1.out.mono ?_); rintro e y1 ⟨a1, c1, rfl, hb1⟩; have HY1 := Lib.hid hb1; obtain ⟨z0, z1⟩ := HX9.out _ hb1; clear hb1 x0 x1)
              | (go_at_call 24; (with_reducible refine (HO2.out _ HY1.out).mono ?_); rintro e y2 ⟨a1, c1, rfl, hb2⟩; have HY2 := Lib.hid hb2; clear hb2)
              | (go_at_call 20; refine (lives13_any _).mono ?_; rintro e y3 ⟨rfl, hb3⟩; have HY3 := Lib.hid hb3; clear hb3))
            go_ret
            exact ⟨rfl, bel_step HB2.out (bel_step HB28.out (bel_step HBi.out (bel_step HY1.out (bel_step HY2.out HY3.out))))⟩
end Go.Proofs.Ytehmbnloplamaaa
