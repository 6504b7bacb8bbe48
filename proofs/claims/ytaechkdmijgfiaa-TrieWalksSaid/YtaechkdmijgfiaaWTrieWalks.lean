/- TrieWalks: how far words are known, by the code and by the document: the walk of the law. No condition. -/
import Derived.Test.YtaechkdmijgfiaaTrT
import Derived.Test.YtaechkdmijgfiaaTrU
import Derived.Test.YtaechkdmijgfiaaTrX
namespace Go.Proofs.Ytaechkdmijgfiaa
open Go.RowKit
set_option linter.unusedVariables false
open Tr
theorem wordV_at {L W : LL} {i : Nat} (hi : i < W.length) : wordV L W i = findV L (W.getD i []) := by
  unfold wordV; rw [if_neg (by unfold out; omega)]; simp
theorem known_self {L : LL} (hI : Inv L) {x : List Int} (hx : x ∈ L) : known L x = x.length := known_eq hI (Nat.le_refl _) (by rw [List.take_length]; exact hx) (.inl rfl)
theorem walk_self {L : LL} (hI : Inv L) {x : List Int} (hx : x ∈ L) : walkN L x = findV L x := by unfold walkN; rw [known_self hI hx, List.take_length]
theorem depV_walk {L : LL} (hI : Inv L) (x : List Int) : depV L (walkN L x) = (known L x : Int) := by
  have hm := known_mem hI x
  have h1 := idx_lt_iff.2 hm
  have hk := known_le L x
  unfold walkN depV
  rw [findV_mem hm, if_neg (by unfold out; omega), Int.toNat_natCast, idx_at hm, List.length_take]
  omega
theorem px_take {w : World} {a : Option Addr} {len cap : Nat} {zs : List Int} (h : IsRow .u64 w a len cap zs) (n : Nat) : ∀ x ∈ zs.take n, 0 ≤ x ∧ x ≤ 18446744073709551615 := fun x hx => by
  have := isrow_wfK h x (List.mem_of_mem_take hx)
  simp [Lit.wf, IntKind.min, IntKind.max, IntKind.bits, IntKind.signed] at this; omega
theorem cells2 {W : World} {g : Nat} {t : TypeId} {u v : Value} (h : W.heap[g]? = some (.cells #[u, v] t (0, 0))) : W.cell? ⟨g, 0, none⟩ = some u ∧ W.cell? ⟨g, 1, none⟩ = some v := by
  refine ⟨?_, ?_⟩ <;> simp [World.cell?, h]
theorem two_cells (w : World) (t : TypeId) (u v : Value) {w' : World} (hb : Below (w.alloc (.cells #[u, v] t)).heap.size (w.alloc (.cells #[u, v] t)) w') : w'.cell? ⟨w.heap.size, 0, none⟩ = some u ∧ w'.cell? ⟨w.heap.size, 1, none⟩ = some v := by
  obtain ⟨h1, h2⟩ := cells2 (World.alloc_heap_new w (.cells #[u, v] t))
  exact ⟨cell_later hb h1, cell_later hb h2⟩
set_option maxRecDepth 100000 in
set_option maxHeartbeats 4000000 in
theorem trieWalks_walk (a0 : Option Addr) (len0 cap0 : Nat) (a1 : Bool) (a2 : Option Addr) (len2 cap2 : Nat) (z2 : List Int) (w : World) (w0 : IsRows w a0 len0 cap0) (w2 : IsRow .u64 w a2 len2 cap2 z2) :
    Calls Try.prog 5 #[.slice a0 len0 cap0, .bool a1, .slice a2 len2 cap2] w fun e w' => e = .returned (.bool true) ∧ Below w.heap.size w w' := by
  obtain ⟨A, N, C, Z, hat⟩ := isrows_at w0
  have HBG := Lib.hid (begin_tr (cap := cap0) hat (isrows_len w0) a1)
  have hos := ownV_short a1 N Z (min len0 8)
  have hol := ownV_len a1 N Z (min len0 8)
  obtain ⟨own, hown⟩ : ∃ own, ownV a1 N Z (min len0 8) = own := ⟨_, rfl⟩
  rw [hown] at HBG hos hol
  have HIW := Lib.hid (treeOf_iw own)
  have htl := treeOf_len own hos
  have HTD := Lib.hid (paths_short hos)
  have HWS : Hid (∀ x ∈ (treeOf own).2, x.length ≤ 5) := Lib.hid (fun x hx => by
    rw [treeOf_words] at hx; exact hos x (List.mem_filter.1 hx).1)
  unfold BegR at HBG
  obtain ⟨T, hT⟩ : ∃ T, treeOf own = T := ⟨_, rfl⟩
  rw [hT] at HBG HIW htl HTD HWS
  obtain ⟨L, W⟩ := T
  simp only at HBG HIW htl HTD HWS
  obtain ⟨nl, hnl⟩ : ∃ nl, L.length = nl := ⟨_, rfl⟩
  obtain ⟨nw, hnw⟩ : ∃ nw, W.length = nw := ⟨_, rfl⟩
  have HNL := Lib.hid hnl
  have HNW := Lib.hid hnw
  rw [hnl] at HBG
  rw [hnw] at HBG
  have hnl9 : nl ≤ 41 := by omega
  have hnl1 : 1 ≤ nl := by have := HIW.out.inv.pos; omega
  have hnw9 : nw ≤ 8 := by omega
  have hz := isrow_len w2
  obtain ⟨q, hq⟩ : ∃ q, min len2 7 = q := ⟨_, rfl⟩
  have HZQ := Lib.hid hq
  have hq2 : q ≤ len2 := by omega
  have hq7 : q ≤ 7 := by omega
  have HZA := Lib.hid (isrow_takeK w2 q hq2)
  have HZR := Lib.hid (fun (w' : World) (hb : Below w.heap.size w w') => row_tr (c := cap2) ((isrow_takeK w2 len2 (Nat.le_refl _)).below hb) (px_take w2 len2) hz.1 7 (by decide))
  obtain ⟨hz1, hz2, hz3, hz4⟩ := hz
  rw [hq] at HZR
  have hRl := rowV_len (z2.take len2) 7
  rw [List.length_take, Nat.min_eq_left hz2, hq] at hRl
  obtain ⟨R, hR⟩ : ∃ R, rowV (z2.take len2) 7 = R := ⟨_, rfl⟩
  rw [hR] at HZR hRl
  have HRL9 := Lib.hid hRl
  obtain ⟨Q, hQ⟩ : ∃ Q, z2.take q = Q := ⟨_, rfl⟩
  rw [hQ] at HZA
  have hqc : q ≤ cap2 := by omega
  have hqI : min (len2 : Int) 7 = (q : Int) := by omega
  clear hq w2 hR hRl hQ
  clear w0 hat hos hol hown htl hT hnl hnw
  go_enter Try.func5, Try.ntmps5
  go_upto_region 2 with (go_at_call 9; refine HBG.out.mono ?_; rintro e w1 ⟨B, tb, nb, nc, rv, la, lc, vs, wa, wc, us, rfl, hT, hrl, hrw, hB, hb⟩; have HT := Lib.hid hT; have HRL := Lib.hid hrl; have HRW := Lib.hid hrw; have HBB := Lib.hid hB; have HB := Lib.hid hb; clear hT hrl hrw hB hb)
  have S4 := Tv.new w1 (.slice la nl lc) (.slice wa nw wc)
  have hb4 := box1T w1 (.cells #[.slice la nl lc, .slice wa nw wc] 25)
  obtain ⟨W2, hW2⟩ : ∃ W2, w1.alloc (.cells #[.slice la nl lc, .slice wa nw wc] 25) = W2 := ⟨_, rfl⟩
  rw [hW2] at S4 hb4
  try rw [hW2]
  obtain ⟨b4, hb4e⟩ : ∃ b4, w1.heap.size = b4 := ⟨_, rfl⟩
  have HT2 := Lib.hid (HT.out.later hb4)
  have HRL2 := Lib.hid (HRL.out.below hb4).now
  have HRW2 := Lib.hid (HRW.out.below hb4).now
  have HB2 := Lib.hid (bel_step HB.out hb4)
  rw [hb4e] at S4
  try rw [hb4e]
  have HS4 := Lib.hid S4
  clear S4 hb4 hb4e hW2 HT HRW HRL
  have HRow := Lib.hid (fun (w' : World) (hb : Below W2.heap.size W2 w') => HZR.out w' (bel_step HB2.out hb))
  go_upto_region 4 with fail
  by_cases h7 : len2 ≤ 7
  · obtain rfl : q = len2 := by omega
    have d1 : decide ((7 : Int) < (q : Int)) = false := decide_eq_false (by omega)
    have d2 : decide ((q : Int) ≤ (7 : Int)) = true := decide_eq_true (by omega)
    have d3 : (q : Int) ≤ 7 := by omega
    have d4 : ¬ (7 : Int) < (q : Int) := by omega
    have d5 : ¬ 7 < q := by omega
    have d6 : min (q : Int) 7 = (q : Int) := by omega
    have d7 : (q : Int) ≤ (cap2 : Int) := by omega
    have d8 : (0 : Int) ≤ (q : Int) := Int.natCast_nonneg _
    go_region_law (go_simp; go_at_call 26; refine (HRow.out _ ((Below.refl _ _).drew)).mono ?_; rintro e w9 ⟨v, rfl, ho, hb9⟩; have HB9 := Lib.hid (bel_und hb9); obtain ⟨ar, cr, er, o1, o2, o3⟩ := ok1_own ho (by omega) (Fr.below (Below.refl _ _)).p; rw [HRL9.out] at er o1 o2; subst er; have HO9 := Lib.hid o1; clear ho hb9 o1)
    all_goals
      have hba := box1T w9 (.cells #[.slice a2 q cap2, .slice ar q cr] 29)
      have HC := Lib.hid (fun (W' : World) hb => two_cells w9 29 (.slice a2 q cap2) (.slice ar q cr) (w' := W') hb)
      obtain ⟨W5, hW5⟩ : ∃ W5, w9.alloc (.cells #[.slice a2 q cap2, .slice ar q cr] 29) = W5 := ⟨_, rfl⟩
      rw [hW5] at hba HC
      try rw [hW5]
      obtain ⟨g5, hg5⟩ : ∃ g5, w9.heap.size = g5 := ⟨_, rfl⟩
      rw [hg5] at HC
      try rw [hg5]
      have HB5 := Lib.hid (bel_step HB9.out hba)
      have HSA := Lib.hid (HZA.out.below (bel_step HB2.out HB5.out))
      have HSR := Lib.hid (HO9.out.below hba)
      clear hba hW5 hg5 HO9 d1 d2 d3 d4 d5 d6 d7 d8
      go_wp2_with fail
      go_loopw [10] (fun s10 wr => ∃ k : Nat, k ≤ 2 ∧ s10 = .int .i64 k ∧ Below W5.heap.size W5 wr) (fun s10 _ => 2 - (intOf s10).toNat)
      case atStart => exact ⟨0, by omega, rfl, Below.refl _ _⟩
      case round =>
        obtain ⟨k, hk, rfl, hb⟩ := hrel
        have HB := Lib.hid hb
        by_cases hlt : k < 2
        · have hltI : (k : Int) < 2 := by omega
          have hk0 : (0 : Int) ≤ (k : Int) := Int.natCast_nonneg _
          obtain ⟨ak, ck, X, hcell, hsk, hck1, hck2⟩ : ∃ ak ck X, (∀ W', Below wr.heap.size wr W' → W'.cell? ⟨g5, k, none⟩ = some (.slice ak q ck)) ∧ (∀ W', Below wr.heap.size wr W' → SlK .u64 W' ak q X) ∧ q ≤ ck ∧ ck ≤ 9223372036854775807 := by
            rcases Nat.eq_zero_or_pos k with rfl | h
            · exact ⟨a2, cap2, Q, fun W' hw => (HC.out W' (bel_step hb hw)).1, fun W' hw => HSA.out.below (bel_step hb hw), by omega, hz4⟩
            · obtain rfl : k = 1 := by omega
              exact ⟨ar, cr, R, fun W' hw => (HC.out W' (bel_step hb hw)).2, fun W' hw => HSR.out.below (bel_step hb hw), o2, o3⟩
          have HTr := Lib.hid (HT2.out.later (bel_step HB5.out hb))
          have HWa := Lib.hid (walk_tr (c := ck) HTr.out HIW.out.inv (hsk _ (Below.refl _ _)) (by omega))
          have HWb := Lib.hid (fun (W' : World) (hw : Below wr.heap.size wr W') => refWalk_tr (wa := wa) (wn := nw) (wc := wc) (lc := lc) (HRL2.out.later (bel_step (bel_step HB5.out hb) hw)) HIW.out.inv (by omega) (hsk W' hw) (by omega) hck1 hck2)
          have HDe := Lib.hid (fun (W' : World) (hw : Below wr.heap.size wr W') => depth_tr (HTr.out.later hw) (walkN L X))
          rw [depV_walk HIW.out.inv] at HDe
          obtain ⟨x, hx⟩ : ∃ x, walkN L X = x := ⟨_, rfl⟩
          obtain ⟨y, hy⟩ : ∃ y, known L X = y := ⟨_, rfl⟩
          rw [hx] at HWa HWb HDe
          rw [hy] at HWa HWb HDe
          have e1 : (x != x) = false := by simp
          have e2 : ((y : Int) != (y : Int)) = false := by simp
          have c0 := hcell _ (Below.refl _ _)
          have HCE := Lib.hid hcell
          have HX0 := Lib.hid (fun (W' : World) (hw : Below wr.heap.size wr W') => load_tv (HS4.out.later (bel_step (bel_step HB5.out hb) hw)))
          have HX1 := Lib.hid (fun (W' : World) (hw : Below wr.heap.size wr W') => (HS4.out.later (bel_step (bel_step HB5.out hb) hw)).cells)
          clear hsk hx hy hb hcell
          go_wp2_with (go_at_call 27; refine HWa.out.mono ?_; rintro e y1 ⟨rfl, hb1⟩; have HY1 := Lib.hid hb1; clear hb1)
          have c1 := HCE.out _ HY1.out
          have l1 := HX0.out _ HY1.out
          obtain ⟨z0, z1⟩ := HX1.out _ HY1.out
          go_region_law (go_simp; go_at_call 28; refine (HWb.out _ (HY1.out.drew)).mono ?_; rintro e y2 ⟨rfl, hb2⟩; have HY2 := Lib.hid (bel_step HY1.out (bel_und hb2)); clear hb2)
          all_goals
            go_wp2_with (go_at_call 13; refine (HDe.out _ HY2.out).mono ?_; rintro e y3 ⟨rfl, hb3⟩; have HY3 := Lib.hid (bel_step HY2.out hb3); clear hb3)
            go_roundw
            case rel => exact ⟨k + 1, by omega, by go_num, bel_step HB.out HY3.out⟩
            case measure => simp [intOf]; omega
        · obtain rfl : k = 2 := by omega
          have hltI : ¬ ((2 : Nat) : Int) < 2 := by omega
          have HBt := Lib.hid (bel_step HB5.out hb)
          clear hb
          obtain ⟨W6, rfl⟩ : ∃ W6, W6 = wr := ⟨_, rfl⟩
          go_wp2_with fail
          go_loopw [15] (fun s15 wz => ∃ i : Nat, i ≤ nw ∧ s15 = .int .i64 i ∧ Below W6.heap.size W6 wz) (fun s15 _ => nw - (intOf s15).toNat)
          case atStart => exact ⟨0, Nat.zero_le _, rfl, Below.refl _ _⟩
          case round =>
            obtain ⟨i, hi, rfl, hbx⟩ := hrel
            have HBX := Lib.hid hbx
            have HBr := Lib.hid (bel_step HBt.out hbx)
            obtain ⟨x0, x1⟩ := (HS4.out.later HBr.out).cells
            have HX1 := Lib.hid (fun (W' : World) (hw : Below wr.heap.size wr W') => (HS4.out.later (bel_step HBr.out hw)).cells)
            clear hbx
            by_cases hil : i < nw
            · have hiI : (i : Int) < (nw : Int) := by omega
              have hi0 : (0 : Int) ≤ (i : Int) := Int.natCast_nonneg _
              have hkW : i < W.length := by rw [HNW.out]; exact hil
              obtain ⟨ai, ci, ev, h1, hc1, hc2⟩ := HRW2.out.each i hil
              have hcl : ∃ b o, wa = some ⟨b, o, none⟩ ∧ ∀ W', Below wr.heap.size wr W' → W'.cell? ⟨b, o + i, none⟩ = some (.slice ai (W.getD i []).length ci) := by
                rcases (HRW2.out.later HBr.out).cells with h0 | ⟨b, o, e, hc⟩
                · omega
                · exact ⟨b, o, e, fun W' hw => cell_later hw (by rw [hc i hil, ev])⟩
              obtain ⟨b, o, rfl, hcell⟩ := hcl
              have hxL := (HIW.out.ws _ (gD_mem (d := []) hkW)).1
              have HTr := Lib.hid (HT2.out.later HBr.out)
              have HWa := Lib.hid (walk_tr (c := ci) HTr.out HIW.out.inv (h1.below HBr.out) (by omega))
              rw [walk_self HIW.out.inv hxL, known_self HIW.out.inv hxL] at HWa
              have HWo := Lib.hid (fun (W' : World) (hw : Below wr.heap.size wr W') => word_tr (HTr.out.later hw) (i : Int))
              rw [wordV_at hkW] at HWo
              obtain ⟨x, hx⟩ : ∃ x, findV L (W.getD i []) = x := ⟨_, rfl⟩
              obtain ⟨y, hy⟩ : ∃ y, (W.getD i []).length = y := ⟨_, rfl⟩
              rw [hx] at HWa HWo
              rw [hy] at HWa
              have c0 := hcell _ (Below.refl _ _)
              have HCE := Lib.hid hcell
              rw [hy] at c0 HCE
              have e1 : (x != x) = false := by simp
              have e2 : ((y : Int) != (y : Int)) = false := by simp
              clear hkW ev h1 hc1 hc2 hcell hxL hx hy
              go_wp2_with (first
                | (go_at_call 27; refine HWa.out.mono ?_; rintro e y1 ⟨rfl, hb1⟩; have HY1 := Lib.hid hb1; have c1 := HCE.out _ hb1; obtain ⟨z0, z1⟩ := HX1.out _ hb1; clear hb1)
                | (go_at_call 21; refine (HWo.out _ HY1.out).mono ?_; rintro e y2 ⟨rfl, rfl⟩))
              go_roundw
              case rel => exact ⟨i + 1, by omega, by go_num, bel_step HBX.out HY1.out⟩
              case measure => simp [intOf]; omega
            · obtain rfl : i = nw := by omega
              have hiI : ¬ (i : Int) < (i : Int) := by omega
              go_wp2_with (go_at_call 23; refine (lives12_any _).mono ?_; rintro e w10 ⟨rfl, hb9⟩; have HB10 := Lib.hid hb9; clear hb9)
              go_ret
              exact ⟨rfl, bel_step HB2.out (bel_step HBr.out HB10.out)⟩
  · obtain rfl : q = 7 := by omega
    have d1 : decide ((7 : Int) < (len2 : Int)) = true := decide_eq_true (by omega)
    have d2 : decide ((len2 : Int) ≤ (7 : Int)) = false := decide_eq_false (by omega)
    have d3 : ¬ (len2 : Int) ≤ 7 := by omega
    have d4 : (7 : Int) < (len2 : Int) := by omega
    have d5 : 7 < len2 := by omega
    have d6 : min (len2 : Int) 7 = 7 := by omega
    have d7 : (7 : Int) ≤ (cap2 : Int) := by omega
    have d8 : 7 ≤ cap2 := by omega
    have d9 : (if (7 : Int) < (len2 : Int) then (7 : Int) else (len2 : Int)) = 7 := if_pos (by omega)
    go_region_law (go_simp; go_at_call 26; refine (HRow.out _ ((Below.refl _ _).drew)).mono ?_; rintro e w9 ⟨v, rfl, ho, hb9⟩; have HB9 := Lib.hid (bel_und hb9); obtain ⟨ar, cr, er, o1, o2, o3⟩ := ok1_own ho (by omega) (Fr.below (Below.refl _ _)).p; rw [HRL9.out] at er o1 o2; subst er; have HO9 := Lib.hid o1; clear ho hb9 o1)
    all_goals
      have hba := box1T w9 (.cells #[.slice a2 7 cap2, .slice ar 7 cr] 29)
      have HC := Lib.hid (fun (W' : World) hb => two_cells w9 29 (.slice a2 7 cap2) (.slice ar 7 cr) (w' := W') hb)
      obtain ⟨W5, hW5⟩ : ∃ W5, w9.alloc (.cells #[.slice a2 7 cap2, .slice ar 7 cr] 29) = W5 := ⟨_, rfl⟩
      rw [hW5] at hba HC
      try rw [hW5]
      obtain ⟨g5, hg5⟩ : ∃ g5, w9.heap.size = g5 := ⟨_, rfl⟩
      rw [hg5] at HC
      try rw [hg5]
      have HB5 := Lib.hid (bel_step HB9.out hba)
      have HSA := Lib.hid (HZA.out.below (bel_step HB2.out HB5.out))
      have HSR := Lib.hid (HO9.out.below hba)
      clear hba hW5 hg5 HO9 d1 d2 d3 d4 d5 d6 d7 d8
      go_wp2_with fail
      go_loopw [10] (fun s10 wr => ∃ k : Nat, k ≤ 2 ∧ s10 = .int .i64 k ∧ Below W5.heap.size W5 wr) (fun s10 _ => 2 - (intOf s10).toNat)
      case atStart => exact ⟨0, by omega, rfl, Below.refl _ _⟩
      case round =>
        obtain ⟨k, hk, rfl, hb⟩ := hrel
        have HB := Lib.hid hb
        by_cases hlt : k < 2
        · have hltI : (k : Int) < 2 := by omega
          have hk0 : (0 : Int) ≤ (k : Int) := Int.natCast_nonneg _
          obtain ⟨ak, ck, X, hcell, hsk, hck1, hck2⟩ : ∃ ak ck X, (∀ W', Below wr.heap.size wr W' → W'.cell? ⟨g5, k, none⟩ = some (.slice ak 7 ck)) ∧ (∀ W', Below wr.heap.size wr W' → SlK .u64 W' ak 7 X) ∧ 7 ≤ ck ∧ ck ≤ 9223372036854775807 := by
            rcases Nat.eq_zero_or_pos k with rfl | h
            · exact ⟨a2, cap2, Q, fun W' hw => (HC.out W' (bel_step hb hw)).1, fun W' hw => HSA.out.below (bel_step hb hw), by omega, hz4⟩
            · obtain rfl : k = 1 := by omega
              exact ⟨ar, cr, R, fun W' hw => (HC.out W' (bel_step hb hw)).2, fun W' hw => HSR.out.below (bel_step hb hw), o2, o3⟩
          have HTr := Lib.hid (HT2.out.later (bel_step HB5.out hb))
          have HWa := Lib.hid (walk_tr (c := ck) HTr.out HIW.out.inv (hsk _ (Below.refl _ _)) (by omega))
          have HWb := Lib.hid (fun (W' : World) (hw : Below wr.heap.size wr W') => refWalk_tr (wa := wa) (wn := nw) (wc := wc) (lc := lc) (HRL2.out.later (bel_step (bel_step HB5.out hb) hw)) HIW.out.inv (by omega) (hsk W' hw) (by omega) hck1 hck2)
          have HDe := Lib.hid (fun (W' : World) (hw : Below wr.heap.size wr W') => depth_tr (HTr.out.later hw) (walkN L X))
          rw [depV_walk HIW.out.inv] at HDe
          obtain ⟨x, hx⟩ : ∃ x, walkN L X = x := ⟨_, rfl⟩
          obtain ⟨y, hy⟩ : ∃ y, known L X = y := ⟨_, rfl⟩
          rw [hx] at HWa HWb HDe
          rw [hy] at HWa HWb HDe
          have e1 : (x != x) = false := by simp
          have e2 : ((y : Int) != (y : Int)) = false := by simp
          have c0 := hcell _ (Below.refl _ _)
          have HCE := Lib.hid hcell
          have HX0 := Lib.hid (fun (W' : World) (hw : Below wr.heap.size wr W') => load_tv (HS4.out.later (bel_step (bel_step HB5.out hb) hw)))
          have HX1 := Lib.hid (fun (W' : World) (hw : Below wr.heap.size wr W') => (HS4.out.later (bel_step (bel_step HB5.out hb) hw)).cells)
          clear hsk hx hy hb hcell
          go_wp2_with (go_at_call 27; refine HWa.out.mono ?_; rintro e y1 ⟨rfl, hb1⟩; have HY1 := Lib.hid hb1; clear hb1)
          have c1 := HCE.out _ HY1.out
          have l1 := HX0.out _ HY1.out
          obtain ⟨z0, z1⟩ := HX1.out _ HY1.out
          go_region_law (go_simp; go_at_call 28; refine (HWb.out _ (HY1.out.drew)).mono ?_; rintro e y2 ⟨rfl, hb2⟩; have HY2 := Lib.hid (bel_step HY1.out (bel_und hb2)); clear hb2)
          all_goals
            go_wp2_with (go_at_call 13; refine (HDe.out _ HY2.out).mono ?_; rintro e y3 ⟨rfl, hb3⟩; have HY3 := Lib.hid (bel_step HY2.out hb3); clear hb3)
            go_roundw
            case rel => exact ⟨k + 1, by omega, by go_num, bel_step HB.out HY3.out⟩
            case measure => simp [intOf]; omega
        · obtain rfl : k = 2 := by omega
          have hltI : ¬ ((2 : Nat) : Int) < 2 := by omega
          have HBt := Lib.hid (bel_step HB5.out hb)
          clear hb
          obtain ⟨W6, rfl⟩ : ∃ W6, W6 = wr := ⟨_, rfl⟩
          go_wp2_with fail
          go_loopw [15] (fun s15 wz => ∃ i : Nat, i ≤ nw ∧ s15 = .int .i64 i ∧ Below W6.heap.size W6 wz) (fun s15 _ => nw - (intOf s15).toNat)
          case atStart => exact ⟨0, Nat.zero_le _, rfl, Below.refl _ _⟩
          case round =>
            obtain ⟨i, hi, rfl, hbx⟩ := hrel
            have HBX := Lib.hid hbx
            have HBr := Lib.hid (bel_step HBt.out hbx)
            obtain ⟨x0, x1⟩ := (HS4.out.later HBr.out).cells
            have HX1 := Lib.hid (fun (W' : World) (hw : Below wr.heap.size wr W') => (HS4.out.later (bel_step HBr.out hw)).cells)
            clear hbx
            by_cases hil : i < nw
            · have hiI : (i : Int) < (nw : Int) := by omega
              have hi0 : (0 : Int) ≤ (i : Int) := Int.natCast_nonneg _
              have hkW : i < W.length := by rw [HNW.out]; exact hil
              obtain ⟨ai, ci, ev, h1, hc1, hc2⟩ := HRW2.out.each i hil
              have hcl : ∃ b o, wa = some ⟨b, o, none⟩ ∧ ∀ W', Below wr.heap.size wr W' → W'.cell? ⟨b, o + i, none⟩ = some (.slice ai (W.getD i []).length ci) := by
                rcases (HRW2.out.later HBr.out).cells with h0 | ⟨b, o, e, hc⟩
                · omega
                · exact ⟨b, o, e, fun W' hw => cell_later hw (by rw [hc i hil, ev])⟩
              obtain ⟨b, o, rfl, hcell⟩ := hcl
              have hxL := (HIW.out.ws _ (gD_mem (d := []) hkW)).1
              have HTr := Lib.hid (HT2.out.later HBr.out)
              have HWa := Lib.hid (walk_tr (c := ci) HTr.out HIW.out.inv (h1.below HBr.out) (by omega))
              rw [walk_self HIW.out.inv hxL, known_self HIW.out.inv hxL] at HWa
              have HWo := Lib.hid (fun (W' : World) (hw : Below wr.heap.size wr W') => word_tr (HTr.out.later hw) (i : Int))
              rw [wordV_at hkW] at HWo
              obtain ⟨x, hx⟩ : ∃ x, findV L (W.getD i []) = x := ⟨_, rfl⟩
              obtain ⟨y, hy⟩ : ∃ y, (W.getD i []).length = y := ⟨_, rfl⟩
              rw [hx] at HWa HWo
              rw [hy] at HWa
              have c0 := hcell _ (Below.refl _ _)
              have HCE := Lib.hid hcell
              rw [hy] at c0 HCE
              have e1 : (x != x) = false := by simp
              have e2 : ((y : Int) != (y : Int)) = false := by simp
              clear hkW ev h1 hc1 hc2 hcell hxL hx hy
              go_wp2_with (first
                | (go_at_call 27; refine HWa.out.mono ?_; rintro e y1 ⟨rfl, hb1⟩; have HY1 := Lib.hid hb1; have c1 := HCE.out _ hb1; obtain ⟨z0, z1⟩ := HX1.out _ hb1; clear hb1)
                | (go_at_call 21; refine (HWo.out _ HY1.out).mono ?_; rintro e y2 ⟨rfl, rfl⟩))
              go_roundw
              case rel => exact ⟨i + 1, by omega, by go_num, bel_step HBX.out HY1.out⟩
              case measure => simp [intOf]; omega
            · obtain rfl : i = nw := by omega
              have hiI : ¬ (i : Int) < (i : Int) := by omega
              go_wp2_with (go_at_call 23; refine (lives12_any _).mono ?_; rintro e w10 ⟨rfl, hb9⟩; have HB10 := Lib.hid hb9; clear hb9)
              go_ret
              exact ⟨rfl, bel_step HB2.out (bel_step HBr.out HB10.out)⟩
end Go.Proofs.Ytaechkdmijgfiaa
