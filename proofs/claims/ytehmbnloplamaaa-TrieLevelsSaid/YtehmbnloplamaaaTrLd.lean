/- A tree's nodes, sorted by their depth: the comparer of byDepth. Condition: a tree that stands. -/
import Derived.Test.YtehmbnloplamaaaTrB
import Derived.Test.YtehmbnloplamaaaAuOrd
import Derived.Test.YtehmbnloplamaaaTrLac
import Derived.Sort.Grow
import Derived.Deep.RegionLaw
namespace Go.Proofs.Ytehmbnloplamaaa
open Go.RowKit Go.Shelf
set_option linter.unusedVariables false
open Tr
/-- what lay lies on, and no fewer draws were taken -/
structure Bd (w w' : World) : Prop where
  bel : Below w.heap.size w w'
  dr : w.drawn ≤ w'.drawn
theorem Bd.refl (w : World) : Bd w w := ⟨Below.refl _ _, Nat.le_refl _⟩
theorem Bd.trans {a b c : World} (h : Bd a b) (k : Bd b c) : Bd a c := ⟨bel_step h.bel k.bel, Nat.le_trans h.dr k.dr⟩
theorem Bd.drew1 (w : World) : Bd w w.drew := ⟨(Below.refl _ _).drew, by show w.drawn ≤ w.drawn + 1; omega⟩
theorem Bd.alloc1 (w : World) (o : Obj) : Bd w (w.alloc o) := ⟨(Below.refl _ _).alloc (Nat.le_refl _) _, Nat.le_refl _⟩
theorem Bd.set {w w' : World} (h : Bd w w') {b i : Nat} (hb : w.heap.size ≤ b) (v : Value) : Bd w (w'.setCell ⟨b, i, none⟩ v) := ⟨h.bel.setCell (by simpa using hb) _, h.dr⟩
theorem Bd.grown {w w' : World} (h : Bd w w') : ∃ q os, w' = Go.Sort.grow (w.drewN q) os := by
  refine ⟨w'.drawn - w.drawn, w'.heap.extract w.heap.size w'.heap.size, ?_⟩
  have hh : w'.heap = w.heap ++ w'.heap.extract w.heap.size w'.heap.size := by
    apply Array.ext_getElem?
    intro k
    rw [Array.getElem?_append]
    by_cases hk : k < w.heap.size
    · rw [if_pos hk]; exact h.bel.block k hk
    · rw [if_neg hk]
      simp only [Array.getElem?_extract]
      by_cases hk' : k < w'.heap.size
      · rw [if_pos (by omega), show w.heap.size + (k - w.heap.size) = k by omega]
      · rw [if_neg (by omega), Array.getElem?_eq_none (by omega)]
  have h1 := h.bel.os
  have h2 := h.bel.tape
  have h3 := h.bel.output
  have h4 := h.dr
  cases w with
  | mk a1 a2 a3 a4 a5 =>
    cases w' with
    | mk b1 b2 b3 b4 b5 =>
      simp only at h1 h2 h3 h4 hh
      subst h1 h2 h3
      unfold Go.Sort.grow World.drewN
      simp only [World.mk.injEq, and_true, true_and]
      exact ⟨hh, by omega⟩
set_option maxRecDepth 100000 in
set_option maxHeartbeats 1000000 in
theorem at_yesD (tb nb n nc k : Nat) (p q d : Int) (ka wa : Option Addr) (kn kc wn wc : Nat) (w : World) (hk : k < n) (hn : n ≤ 9223372036854775807) (b0 : w.cell? ⟨tb, 0, none⟩ = some (.slice (some ⟨nb, 0, none⟩) n nc))
    (c0 : w.cell? ⟨nb, k * 5, none⟩ = some (.int .u64 p)) (c1 : w.cell? ⟨nb, k * 5 + 1, none⟩ = some (.int .i64 q)) (c2 : w.cell? ⟨nb, k * 5 + 2, none⟩ = some (.int .i64 d)) (c3 : w.cell? ⟨nb, k * 5 + 3, none⟩ = some (.slice ka kn kc)) (c4 : w.cell? ⟨nb, k * 5 + 4, none⟩ = some (.slice wa wn wc)) :
    Calls Try.prog 71 #[.pointer (some ⟨tb, 0, none⟩), .int .i64 k] w fun e w' => e = .returned (.agg #[.int .u64 p, .int .i64 q, .int .i64 d, .slice ka kn kc, .slice wa wn wc]) ∧ Bd w w' := by
  have h1 : (k : Int) < (n : Int) := by omega
  have h0 : (0 : Int) ≤ (k : Int) := Int.natCast_nonneg _
  have hb := box1T w (.cells #[.int .u64 0, .int .i64 0, .int .i64 0, .slice none 0 0, .slice none 0 0] 79)
  replace b0 := cell_later hb b0; replace c0 := cell_later hb c0; replace c1 := cell_later hb c1; replace c2 := cell_later hb c2; replace c3 := cell_later hb c3; replace c4 := cell_later hb c4
  have HB := Lib.hid (Bd.alloc1 w (.cells #[.int .u64 0, .int .i64 0, .int .i64 0, .slice none 0 0, .slice none 0 0] 79))
  have HS := Lib.hid (Nv.new w (.int .u64 0) (.int .i64 0) (.int .i64 0) (.slice none 0 0) (.slice none 0 0))
  obtain ⟨W, hW⟩ : ∃ W, w.alloc (.cells #[.int .u64 0, .int .i64 0, .int .i64 0, .slice none 0 0, .slice none 0 0] 79) = W := ⟨_, rfl⟩
  rw [hW] at b0 c0 c1 c2 c3 c4 HB HS
  clear hb
  obtain ⟨d0, d1, d2, d3, d4⟩ := HS.out.cells
  obtain ⟨f0, f1, f2, f3, f4⟩ := HS.out.fr
  go_enter Try.func71, Try.ntmps71
  go_upto_region 1 with fail
  try rw [hW]
  clear hW
  go_wp2
  (try simp only [Exit.inBlock, Exit.then])
  refine bodyPost_ret (ret_cell1 rfl _ _ _ _ rfl (load_nd (HS.out.put _ _ _ _ _))) rfl ⟨rfl, ?_⟩
  exact ((((HB.out.set (Nat.le_refl _) _).set (Nat.le_refl _) _).set (Nat.le_refl _) _).set (Nat.le_refl _) _).set (Nat.le_refl _) _
theorem at_noD (tb nb n nc : Nat) (k : Int) (w : World) (hk : out' n k) (hn : n ≤ 9223372036854775807) (b0 : w.cell? ⟨tb, 0, none⟩ = some (.slice (some ⟨nb, 0, none⟩) n nc)) :
    Calls Try.prog 71 #[.pointer (some ⟨tb, 0, none⟩), .int .i64 k] w fun e w' => e = .returned (.agg #[.int .u64 0, .int .i64 (-1), .int .i64 (-1), .slice none 0 0, .slice none 0 0]) ∧ Bd w w' := by
  have hb := box1T w (.cells #[.int .u64 0, .int .i64 0, .int .i64 0, .slice none 0 0, .slice none 0 0] 79)
  replace b0 := cell_later hb b0
  have HB := Lib.hid (Bd.alloc1 w (.cells #[.int .u64 0, .int .i64 0, .int .i64 0, .slice none 0 0, .slice none 0 0] 79))
  have HS := Lib.hid (Nv.new w (.int .u64 0) (.int .i64 0) (.int .i64 0) (.slice none 0 0) (.slice none 0 0))
  obtain ⟨W, hW⟩ : ∃ W, w.alloc (.cells #[.int .u64 0, .int .i64 0, .int .i64 0, .slice none 0 0, .slice none 0 0] 79) = W := ⟨_, rfl⟩
  rw [hW] at b0 HB HS
  obtain ⟨d0, d1, d2, d3, d4⟩ := HS.out.cells
  obtain ⟨f0, f1, f2, f3, f4⟩ := HS.out.fr
  have hk' : k < 0 ∨ (0 ≤ k ∧ (n : Int) ≤ k) := by unfold out' at hk; omega
  clear hb hk
  rcases hk' with hk | ⟨hk0, hk⟩
  all_goals
    go_enter Try.func71, Try.ntmps71
    go_upto_region 1 with fail
    try rw [hW]
    clear hW
    go_wp2
    (try simp only [Exit.inBlock, Exit.then])
    refine bodyPost_ret (ret_cell1 rfl _ _ _ _ rfl (load_nd (HS.out.put _ _ _ _ _))) rfl ⟨rfl, ?_⟩
    exact ((((HB.out.set (Nat.le_refl _) _).set (Nat.le_refl _) _).set (Nat.le_refl _) _).set (Nat.le_refl _) _).set (Nat.le_refl _) _
theorem TrP.at_inD {w : World} {B tb nb nc : Nat} {rv : Nat → Value} {L W : LL} (h : TrP w B tb nb nc rv L W) {k : Nat} (hk : k < L.length) :
    Calls Try.prog 71 #[.pointer (some ⟨tb, 0, none⟩), .int .i64 k] w fun e w' => e = .returned (.agg #[.int .u64 (num L k), .int .i64 (parV L k), .int .i64 (depV L k), rv (2 * k + 1), rv (2 * k + 2)]) ∧ Bd w w' := by
  obtain ⟨a, c, e1⟩ := h.form (i := 2 * k + 1) (by omega)
  obtain ⟨a2, c2, e2⟩ := h.form (i := 2 * k + 2) (by omega)
  obtain ⟨h0, h1, h2, h3, h4⟩ := TrX.cells h hk
  rw [e1] at h3
  rw [e2] at h4
  have hc := h.len9
  rw [e1, e2]
  exact at_yesD tb nb L.length nc k _ _ _ a a2 _ c _ c2 w hk (by omega) (TrX.boxes h).1 h0 h1 h2 h3 h4
theorem TrP.at_outD {w : World} {B tb nb nc : Nat} {rv : Nat → Value} {L W : LL} (h : TrP w B tb nb nc rv L W) {k : Int} (hk : out L k) :
    Calls Try.prog 71 #[.pointer (some ⟨tb, 0, none⟩), .int .i64 k] w fun e w' => e = .returned (.agg #[.int .u64 0, .int .i64 (-1), .int .i64 (-1), .slice none 0 0, .slice none 0 0]) ∧ Bd w w' :=
  at_noD tb nb L.length nc k w hk h.len9 (TrX.boxes h).1
theorem depth_trD {w : World} {B tb nb nc : Nat} {rv : Nat → Value} {L W : LL} (h : TrP w B tb nb nc rv L W) (k : Int) : Calls Try.prog 70 #[.pointer (some ⟨tb, 0, none⟩), .int .i64 k] w fun e w' => e = .returned (.int .i64 (depV L k)) ∧ Bd w w' := by
  by_cases hk : out L k
  · have hc := h.at_outD hk
    have e : depV L k = -1 := by unfold depV; rw [if_pos hk]
    rw [e]
    clear e hk h
    have hfd := nd_field2
    go_enter Try.func70, Try.ntmps70
    go_wp2_with (go_at_call 71; refine hc.mono ?_; rintro e w1 ⟨rfl, hb⟩; have HB := Lib.hid hb; clear hb)
    go_ret
    exact ⟨rfl, HB.out⟩
  · obtain ⟨n, rfl⟩ : ∃ n : Nat, k = (n : Int) := ⟨k.toNat, by omega⟩
    have hn : n < L.length := by omega
    have hc := h.at_inD hn
    generalize parV L n = p at hc ⊢
    generalize num L n = p at hc ⊢
    generalize depV L n = p at hc ⊢
    generalize rv (2 * n + 1) = v at hc ⊢
    generalize rv (2 * n + 2) = v at hc ⊢
    clear hk h hn
    have hfd := nd_field2
    go_enter Try.func70, Try.ntmps70
    go_wp2_with (go_at_call 71; refine hc.mono ?_; rintro e w1 ⟨rfl, hb⟩; have HB := Lib.hid hb; clear hb)
    go_ret
    exact ⟨rfl, HB.out⟩
theorem compare_any (x y : Int) (w : World) : Calls Try.prog 69 #[.int .i64 x, .int .i64 y] w fun e w' => e = .returned (.int .i64 (Lib.compareInt x y)) ∧ w' = w :=
  AnyG.cmp_Compare_int Ly.cmpC x y w
theorem or_two {ad : Option Addr} {g : Nat} (x y : Int) (w : World) (hg : ad = some ⟨g, 0, none⟩) (c0 : w.cell? ⟨g, 0, none⟩ = some (.int .i64 x)) (c1 : w.cell? ⟨g, 1, none⟩ = some (.int .i64 y)) :
    Calls Try.prog 68 #[.slice ad 2 2] w fun e w' => e = .returned (.int .i64 (Au.orV x y)) ∧ w' = w := by
  subst hg
  by_cases h : x = 0
  · have hx : (x != 0) = false := by simpa using h
    have e1 : Au.orV x y = y := by unfold Au.orV; rw [if_neg (by simpa using h)]
    rw [e1]
    clear e1 h
    by_cases hy : y = 0
    · have hy' : (y != 0) = false := by simpa using hy
      have HY := Lib.hid hy
      clear hy
      go_enter Try.func68, Try.ntmps68
      go_wp2
      refine wp_loop_rounds 3 ?_
      rw [rounds_succ]
      go_wp2
      rw [rounds_succ]
      go_wp2
      rw [rounds_succ]
      go_wp2
      go_ret
      exact ⟨congrArg (fun z : Int => Ending.returned (.int .i64 z)) HY.out.symm, rfl⟩
    · have hy' : (y != 0) = true := by simpa using hy
      clear hy
      go_enter Try.func68, Try.ntmps68
      go_wp2
      refine wp_loop_rounds 3 ?_
      rw [rounds_succ]
      go_wp2
      rw [rounds_succ]
      go_wp2
      go_ret
      exact ⟨rfl, rfl⟩
  · have hx : (x != 0) = true := by simpa using h
    have e1 : Au.orV x y = x := by unfold Au.orV; rw [if_pos h]
    rw [e1]
    clear e1 h
    go_enter Try.func68, Try.ntmps68
    go_wp2
    refine wp_loop_rounds 3 ?_
    rw [rounds_succ]
    go_wp2
    go_ret
    exact ⟨rfl, rfl⟩
set_option maxRecDepth 100000 in
set_option maxHeartbeats 1000000 in
theorem byCmp_tr {w : World} {B tb nb nc p : Nat} {rv : Nat → Value} {L W : LL} (h : TrP w B tb nb nc rv L W) (cp : w.cell? ⟨p, 0, none⟩ = some (.pointer (some ⟨tb, 0, none⟩))) (a b : Int) :
    Calls Try.prog 67 #[.int .i64 a, .int .i64 b, .pointer (some ⟨p, 0, none⟩)] w fun e w' => e = .returned (.int .i64 (Au.cmpV L a b)) ∧ Bd w w' := by
  have HDa := Lib.hid (fun W' (hb : Bd w W') => depth_trD (h.later hb.bel) a)
  have HDb := Lib.hid (fun W' (hb : Bd w W') => depth_trD (h.later hb.bel) b)
  have HX := Lib.hid (fun W' (hb : Bd w W') => cell_later hb.bel cp)
  have hBt := Bd.drew1 w
  obtain ⟨u, hu⟩ : ∃ u, depV L a = u := ⟨_, rfl⟩
  obtain ⟨v, hv⟩ : ∃ v, depV L b = v := ⟨_, rfl⟩
  have HV : Hid (Au.cmpV L a b = Au.orV (Lib.compareInt u v) (Lib.compareInt a b)) := Lib.hid (by unfold Au.cmpV; rw [hu, hv])
  rw [hu] at HDa
  rw [hv] at HDb
  obtain ⟨ox, hx⟩ : ∃ x, Lib.compareInt u v = x := ⟨_, rfl⟩
  obtain ⟨oy, hy⟩ : ∃ y, Lib.compareInt a b = y := ⟨_, rfl⟩
  have HC1 := Lib.hid (compare_any u v)
  have HC2 := Lib.hid (compare_any a b)
  rw [hx] at HC1 HV
  rw [hy] at HC2 HV
  rw [HV.out]
  clear h hu hv hx hy
  go_enter Try.func67, Try.ntmps67
  go_upto_region 1 with fail
  go_region_law (first
    | (go_simp; go_at_call 70; (first | (with_reducible refine (HDa.out _ hBt).mono ?_) | (with_reducible refine (HDb.out _ hBt).mono ?_)); rintro e y ⟨rfl, hb⟩; replace hBt := hBt.trans hb; have cy := HX.out _ hBt; clear hb)
    | (go_simp; go_at_call 69; (first | (with_reducible refine (HC1.out _).mono ?_) | (with_reducible refine (HC2.out _).mono ?_)); rintro e y ⟨rfl, rfl⟩)
    | (go_simp; go_at_call 68; refine (or_two ox oy _ rfl (by simp [go_sem]) (by simp [go_sem])).mono ?_; rintro e y ⟨rfl, rfl⟩))
  all_goals
    go_wp2
    go_ret
    exact ⟨rfl, hBt.trans (Bd.alloc1 _ _)⟩
end Go.Proofs.Ytehmbnloplamaaa
