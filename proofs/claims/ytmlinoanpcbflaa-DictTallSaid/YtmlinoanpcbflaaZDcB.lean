/- The room of a list of variants, cut; where among variants the first one of an image is. Condition: the numbers lie in memory. -/
import Derived.Test.YtmlinoanpcbflaaZgAE
namespace Go.Proofs.Ytmlinoanpcbflaa
open Go.RowKit
set_option linter.unusedVariables false
open Dc
theorem clip_any (a : Option Addr) (n c : Nat) (hn : n ≤ c) (hc : c ≤ 9223372036854775807) (h0 : a = none → c = 0) (w : World) :
    Calls Try.prog 35 #[.slice a n c] w fun e w' => e = .returned (.slice a n n) ∧ w = w' := by
  cases a with
  | none =>
    have := h0 rfl
    subst this
    obtain rfl : n = 0 := by omega
    go_enter Try.func35, Try.ntmps35
    go_wp2
    go_ret
    exact ⟨rfl, rfl⟩
  | some ad =>
    obtain ⟨b, o, p⟩ := ad
    go_enter Try.func35, Try.ntmps35
    go_wp2
    go_ret
    exact ⟨by simp, rfl⟩
namespace Dc
/-- an image, as a value -/
def imV (x : Im) (v : Value) : Value := agI x.1 x.2.1 (x.2.2.1 : Nat) (x.2.2.2.1 : Nat) v
theorem same_eq (x y : Im) : Im.sameV x.1 x.2.1 (x.2.2.1 : Nat) (x.2.2.2.1 : Nat) x.2.2.2.2 y.1 y.2.1 (y.2.2.1 : Nat) (y.2.2.2.1 : Nat) y.2.2.2.2 = decide (x = y) := by
  obtain ⟨x1, x2, x3, x4, x5⟩ := x
  obtain ⟨y1, y2, y3, y4, y5⟩ := y
  unfold Im.sameV Hj.same2
  rw [Bool.eq_iff_iff]
  simp only [Bool.and_eq_true, decide_eq_true_eq, beq_iff_eq, Prod.mk.injEq]
  constructor
  · rintro ⟨⟨h1, h2⟩, h3, h4, h5⟩
    exact ⟨h1, h2, by omega, by omega, h5⟩
  · rintro ⟨h1, h2, h3, h4, h5⟩
    exact ⟨⟨h1, h2⟩, by omega, by omega, h5⟩
end Dc
set_option maxHeartbeats 2000000 in
theorem dclo_any (x : Im) (g oc : Nat) (oa : Option Addr) (on : Nat) (lb g2 c2 : Nat) (y : Im) (w : World) (hn : x.2.2.2.2.length ≤ 9223372036854775807) (hF : Ib w lb 36 y.1 y.2.1 (y.2.2.1 : Nat) (y.2.2.2.1 : Nat) (.slice (some ⟨g2, 0, none⟩) y.2.2.2.2.length c2)) (h1 : SlK .u64 w (some ⟨g, 0, none⟩) x.2.2.2.2.length x.2.2.2.2) (h2 : SlK .u64 w (some ⟨g2, 0, none⟩) y.2.2.2.2.length y.2.2.2.2) :
    Calls Try.prog 38 #[.agg #[.int .i64 x.1, .int .i64 x.2.1, .int .i64 (x.2.2.1 : Nat), .int .i64 (x.2.2.2.1 : Nat), .slice (some ⟨g, 0, none⟩) x.2.2.2.2.length x.2.2.2.2.length, .slice oa on oc], .pointer (some ⟨lb, 0, none⟩)] w fun e w' => e = .returned (.bool (decide (x = y))) ∧ Below w.heap.size w w' := by
  obtain ⟨c0, c1, c2', c3, c4⟩ := hF.cells
  have hlt := hF.lt
  obtain ⟨x1, x2, x3, x4, x5⟩ := x
  obtain ⟨y1, y2, y3, y4, y5⟩ := y
  dsimp only at hn h1 h2 c0 c1 c2' c3 c4 ⊢
  have B := dc_box w (.cells #[.int .i64 x1, .int .i64 x2, .int .i64 x3, .int .i64 x4, .slice (some ⟨g, 0, none⟩) x5.length x5.length, .slice oa on oc] 69)
  have hS := Lib.hid (imSame_any x1 x2 x3 x4 y1 y2 y3 y4 (some ⟨g, 0, none⟩) (some ⟨g2, 0, none⟩) x5.length y5.length x5.length c2 x5 y5 (w.alloc (.cells #[.int .i64 x1, .int .i64 x2, .int .i64 x3, .int .i64 x4, .slice (some ⟨g, 0, none⟩) x5.length x5.length, .slice oa on oc] 69)) hn (h1.below B) (h2.below B))
  rw [same_eq (x1, x2, x3, x4, x5) (y1, y2, y3, y4, y5)] at hS
  unfold agI at hS
  clear h1 h2 hF
  obtain ⟨q, hq⟩ : ∃ q, decide ((x1, x2, x3, x4, x5) = (y1, y2, y3, y4, y5)) = q := ⟨_, rfl⟩
  rw [hq] at hS ⊢
  obtain ⟨n, hn5⟩ : ∃ n, x5.length = n := ⟨_, rfl⟩
  obtain ⟨m, hm5⟩ : ∃ m, y5.length = m := ⟨_, rfl⟩
  rw [hn5, hm5] at hS
  rw [hn5] at B hn ⊢
  rw [hm5] at c4
  clear hq hn5 hm5
  go_enter Try.func38, Try.ntmps38
  go_wp2_with (go_at_call 39; refine hS.out.mono ?_; rintro e w1 ⟨rfl, hb⟩; replace B := bel_step B hb)
  go_ret
  exact ⟨rfl, B⟩
set_option maxRecDepth 100000 in
set_option maxHeartbeats 4000000 in
/-- slices.IndexFunc of a list of variants: where the first one of an image is -/
theorem dindex_any (v : Value) (l : List Vr) (lb g2 c2 : Nat) (y : Im) (w : World) (hl : Lies w v l) (hp : ∀ r ∈ l, OwnG 0 w r.2.1 r.1.2.2.2.2 ∧ r.1.2.2.2.2.length ≤ 9223372036854775807) (hF : Ib w lb 36 y.1 y.2.1 (y.2.2.1 : Nat) (y.2.2.2.1 : Nat) (.slice (some ⟨g2, 0, none⟩) y.2.2.2.2.length c2)) (h2 : SlK .u64 w (some ⟨g2, 0, none⟩) y.2.2.2.2.length y.2.2.2.2) :
    Calls Try.prog 37 #[v, .func (.func 38) #[] #[.pointer (some ⟨lb, 0, none⟩)]] w fun e w' => e = .returned (.int .i64 (plc (l.map (·.1)) y)) ∧ Below w.heap.size w w' := by
  obtain ⟨ad, cap, rfl, _, hm⟩ := hl.form
  have hk9 : l.length ≤ 9223372036854775807 := by unfold maxLen at hm; omega
  obtain ⟨k, hk⟩ : ∃ k, l.length = k := ⟨_, rfl⟩
  have HC : Hid (∀ (i j : Nat) (r : Vr) (y : Value), l[i]? = some r → (vcs r)[j]? = some y → ∃ g, ad = some ⟨g, 0, none⟩ ∧ w.cell? ⟨g, i * 6 + j, none⟩ = some y) := Lib.hid fun i j r y h1 h2 => by
    obtain ⟨g, cap', e, hc⟩ := hl.cell h1 h2
    injection e with e1 _ _
    exact ⟨g, e1, hc⟩
  have HK := Lib.hid hk
  have HP := Lib.hid hp
  have HF := Lib.hid hF
  have H2 := Lib.hid h2
  have hfin : Hid (∀ p : Nat → Bool, (∀ i r, l[i]? = some r → p i = decide (r.1 = y)) → Tu.firstI p k = plc (l.map (·.1)) y) := Lib.hid fun p h => by
    rw [← hk, show l.length = (l.map fun r : Vr => r.1).length from (List.length_map _).symm]
    refine first_plc fun i z hz => ?_
    rw [List.getElem?_map] at hz
    cases hr : l[i]? with
    | none => rw [hr] at hz; cases hz
    | some r => rw [hr] at hz; cases hz; exact h i r hr
  rw [hk] at hk9 ⊢
  have en := enters_of Try.func38 (by kernel_rfl) rfl
  clear hl hp hF h2 hk hm
  go_enter Try.func37, Try.ntmps37
  go_wp2
  go_loopg [8] k (fun gg s8 wr => ∃ j : Nat, j + gg = k ∧ s8 = .int .i64 j ∧ Below w.heap.size w wr ∧ Hid (∀ i r, i < j → l[i]? = some r → r.1 ≠ y))
  case atStart => exact ⟨0, by omega, rfl, Below.refl _ _, fun i r hi => absurd hi (Nat.not_lt_zero _)⟩
  case round =>
    obtain ⟨j, hj, rfl, hB, hA⟩ := hrel
    cases gk with
    | zero =>
      obtain rfl : j = k := by omega
      have hlt : ¬ (j : Int) < j := by omega
      have HR : Hid (plc (l.map (·.1)) y = -1) := Lib.hid (by
        rw [← hfin.out (fun _ => false) fun i r hr => (decide_eq_false (hA.out i r (by have := (List.getElem?_eq_some_iff.1 hr).1; have := HK.out; omega) hr)).symm]
        exact Tu.firstI_miss fun i hi => rfl)
      go_wp2
      go_ret
      exact ⟨Ar.ret_i HR.out.symm, hB⟩
    | succ gg =>
      have hlt : (j : Int) < (k : Int) := by omega
      have hjk : j < k := by omega
      obtain ⟨r, hr⟩ : ∃ r, l[j]? = some r := ⟨_, List.getElem?_eq_getElem (by rw [HK.out]; exact hjk)⟩
      obtain ⟨g, rfl, q0⟩ := HC.out j 0 r _ hr rfl
      have cc : ∀ (i : Nat) (y : Value), (vcs r)[i]? = some y → wr.cell? ⟨g, j * 6 + i, none⟩ = some y := fun i y hy => by
        obtain ⟨g', e, hc⟩ := HC.out j i r y hr hy
        cases e
        exact cell_later hB hc
      have q0 := cell_later hB q0
      have q1 := cc 1 _ rfl
      have q2 := cc 2 _ rfl
      have q3 := cc 3 _ rfl
      have q4 := cc 4 _ rfl
      have q5 := cc 5 _ rfl
      obtain ⟨p1, p2⟩ := HP.out r (List.mem_of_getElem? hr)
      have HCL := Lib.hid (dclo_any r.1 r.2.1 r.2.2.1.2 r.2.2.1.1 r.2.2.2.length lb g2 c2 y wr p2 (HF.out.later hB) ((ownG_len p1 rfl).below hB) (H2.out.below hB))
      obtain ⟨e, he⟩ : ∃ e, decide (r.1 = y) = e := ⟨_, rfl⟩
      rw [he] at HCL
      have HE := Lib.hid he
      have HR := Lib.hid hr
      clear p1 p2 he hr cc
      obtain ⟨⟨rc, rm, rW, rH, rL⟩, rg, ⟨ra, rc2⟩, ros⟩ := r
      dsimp only [vcs, Nat.add_zero] at q0 q1 q2 q3 q4 q5 HCL
      obtain ⟨n, hn⟩ : ∃ n, rL.length = n := ⟨_, rfl⟩
      obtain ⟨on, hon⟩ : ∃ n, ros.length = n := ⟨_, rfl⟩
      rw [hn] at q4 HCL
      rw [hon] at q5 HCL
      clear hn hon
      cases e with
      | true =>
        have HH : Hid (plc (l.map (·.1)) y = j) := Lib.hid (by
          rw [← hfin.out (fun i => match l[i]? with | some r => decide (r.1 = y) | none => false) fun i r hr => by rw [hr]]
          refine Tu.firstI_hit hjk (fun i hi => ?_) ?_
          · cases hi2 : l[i]? with
            | none => rfl
            | some r => exact decide_eq_false (hA.out i r hi hi2)
          · rw [HR.out]; exact HE.out)
        go_wp2_with fail
        refine HCL.out.mono ?_
        rintro e w9 ⟨rfl, hb9⟩
        have hB9 := hB.trans (hb9.mono hB.size)
        go_wp2
        go_ret
        exact ⟨Ar.ret_i HH.out.symm, hB9⟩
      | false =>
        go_wp2_with fail
        refine HCL.out.mono ?_
        rintro e w9 ⟨rfl, hb9⟩
        have hB9 := hB.trans (hb9.mono hB.size)
        go_wp2
        go_roundg gg
        case measure => omega
        case rel =>
          refine ⟨j + 1, by omega, by go_num, hB9, fun i r hi hr => ?_⟩
          rcases Nat.lt_or_ge i j with h | h
          · exact hA.out i r h hr
          · obtain rfl : i = j := by omega
            rw [HR.out] at hr
            cases hr
            exact of_decide_eq_false HE.out
end Go.Proofs.Ytmlinoanpcbflaa
