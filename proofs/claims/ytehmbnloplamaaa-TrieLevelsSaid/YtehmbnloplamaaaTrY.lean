/- What a node's parent and children are: by the document's tree. No condition but that lengths fit. -/
import Derived.Test.YtehmbnloplamaaaTrX
import Derived.Test.YtehmbnloplamaaaTrQ
import Derived.Test.YtehmbnloplamaaaApp
namespace Go.Proofs.Ytehmbnloplamaaa
open Go.RowKit
set_option linter.unusedVariables false
open Tr
set_option maxRecDepth 100000 in
set_option maxHeartbeats 2000000 in
theorem refParent_tr {w : World} {la wa : Option Addr} {ln lc wn wc : Nat} {vs : List Value} {L : LL} (h : Rv w la ln vs L) (hI : Inv L) (hn : ln ≤ 9223372036854775807) (k : Int) :
    Calls Try.prog 40 #[.agg #[.slice la ln lc, .slice wa wn wc], .int .i64 k] w fun e w' => e = .returned (.int .i64 (parV L k)) ∧ Below w.heap.size w w' := by
  have hb := box1T w (.cells #[.slice la ln lc, .slice wa wn wc] 25)
  have HB := Lib.hid hb
  have HT := Lib.hid (Tv.new w (.slice la ln lc) (.slice wa wn wc))
  have HR := Lib.hid (h.later hb)
  have hrl := h.rl
  obtain ⟨W, hW⟩ : ∃ W, w.alloc (.cells #[.slice la ln lc, .slice wa wn wc] 25) = W := ⟨_, rfl⟩
  rw [hW] at HB HT HR
  obtain ⟨x0, x1⟩ := HT.out.cells
  have hld := load_tv HT.out
  clear h hb
  by_cases h1 : k < 1
  · have e : parV L k = -1 := by unfold parV; rw [if_pos (.inl h1)]
    rw [e]
    clear e
    go_enter Try.func40, Try.ntmps40
    go_upto_region 1 with fail
    try rw [hW]
    clear hW
    go_wp2
    go_ret
    exact ⟨rfl, HB.out⟩
  · by_cases h2 : (ln : Int) ≤ k
    · have e : parV L k = -1 := by unfold parV; rw [if_pos (.inr (by omega))]
      rw [e]
      clear e
      go_enter Try.func40, Try.ntmps40
      go_upto_region 1 with fail
      try rw [hW]
      clear hW
      go_wp2
      go_ret
      exact ⟨rfl, HB.out⟩
    · obtain ⟨i, rfl⟩ : ∃ i : Nat, k = (i : Int) := ⟨k.toNat, by omega⟩
      have hi1 : 1 ≤ i := by omega
      have hil : i < ln := by omega
      have e := par_at hi1 (show i < L.length by omega)
      have hne := (hI.up i hi1 (by omega)).1
      obtain ⟨ai, ci, e1, e2, e3, e4⟩ := HR.out.each i hil
      have hcl : ∃ b o, la = some ⟨b, o, none⟩ ∧ W.cell? ⟨b, o + i, none⟩ = some (.slice ai (L.getD i []).length ci) := by
        rcases HR.out.cells with h0 | ⟨b, o, ee, hc⟩
        · omega
        · exact ⟨b, o, ee, by rw [hc i hil, e1]⟩
      obtain ⟨b, o, rfl, hc⟩ := hcl
      rw [e]
      obtain ⟨p, hp⟩ : ∃ p, L.getD i [] = p := ⟨_, rfl⟩
      rw [hp] at e2 e3 hc hne ⊢
      obtain ⟨j, hj⟩ : ∃ j, p.length = j + 1 := by
        rcases Nat.eq_zero_or_pos p.length with e0 | e0
        · exact absurd (List.length_eq_zero_iff.1 e0) hne
        · exact ⟨p.length - 1, by omega⟩
      have hdl : p.dropLast = p.take j := by rw [List.dropLast_eq_take, hj]; rfl
      rw [hdl]
      rw [hj] at e2 e3 hc
      have HFI := Lib.hid (fun W' (hb : Below W.heap.size W W') => find_tr (wa := wa) (wn := wn) (wc := wc) (lc := lc) (pc := ci) (HR.out.later hb) hn ((slk_take e2 (show j ≤ j + 1 by omega)).below hb) (by omega))
      obtain ⟨r, hr⟩ : ∃ r, findV L (p.take j) = r := ⟨_, rfl⟩
      rw [hr] at HFI ⊢
      have hj0 : (0 : Int) ≤ (j : Int) := Int.natCast_nonneg _
      have hjm : ((j + 1 : Nat) : Int) - 1 = (j : Int) := by omega
      have hjc : j ≤ ci := by omega
      have hjcI : (j : Int) ≤ (ci : Int) := by omega
      have hjw : IntKind.i64.wrap (j : Int) = (j : Int) := by simp [IntKind.wrap, IntKind.bits, IntKind.signed]; omega
      have hiI : (i : Int) < (ln : Int) := by omega
      have hi0 : (0 : Int) ≤ (i : Int) := Int.natCast_nonneg _
      clear e hne e1 e2 hp hdl hr hj hrl hI
      go_enter Try.func40, Try.ntmps40
      go_upto_region 1 with fail
      try rw [hW]
      clear hW
      go_wp2_with fail
      go_region_law (go_simp; go_at_call 48; refine (HFI.out _ ((Below.refl _ _).drew)).mono ?_; rintro e w9 ⟨rfl, hb9⟩; have HB9 := Lib.hid (bel_step HB.out (bel_und hb9)); clear hb9)
      all_goals
        go_wp2_with fail
        go_ret
        exact ⟨rfl, HB9.out⟩
end Go.Proofs.Ytehmbnloplamaaa
