/- A node's child: by the document's tree. Condition: few paths, of few numbers. -/
import Derived.Test.YtaechkdmijgfiaaTrX
import Derived.Test.YtaechkdmijgfiaaTrR
import Derived.Test.YtaechkdmijgfiaaApp
import Derived.Test.YtaechkdmijgfiaaTrK
namespace Go.Proofs.Ytaechkdmijgfiaa
open Go.RowKit
set_option linter.unusedVariables false
open Tr
theorem pix_own {w : World} {B g m c : Nat} {p : List Int} {q : Int} (hm : p.length = m) (h : w.ownsRow B 43 1 (.slice (some ⟨g, 0, none⟩) (m + 1) c) (m + 1) (p.map (Value.int .u64) ++ [.int .u64 q])) : SlK .u64 w (some ⟨g, 0, none⟩) (m + 1) (p ++ [q]) := by
  have hl : (p ++ [q]).length = m + 1 := by rw [List.length_append, List.length_singleton, hm]
  have h' : w.ownsRow B 43 1 (.slice (some ⟨g, 0, none⟩) (m + 1) c) (m + 1) ((p ++ [q]).map (Value.int .u64)) := by rw [List.map_append]; exact h
  obtain ⟨ad, cap, e1, ho, _⟩ := ownK_row hl h'
  injection e1 with e1 e2 e3
  subst e1
  have := ho.sl
  rwa [hl] at this
set_option maxRecDepth 100000 in
set_option maxHeartbeats 2000000 in
theorem refChild_tr {w : World} {la wa : Option Addr} {ln lc wn wc : Nat} {vs : List Value} {L : LL} (h : Rv w la ln vs L) (hn : ln ≤ 9223372036854775807) (hd : ∀ p ∈ L, p.length ≤ 1000) (k q : Int) :
    Calls Try.prog 25 #[.agg #[.slice la ln lc, .slice wa wn wc], .int .i64 k, .int .u64 q] w fun e w' => e = .returned (.int .i64 (childV L k q)) ∧ Below w.heap.size w w' := by
  obtain ⟨i0, hi, hz0, hz1, hz2⟩ := info_parts Try.info_pxT
  have hb := box1T w (.cells #[.slice la ln lc, .slice wa wn wc] 25)
  have HB := Lib.hid hb
  have HT := Lib.hid (Tv.new w (.slice la ln lc) (.slice wa wn wc))
  have HR := Lib.hid (h.later hb)
  have hrl := h.rl
  obtain ⟨W, hW⟩ : ∃ W, w.alloc (.cells #[.slice la ln lc, .slice wa wn wc] 25) = W := ⟨_, rfl⟩
  rw [hW] at HB HT HR
  obtain ⟨x0, x1⟩ := HT.out.cells
  have hld := load_tv HT.out
  clear h hb
  by_cases h1 : k < 0
  · have e : childV L k q = -1 := by unfold childV; rw [if_pos (.inl h1)]
    rw [e]
    clear e
    go_enter Try.func25, Try.ntmps25
    go_upto_region 1 with fail
    try rw [hW]
    clear hW
    go_wp2
    go_ret
    exact ⟨rfl, HB.out⟩
  · by_cases h2 : (ln : Int) ≤ k
    · have e : childV L k q = -1 := by unfold childV; rw [if_pos (.inr (by omega))]
      rw [e]
      clear e
      go_enter Try.func25, Try.ntmps25
      go_upto_region 1 with fail
      try rw [hW]
      clear hW
      go_wp2
      go_ret
      exact ⟨rfl, HB.out⟩
    · obtain ⟨i, rfl⟩ : ∃ i : Nat, k = (i : Int) := ⟨k.toNat, by omega⟩
      have hil : i < ln := by omega
      have e : childV L i q = findV L (L.getD i [] ++ [q]) := by unfold childV; rw [if_neg (by unfold out; omega), Int.toNat_natCast]
      have hdp := hd _ (gD_mem (d := []) (show i < L.length by omega))
      obtain ⟨ai, ci, e1, e2, e3, e4⟩ := HR.out.each i hil
      have hcl : ∃ b o, la = some ⟨b, o, none⟩ ∧ W.cell? ⟨b, o + i, none⟩ = some (.slice ai (L.getD i []).length ci) := by
        rcases HR.out.cells with h0 | ⟨b, o, ee, hc⟩
        · omega
        · exact ⟨b, o, ee, by rw [hc i hil, e1]⟩
      obtain ⟨b, o, rfl, hc⟩ := hcl
      rw [e]
      obtain ⟨p, hp⟩ : ∃ p, L.getD i [] = p := ⟨_, rfl⟩
      rw [hp] at e2 hc hdp ⊢
      obtain ⟨m, hm⟩ : ∃ m, p.length = m := ⟨_, rfl⟩
      rw [hm] at e2 hc hdp
      have HSL := Lib.hid e2
      have HML := Lib.hid hm
      have hiI : (i : Int) < (ln : Int) := by omega
      have hi0 : (0 : Int) ≤ (i : Int) := Int.natCast_nonneg _
      have HFI := Lib.hid (fun W' (hb : Below W.heap.size W W') (pa : Option Addr) (pc : Nat) (hs : SlK .u64 W' pa (m + 1) (p ++ [q])) => find_tr (wa := wa) (wn := wn) (wc := wc) (lc := lc) (pc := pc) (HR.out.later hb) hn hs (by omega))
      obtain ⟨r, hr⟩ : ∃ r, findV L (p ++ [q]) = r := ⟨_, rfl⟩
      rw [hr] at HFI ⊢
      have HO0 := Lib.hid (World.ownsRow_nil W W.heap.size 43 1)
      have HLE := Lib.hid (Nat.le_refl W.heap.size)
      clear e e1 e2 e3 e4 hp hr hrl hd hm
      go_enter Try.func25, Try.ntmps25
      go_upto_region 1 with fail
      try rw [hW]
      clear hW
      go_upto_region 5 with (at_builtin; refine wpList_app rfl _ _ 29 rfl W.heap.size 43 i0 .u64 8 Try.underlying29 hi hz0 hz1 hz2 (.slice none 0 0) 0 [] rfl HO0.out _ m ci p rfl HSL.out (by unfold maxLen; omega) (by omega) HLE.out ?_; intro v2 w7 hown hgrow _; have H1 := Lib.hid hown; have H2 := Lib.hid hgrow; clear hown hgrow)
      have hown := H1.out
      rw [Nat.zero_add, List.nil_append] at hown
      obtain ⟨av, cv, rfl⟩ := Tr.own_form hown
      have HROW := Lib.hid hown
      have HG7 := Lib.hid H2.out
      have hlt := HT.out.lt
      have hT7 := tv_grown HT.out H2.out (fun k e => by cases e)
      have HT7 := Lib.hid hT7
      have HB7 := Lib.hid ((Below.refl W.heap.size W).grown H2.out (Nat.le_refl _) (fun j e => by cases e))
      have hs7 := HB7.out.size
      have HRB : Hid (∀ k, (Value.slice av m cv).ownBlock = some k → W.heap.size ≤ k) := Lib.hid fun k e => (hown.lt k e).1
      have HTA := Lib.hid (hT7.later (box1T w7 (.cells #[.int .u64 q] 43)))
      obtain ⟨y0, y1⟩ := hT7.cells
      have ld7 := load_tv hT7
      obtain ⟨z0, z1⟩ := HTA.out.cells
      have ldA := load_tv HTA.out
      have HTS := Lib.hid hlt
      clear hown H1 H2 hlt hT7 hld x0 x1 hc
      go_region_law (first
        | (refine step_append_lies _ rfl _ _ 29 rfl W.heap.size 43 i0 (.int .u64 0) 1 8 Try.underlying29 hi hz0 hz1 hz2 rfl (by decide) (.slice av m cv) m _ rfl (HROW.out.alloc _) ⟨w7.heap.size, 0, none⟩ 1 1 [.int .u64 q] rfl rfl (one_newT2 _ _ _) (by simp [Value.oneCell']) (by omega) (by unfold maxLen; omega) (by omega) (by simp; omega) _ rfl ?_; intro gg cc w5 hown hgrow hat _; have HO5 := Lib.hid hown; have hg5 := grown_ad (w := w7) (o := .cells #[.int .u64 q] 43) hgrow; have T5 := tv_grown HT7.out hg5 (fun k e => by have := HRB.out k e; have := HTS.out; omega); obtain ⟨u0, u1⟩ := T5.cells; have ld5 := load_tv T5; have HB5 := Lib.hid (HB7.out.grown hg5 HB7.out.size (fun j e => HRB.out j e)); clear hown hgrow hat hg5 T5)
        | (go_simp; go_at_call 22; refine (HFI.out _ HB5.out _ _ (pix_own HML.out HO5.out)).mono ?_; rintro e w9 ⟨rfl, hb9⟩; have HB9 := Lib.hid (bel_step HB5.out hb9); clear hb9))
      all_goals
        go_wp2_with fail
        go_ret
        exact ⟨rfl, bel_step HB.out HB9.out⟩
end Go.Proofs.Ytaechkdmijgfiaa
