/- A list of rows with one more, by the document. Condition: the list is short. -/
import Derived.Test.YtpkikhoicobmcaaZWdRl
import Derived.Test.YtpkikhoicobmcaaZgAA
import Derived.Test.YtpkikhoicobmcaaZgAC
namespace Go.Proofs.Ytpkikhoicobmcaa
open Go.RowKit
set_option linter.unusedVariables false
open Tr Au Wd
/-- what the document's Add hands back -/
def RAdd (w : World) (ra : Option Addr) (rn rc : Nat) (vs : List Value) (word : Value) (S : LL) (l : List Int) (e : Ending) (w' : World) : Prop := ∃ v2, e = .returned (.tuple #[v2, .int .i64 (findV (addS S l) l)]) ∧ ((v2 = .slice ra rn rc ∧ l ∈ S) ∨ (l ∉ S ∧ w'.ownsRow w.heap.size 27 1 v2 (rn + 1) (vs ++ [word]))) ∧ Below w.heap.size w w'
set_option maxRecDepth 100000 in
set_option maxHeartbeats 4000000 in
theorem refAdd14 {w : World} {ra : Option Addr} {rn rc : Nat} {vs : List Value} {S : LL} {a : Option Addr} {m c : Nat} {l : List Int} (hr : Rv w ra rn vs S) (hrn : rn ≤ 100) (hl : Ok1 w (.slice a m c) l) (hlm : l.length = m) (h0 : l ≠ []) :
    Calls Try.prog 28 #[.slice ra rn rc, .slice a m c] w (RAdd w ra rn rc vs (.slice a m c) S l) := by
  obtain ⟨i0, hi, hz0, hz1, hz2⟩ := info_parts Try.info_pxs
  obtain ⟨a', c', e1, hs, hmc, hc9⟩ := hl
  rw [hlm] at hs hmc e1
  obtain ⟨rfl, rfl⟩ : a = a' ∧ c = c' := by injection e1 with h1 h2 h3; exact ⟨h1, h3⟩
  clear e1
  have hrl := hr.rl
  have HR := Lib.hid hr
  have HS := Lib.hid hs
  have HRL := Lib.hid hrl
  have HH0 := Lib.hid h0
  have HCV := Lib.hid hr.cv
  have HONE := Lib.hid hr.ok.one
  have hm9 : m ≤ 9223372036854775807 := by omega
  clear hr hs hrl h0 hlm
  go_enter Try.func28, Try.ntmps28
  go_wp2_with fail
  go_loopw [6] (fun s6 wr => ∃ k : Nat, s6 = .int .i64 (k : Int) ∧ k ≤ rn ∧ (∀ j, j < k → S.getD j [] ≠ l) ∧ Below w.heap.size w wr) (fun s6 _ => rn - (intOf s6).toNat)
  case atStart => exact ⟨0, rfl, Nat.zero_le _, fun j hj => by omega, Below.refl _ _⟩
  case round =>
    obtain ⟨k, rfl, hk, hno, hb⟩ := hrel
    have HNO := Lib.hid hno
    have HB := Lib.hid hb
    have hsz := hb.size
    by_cases hlt : k < rn
    · have h1 : (k : Int) < (rn : Int) := by omega
      have hk0 : (0 : Int) ≤ (k : Int) := Int.natCast_nonneg _
      obtain ⟨br, or_, ai, ci, rfl, e1, e2, e3, e4⟩ := rv_row (HR.out.later hb) hlt
      have HSR := Lib.hid (Su.sameRow_any ai a (S.getD k []).length m ci c (S.getD k []) l wr (by omega) e2 (HS.out.below hb))
      have hkS : k < S.length := by rw [HRL.out]; exact hlt
      obtain ⟨p, hp⟩ : ∃ p, S.getD k [] = p := ⟨_, rfl⟩
      have HP := Lib.hid hp
      rw [hp] at HSR e1
      obtain ⟨pm, hpm⟩ : ∃ pm, p.length = pm := ⟨_, rfl⟩
      rw [hpm] at HSR e1
      clear hno hb e2 e3 e4 hp hpm
      by_cases hd : p = l
      · rw [decide_eq_true hd] at HSR
        have hfin : findV (addS S l) l = (k : Int) := by
          have hm : l ∈ S := by rw [← hd, ← HP.out]; exact gD_mem hkS
          unfold addS
          rw [if_neg HH0.out, if_pos hm]
          exact findV_hit hkS (HP.out.trans hd) HNO.out
        have hmem : l ∈ S := by rw [← hd, ← HP.out]; exact gD_mem hkS
        have HFIN := Lib.hid hfin
        have HMEM := Lib.hid hmem
        clear hfin hmem hd
        go_wp2_with (go_at_call 10; refine HSR.out.mono ?_; rintro e w3 ⟨rfl, hb3⟩; have HB3 := Lib.hid (bel_step HB.out hb3); clear hb3)
        go_ret2
        exact ⟨_, by rw [HFIN.out]; rfl, .inl ⟨rfl, HMEM.out⟩, HB3.out⟩
      · rw [decide_eq_false hd] at HSR
        have HD := Lib.hid hd
        clear hd
        go_wp2_with (go_at_call 10; refine HSR.out.mono ?_; rintro e w3 ⟨rfl, hb3⟩; have HB3 := Lib.hid (bel_step HB.out hb3); clear hb3)
        go_roundw
        case rel => exact ⟨k + 1, by go_num, by omega, fun j hj => by
          by_cases e : j < k
          · exact HNO.out j e
          · obtain rfl : j = k := by omega
            rw [HP.out]; exact HD.out, HB3.out⟩
        case measure => simp [intOf]; omega
    · obtain rfl : k = rn := by omega
      have h1 : ¬ (k : Int) < (k : Int) := by omega
      have hnm : l ∉ S := fun e => by
        obtain ⟨j, hj, e2⟩ := List.getElem_of_mem e
        exact HNO.out j (by rw [← HRL.out]; exact hj) (by rw [gD hj]; exact e2)
      have hfin : findV (addS S l) l = (k : Int) := by
        unfold addS
        rw [if_neg HH0.out, if_neg hnm, findV_new hnm, HRL.out]
      have HFIN := Lib.hid hfin
      have HNM := Lib.hid hnm
      clear hno hb hnm hfin
      go_upto_region 8 with (at_builtin; refine wpList_appV rfl _ _ 22 rfl w.heap.size 27 i0 (.slice none 0 0) 24 Try.underlying22 hi hz0 hz1 hz2 rfl (.slice none 0 0) 0 [] rfl (World.ownsRow_nil _ _ _ _) ra k rc vs rfl (cv_later HCV.out HB.out) HONE.out (by unfold maxLen; omega) (by omega) hsz ?_; intro va wa hown hgrow _; have HOWN := Lib.hid hown; have HB2 := Lib.hid (HB.out.grown hgrow hsz (fun j e => by cases e)); clear hown hgrow)
      have hsa := HB2.out.size
      go_wp2_with (at_builtin; refine wpList_appV rfl _ _ 22 rfl w.heap.size 27 i0 (.slice none 0 0) 24 Try.underlying22 hi hz0 hz1 hz2 rfl va (0 + k) _ rfl (HOWN.out.alloc _) (some ⟨wa.heap.size, 0, none⟩) 1 1 [.slice a m c] rfl (cv_one _ _ _) (by simp [Value.oneCell']) (by unfold maxLen; omega) (by omega) (by simp; omega) ?_; intro vb wb hown2 hgrow2 _; have HOWN2 := Lib.hid hown2; have HB5 := Lib.hid (HB2.out.grown (grown_trans2 hgrow2) hsa (fun j e => (HOWN.out.lt j e).1)); clear hown2 hgrow2)
      go_ret2
      have h9 := HOWN2.out
      rw [List.nil_append, Nat.zero_add] at h9
      exact ⟨_, by rw [HFIN.out]; rfl, .inr ⟨HNM.out, h9⟩, HB5.out⟩
/-- what it hands back stands whatever a set of these blocks does -/
theorem radd_stands {F : Nat → Prop} {w w' : World} {ra : Option Addr} {rn rc : Nat} {vs : List Value} {word : Value} {S : LL} {l : List Int} {e : Ending} (h0 : l ≠ []) (hL : RvS F w ra rn vs S) (hw : ∀ w', Sep F w w' → Ok1 w' word l) (hF : ∀ g, F g → g < w.heap.size)
    (h : RAdd w ra rn rc vs word S l e w') : ∃ ra' rc' vs', e = .returned (.tuple #[.slice ra' (addS S l).length rc', .int .i64 (findV (addS S l) l)]) ∧ RvS F w' ra' (addS S l).length vs' (addS S l) ∧ Below w.heap.size w w' := by
  obtain ⟨v2, rfl, hv, hb⟩ := h
  have hrn : rn = S.length := hL.now.rl.symm
  subst hrn
  rcases hv with ⟨rfl, hm⟩ | ⟨hm, ho⟩
  · have ha : addS S l = S := by unfold addS; rw [if_neg h0, if_pos hm]
    rw [ha]
    exact ⟨ra, rc, vs, rfl, hL.below hb, hb⟩
  · have ha : addS S l = S ++ [l] := by unfold addS; rw [if_neg h0, if_neg hm]
    rw [ha]
    obtain ⟨ra', rc', e2⟩ := Tr.own_form ho
    subst e2
    have hlen : (S ++ [l]).length = S.length + 1 := by simp
    rw [hlen]
    refine ⟨ra', rc', vs ++ [word], rfl, fun w'' hs => ?_, hb⟩
    have hr : w''.ownsRow w.heap.size 27 1 (.slice ra' (S.length + 1) rc') (S.length + 1) (vs ++ [word]) := own_of_block ho fun g hg => hs.block g (ho.lt g hg).2 (fun e => by have := hF g e; have := (ho.lt g hg).1; omega)
    exact rv_own hr ((hL w'' ((sep_of hb).trans hs)).ok.snoc (hw w'' ((sep_of hb).trans hs))) hlen
end Go.Proofs.Ytpkikhoicobmcaa
