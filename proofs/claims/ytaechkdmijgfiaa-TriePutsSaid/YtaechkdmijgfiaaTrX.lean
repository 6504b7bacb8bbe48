/- How far a word is known: by the document's tree. No condition but that lengths fit. -/
import Derived.Test.YtaechkdmijgfiaaTrO
import Derived.Test.YtaechkdmijgfiaaTrD
namespace Go.Proofs.Ytaechkdmijgfiaa
open Go.RowKit
set_option linter.unusedVariables false
open Tr
theorem Tr.known_from {L : LL} (hI : Inv L) {l : List Int} {k : Nat} (hk : k ≤ l.length) (hm : l.take k ∈ L) (ha : ∀ j, k < j → j ≤ l.length → l.take j ∉ L) : known L l = k :=
  known_eq hI hk hm (by
    rcases Nat.lt_or_ge k l.length with h | h
    · exact .inr (ha (k + 1) (by omega) h)
    · exact .inl (by omega))
set_option maxRecDepth 100000 in
set_option maxHeartbeats 1000000 in
theorem refWalk_tr {w : World} {la wa pa : Option Addr} {ln lc wn wc pn pc : Nat} {vs : List Value} {L : LL} {p : List Int} (h : Rv w la ln vs L) (hI : Inv L) (hn : ln ≤ 9223372036854775807) (hp : SlK .u64 w pa pn p) (hpn : pn ≤ 9223372036854775807) (hpc : pn ≤ pc) (hpc9 : pc ≤ 9223372036854775807) :
    Calls Try.prog 28 #[.agg #[.slice la ln lc, .slice wa wn wc], .slice pa pn pc] w fun e w' => e = .returned (.tuple #[.int .i64 (walkN L p), .int .i64 (known L p)]) ∧ Below w.heap.size w w' := by
  have HF := Lib.hid (fun (w' : World) (hb : Below w.heap.size w w') (k : Nat) (hk : k ≤ pn) => find_tr (wa := wa) (wn := wn) (wc := wc) (lc := lc) (pc := pc) (h.later hb) hn (slk_take (hp.below hb) hk) (by omega))
  have HK := Lib.hid (fun (k : Nat) (hk : k ≤ p.length) (hm : p.take k ∈ L) (ha : ∀ j, k < j → j ≤ p.length → p.take j ∉ L) => Tr.known_from hI hk hm ha)
  have HPL := Lib.hid hp.1
  have HI := Lib.hid hI
  have hb := box1T w (.cells #[.slice la ln lc, .slice wa wn wc] 25)
  have HB0 := Lib.hid hb
  have HT := Lib.hid (Tv.new w (.slice la ln lc) (.slice wa wn wc))
  obtain ⟨W, hW⟩ : ∃ W, w.alloc (.cells #[.slice la ln lc, .slice wa wn wc] 25) = W := ⟨_, rfl⟩
  rw [hW] at HB0 HT
  clear h hI hp hb
  go_enter Try.func28, Try.ntmps28
  go_upto_region 1 with fail
  try rw [hW]
  clear hW
  go_wp2_with fail
  go_loopw [6] (fun s6 wr => ∃ k : Nat, k ≤ pn ∧ s6 = .int .i64 k ∧ (∀ j, k < j → j ≤ pn → p.take j ∉ L) ∧ Below W.heap.size W wr) (fun s6 _ => (intOf s6).toNat)
  case atStart => exact ⟨pn, Nat.le_refl _, rfl, fun j h1 h2 => by omega, Below.refl _ _⟩
  case round =>
    obtain ⟨k, hk, rfl, hno, hb⟩ := hrel
    have HNO := Lib.hid hno
    have HB := Lib.hid ((HB0.out.trans (hb.mono HB0.out.size)))
    have HBW := Lib.hid hb
    obtain ⟨x0, x1⟩ := (HT.out.later hb).cells
    have hbl := load_tv (HT.out.later hb)
    by_cases hlt : 0 < k
    · have hltI : (0 : Int) < (k : Int) := by omega
      have hk0 : (0 : Int) ≤ (k : Int) := Int.natCast_nonneg _
      have hkc : k ≤ pc := by omega
      have hfi := fun W' (hb : Below wr.heap.size wr W') => HF.out W' (bel_step HB.out hb) k hk
      have HNE : Hid (p.take k ∉ L → findV L (p.take k) = -1) := Lib.hid findV_not
      have HPO : Hid (p.take k ∈ L → 0 ≤ findV L (p.take k)) := Lib.hid findV_pos.2
      obtain ⟨x, hx⟩ : ∃ x, findV L (p.take k) = x := ⟨_, rfl⟩
      rw [hx] at hfi HNE HPO
      have HX := Lib.hid hx
      have HFI := Lib.hid hfi
      clear hfi hx hno hb
      by_cases hm : p.take k ∈ L
      · have h0 := HPO.out hm
        have hkn := HK.out k (by rw [HPL.out]; exact hk) hm (fun j h1 h2 => HNO.out j h1 (by rw [HPL.out] at h2; exact h2))
        have HKN := Lib.hid hkn
        clear hm hkn
        go_wp2_with fail
        go_region_law (go_simp; go_at_call 22; refine (HFI.out _ ((Below.refl _ _).drew)).mono ?_; rintro e w9 ⟨rfl, hb9⟩; have HB9 := Lib.hid (bel_step HB.out (bel_und hb9)); clear hb9)
        all_goals
          go_wp2_with fail
          go_ret2
          exact ⟨by unfold walkN; rw [HKN.out, HX.out]; rfl, HB9.out⟩
      · have hx1 := HNE.out hm
        have h0 : ¬ (0 : Int) ≤ x := by omega
        have HM := Lib.hid hm
        clear hm hx1
        go_wp2_with fail
        go_region_law (go_simp; go_at_call 22; refine (HFI.out _ ((Below.refl _ _).drew)).mono ?_; rintro e w9 ⟨rfl, hb9⟩; have HB9 := Lib.hid (bel_step HBW.out (bel_und hb9)); clear hb9)
        all_goals
          go_wp2_with fail
          go_roundw
          case rel =>
            refine ⟨k - 1, by omega, ?_, fun j h1 h2 => ?_, HB9.out⟩
            · exact congrArg (Value.int IntKind.i64) (by omega)
            · by_cases e : j = k
              · subst e; exact HM.out
              · exact HNO.out j (by omega) h2
          case measure => simp only [intOf]; omega
    · obtain rfl : k = 0 := by omega
      have hltI : ¬ (0 : Int) < ((0 : Nat) : Int) := by omega
      have hkn := HK.out 0 (Nat.zero_le _) (by rw [List.take_zero]; exact HI.out.nil) (fun j h1 h2 => hno j h1 (by rw [HPL.out] at h2; exact h2))
      have HKN := Lib.hid hkn
      have e : findV L (p.take 0) = 0 := findV_hit (k := 0) HI.out.pos HI.out.root (fun j hj => by omega)
      have HE := Lib.hid e
      clear hno hb hkn e
      go_wp2
      go_ret2
      exact ⟨by unfold walkN; rw [HKN.out, HE.out]; rfl, HB.out⟩
end Go.Proofs.Ytaechkdmijgfiaa
