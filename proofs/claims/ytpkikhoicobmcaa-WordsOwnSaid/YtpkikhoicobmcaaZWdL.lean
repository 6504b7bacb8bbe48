/- Which row of a width ends at a place, by the document. Condition: the list is short. -/
import Derived.Test.YtpkikhoicobmcaaZWdRl
import Derived.Test.YtpkikhoicobmcaaZWdK
namespace Go.Proofs.Ytpkikhoicobmcaa
open Go.RowKit
set_option linter.unusedVariables false
open Tr Au Wd
theorem lab_at {S : LL} {q : List Int} {W : Int} {k : Nat} (hk : k < S.length) (h1 : ((S.getD k []).length : Int) = W) (h2 : S.getD k [] <:+ q) (hn : ∀ j, j < k → ¬ (((S.getD j []).length : Int) = W ∧ S.getD j [] <:+ q)) : labV S q W = (k : Int) := by
  have e : S.findIdx (fun r => decide ((r.length : Int) = W) && decide (r <:+ q)) = k := by
    refine (List.findIdx_eq hk).2 ⟨?_, fun j hj => ?_⟩
    · rw [gD hk] at h1 h2
      rw [decide_eq_true h1, decide_eq_true h2]; rfl
    · have := hn j hj
      rw [gD (by omega)] at this
      rw [Bool.and_eq_false_iff, decide_eq_false_iff_not, decide_eq_false_iff_not]
      by_cases e : (S[j].length : Int) = W
      · exact .inr fun e2 => this ⟨e, e2⟩
      · exact .inl e
  unfold labV
  rw [e, if_pos hk]
theorem lab_all {S : LL} {q : List Int} {W : Int} (hn : ∀ j, j < S.length → ¬ (((S.getD j []).length : Int) = W ∧ S.getD j [] <:+ q)) : labV S q W = -1 := lab_none fun r hr e h => by
  obtain ⟨j, hj, rfl⟩ := List.getElem_of_mem hr
  exact hn j hj (by rw [gD hj]; exact ⟨e, h⟩)
set_option maxRecDepth 100000 in
set_option maxHeartbeats 4000000 in
theorem refLabel14 {w : World} {ra a : Option Addr} {rn rc n c : Nat} {vs : List Value} {S : LL} {l : List Int} (hr : Rv w ra rn vs S) (hrn : rn ≤ 100) (h0 : ∀ r ∈ S, 0 < r.length) (hl : SlK .u64 w a n l) (hc : n ≤ c) (hc9 : c ≤ 9223372036854775807) {x : Nat} (hx : x < n) (W : Int) :
    Calls Try.prog 21 #[.slice ra rn rc, .slice a n c, .int .i64 x, .int .i64 W] w fun e w' => e = .returned (.int .i64 (labV S (l.take (x + 1)) W)) ∧ Below w.heap.size w w' := by
  have hll := hl.1
  obtain ⟨g, o, rfl, _⟩ := slk_at hl (by omega)
  have hq := slk_take (k := x + 1) hl (by omega)
  obtain ⟨q, hqe⟩ : ∃ q, l.take (x + 1) = q := ⟨_, rfl⟩
  rw [hqe] at hq ⊢
  have HR := Lib.hid hr
  have HQ := Lib.hid hq
  have H0 := Lib.hid h0
  have hrl := hr.rl
  have HRL := Lib.hid hrl
  obtain ⟨y, hy⟩ : ∃ y, x + 1 = y := ⟨_, rfl⟩
  rw [hy] at HQ
  have hyw : IntKind.i64.wrap ((x : Int) + 1) = (y : Int) := by rw [IntWalk.i64_in _ (by omega)]; omega
  have hy0 : (0 : Int) ≤ (y : Int) := Int.natCast_nonneg _
  have hyc : (y : Int) ≤ (c : Int) := by omega
  have hyc2 : y ≤ c := by omega
  have hyn : 0 < y := by omega
  clear hr hl hq hll hqe h0 hrl hy
  go_enter Try.func21, Try.ntmps21
  go_wp2_with fail
  go_loopw [9] (fun s9 wr => ∃ k : Nat, k ≤ rn ∧ s9 = .int .i64 k ∧ (∀ j, j < k → ¬ (((S.getD j []).length : Int) = W ∧ S.getD j [] <:+ q)) ∧ Below w.heap.size w wr) (fun s9 _ => rn - (intOf s9).toNat)
  case atStart => exact ⟨0, Nat.zero_le _, rfl, fun j hj => by omega, Below.refl _ _⟩
  case round =>
    obtain ⟨k, hk, rfl, hno, hb⟩ := hrel
    have HNO := Lib.hid hno
    have HB := Lib.hid hb
    by_cases hlt : k < rn
    · have h1 : (k : Int) < (rn : Int) := by omega
      have hk0 : (0 : Int) ≤ (k : Int) := Int.natCast_nonneg _
      obtain ⟨br, or_, ai, ci, rfl, e1, e2, e3, e4⟩ := rv_row (HR.out.later hb) hlt
      have hpos := H0.out (S.getD k []) (gD_mem (by rw [HRL.out]; exact hlt))
      have hkS : k < S.length := by rw [HRL.out]; exact hlt
      have HL := Lib.hid (fun W' (hb' : Below wr.heap.size wr W') => refLast_tr (ca := c) (cb := ci) ((HQ.out.below hb).below hb') (e2.below hb') hpos (by omega) (by omega) (by omega))
      have HHIT := Lib.hid (fun h1 h2 => lab_at (W := W) (q := q) hkS h1 h2 hno)
      have HNO2 : Hid (¬ (((S.getD k []).length : Int) = W ∧ S.getD k [] <:+ q) → ∀ j, j < k + 1 → ¬ (((S.getD j []).length : Int) = W ∧ S.getD j [] <:+ q)) := Lib.hid (fun h j hj => by
        by_cases e : j < k
        · exact hno j e
        · obtain rfl : j = k := by omega
          exact h)
      obtain ⟨p, hp⟩ : ∃ p, S.getD k [] = p := ⟨_, rfl⟩
      rw [hp] at HL HHIT HNO2 e1
      obtain ⟨pm, hpm⟩ : ∃ pm, p.length = pm := ⟨_, rfl⟩
      rw [hpm] at HL HHIT HNO2 e1
      have hBr := Below.refl wr.heap.size wr
      clear hno hb hp hpm e2 e3 e4 hpos
      by_cases hW : (pm : Int) = W
      · have f1 : ((pm : Int) == W) = true := by rw [beq_iff_eq]; exact hW
        by_cases hd : p <:+ q
        · rw [decide_eq_true hd] at HL
          have HF := Lib.hid (HHIT.out hW hd)
          clear hW hd HHIT HNO2
          go_wp2_with fail
          go_region_held3 (fun w' => w'.cell? ⟨br, or_ + k, none⟩ = some (.slice ai pm ci))
            (first | exact e1 | exact cell_later hBr e1)
            (first | (go_at_call 32; refine (HL.out _ (by first | exact hBr | exact hBr.drew)).mono ?_; rintro e w8 ⟨rfl, hb8⟩; replace hBr := bel_step (by first | exact hBr | exact hBr.drew) hb8; clear hb8))
          all_goals
            go_wp2_with fail
            go_ret
            exact ⟨by rw [HF.out]; rfl, bel_step HB.out hBr⟩
        · rw [decide_eq_false hd] at HL
          have HF := Lib.hid (HNO2.out fun h => hd h.2)
          clear hW hd HHIT HNO2
          go_wp2_with fail
          go_region_held3 (fun w' => w'.cell? ⟨br, or_ + k, none⟩ = some (.slice ai pm ci))
            (first | exact e1 | exact cell_later hBr e1)
            (first | (go_at_call 32; refine (HL.out _ (by first | exact hBr | exact hBr.drew)).mono ?_; rintro e w8 ⟨rfl, hb8⟩; replace hBr := bel_step (by first | exact hBr | exact hBr.drew) hb8; clear hb8))
          all_goals
            go_wp2_with fail
            go_roundw
            case rel => exact ⟨k + 1, by omega, by go_num, HF.out, bel_step HB.out hBr⟩
            case measure => simp [intOf]; omega
      · have f1 : ((pm : Int) == W) = false := by rw [beq_eq_false_iff_ne]; exact hW
        have HF := Lib.hid (HNO2.out fun h => hW h.1)
        clear hW HHIT HNO2
        go_wp2_with fail
        go_region
        all_goals
          go_wp2_with fail
          go_roundw
          case rel => exact ⟨k + 1, by omega, by go_num, HF.out, by first | exact HB.out | exact HB.out.drew⟩
          case measure => simp [intOf]; omega
    · obtain rfl : k = rn := by omega
      have h1 : ¬ (k : Int) < (k : Int) := by omega
      have HF := Lib.hid (lab_all (q := q) (W := W) (fun j hj => hno j (by rw [← HRL.out]; exact hj)))
      clear hno hb
      go_wp2
      go_ret
      exact ⟨by rw [HF.out]; rfl, HB.out⟩
end Go.Proofs.Ytpkikhoicobmcaa
