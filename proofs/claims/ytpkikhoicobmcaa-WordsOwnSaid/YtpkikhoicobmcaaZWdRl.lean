/- Whether a word is of last numbers, what ends, which row of a width: by the document. Condition: lists stand. -/
import Derived.Test.YtpkikhoicobmcaaZWdMath
import Derived.Test.YtpkikhoicobmcaaZgAB
import Derived.Test.YtpkikhoicobmcaaZgAA
import Derived.Deep.AppendLies
namespace Go.Proofs.Ytpkikhoicobmcaa
open Go.RowKit
set_option linter.unusedVariables false
open Tr Au Wd
theorem slk_drop {w : World} {b o n k : Nat} {l : List Int} (h : SlK .u64 w (some ⟨b, o, none⟩) n l) (hk : k < n) : SlK .u64 w (some ⟨b, o + k, none⟩) (n - k) (l.drop k) := by
  have hl := h.1
  refine ⟨by rw [List.length_drop]; omega, .inr ⟨b, o + k, rfl, fun i hi => ?_⟩⟩
  rcases h.2 with h2 | ⟨b', o', e, hc⟩
  · omega
  · cases e
    rw [Nat.add_assoc, hc (k + i) (by omega), gD (by omega), gD (by rw [List.length_drop]; omega), List.getElem_drop]
set_option maxRecDepth 100000 in
set_option maxHeartbeats 1000000 in
theorem refLast_tr {w : World} {a b : Option Addr} {n m ca cb : Nat} {l p : List Int} (hl : SlK .u64 w a n l) (hp : SlK .u64 w b m p) (hm : 0 < m) (hn : n ≤ ca) (hca : ca ≤ 9223372036854775807) (hcb : m ≤ 9223372036854775807) :
    Calls Try.prog 32 #[.slice a n ca, .slice b m cb] w fun e w' => e = .returned (.bool (decide (p <:+ l))) ∧ Below w.heap.size w w' := by
  have hll := hl.1
  have hpl := hp.1
  by_cases h1 : m ≤ n
  · obtain ⟨g, o, rfl, _⟩ := slk_at hl (by omega)
    obtain ⟨q, hq⟩ : ∃ q, n - m = q := ⟨_, rfl⟩
    have hd := slk_drop (k := q) hl (by omega)
    rw [show n - q = m by omega] at hd
    have hSR := Su.sameRow_any (some ⟨g, o + q, none⟩) b m m (ca - q) cb (l.drop q) p w (by omega) hd hp
    have e : decide (l.drop q = p) = decide (p <:+ l) := by
      rw [decide_eq_decide, List.suffix_iff_eq_drop, hll, hpl, hq]
      exact ⟨fun h => h.symm, fun h => h.symm⟩
    rw [e] at hSR
    have HSR := Lib.hid hSR
    have hq1 : (n : Int) - (m : Int) = (q : Int) := by omega
    have hq2 : IntKind.i64.wrap (q : Int) = (q : Int) := by simp [IntKind.wrap, IntKind.bits, IntKind.signed]; omega
    have hq3 : n - q = m := by omega
    have hq4 : ¬ ca = q := by omega
    have hq5 : (q : Int) ≤ (n : Int) := by omega
    have hq6 : (0 : Int) ≤ (q : Int) := Int.natCast_nonneg _
    have hmax : max (q : Int) 0 = (q : Int) := by omega
    have hmI : (m : Int) ≤ (n : Int) := by omega
    have hmI2 : ¬ (n : Int) < (m : Int) := by omega
    generalize decide (p <:+ l) = z at *
    clear hl hp hd e hll hpl hq hSR
    go_enter Try.func32, Try.ntmps32
    go_wp2_with (go_at_call 10; refine HSR.out.mono ?_; rintro e w1 ⟨rfl, hb⟩; have HB := Lib.hid hb; clear hb)
    go_ret
    refine ⟨?_, HB.out⟩
    simp
  · have e : decide (p <:+ l) = false := by
      rw [decide_eq_false_iff_not]
      intro h
      have := h.length_le
      omega
    rw [e]
    have hmI : ¬ (m : Int) ≤ (n : Int) := by omega
    clear e hl hp hll hpl
    go_enter Try.func32, Try.ntmps32
    go_wp2
    go_ret
    refine ⟨?_, Below.refl _ _⟩
    simp
/-- the numbers of the rows that are last numbers, of the first k rows -/
def finK (S : LL) (q : List Int) (k : Nat) : List Int := ((List.range k).filter fun i => decide (S.getD i [] <:+ q)).map fun (i : Nat) => (i : Int)
theorem finK_all (S : LL) (q : List Int) : finK S q S.length = fin S q := rfl
theorem finK_zero (S : LL) (q : List Int) : finK S q 0 = [] := rfl
theorem finK_succ (S : LL) (q : List Int) (k : Nat) : finK S q (k + 1) = if S.getD k [] <:+ q then finK S q k ++ [(k : Int)] else finK S q k := by
  unfold finK
  rw [List.range_succ, List.filter_append, List.map_append]
  by_cases h : S.getD k [] <:+ q
  · have e : [k].filter (fun i => decide (S.getD i [] <:+ q)) = [k] := by rw [List.filter_cons, if_pos (decide_eq_true h)]; rfl
    rw [if_pos h, e]; rfl
  · have e : [k].filter (fun i => decide (S.getD i [] <:+ q)) = [] := by rw [List.filter_cons, if_neg (by rw [decide_eq_true_iff]; exact h)]; rfl
    rw [if_neg h, e]; simp
theorem finK_len (S : LL) (q : List Int) (k : Nat) : (finK S q k).length ≤ k := by unfold finK; rw [List.length_map]; exact Nat.le_trans (List.length_filter_le _ _) (by simp)
theorem rv_row {w : World} {a : Option Addr} {n : Nat} {vs : List Value} {R : LL} (h : Rv w a n vs R) {i : Nat} (hi : i < n) : ∃ b o ai ci, a = some ⟨b, o, none⟩ ∧ w.cell? ⟨b, o + i, none⟩ = some (.slice ai (R.getD i []).length ci) ∧ SlK .u64 w ai (R.getD i []).length (R.getD i []) ∧ (R.getD i []).length ≤ ci ∧ ci ≤ 9223372036854775807 := by
  rcases h.cells with e | ⟨b, o, e, hc⟩
  · omega
  · obtain ⟨ai, ci, e1, e2, e3, e4⟩ := h.each i hi
    exact ⟨b, o, ai, ci, e, by rw [hc i hi, e1], e2, e3, e4⟩
def EndsQ (S : LL) (q : List Int) (w : World) (e : Ending) (w' : World) : Prop := ∃ a c, e = .returned (.slice a (fin S q).length c) ∧ OwnK .i64 w.heap.size w' a (fin S q) ∧ Below w.heap.size w w'
theorem ends_eq {w w' : World} {S : LL} {q : List Int} {v : Value} {m k : Nat} (hk : k = S.length) (hm : (finK S q k).length = m) (h : w'.ownsRow w.heap.size 3 1 v m ((finK S q k).map (Value.int .i64))) (hb : Below w.heap.size w w') : EndsQ S q w (.returned v) w' := by
  subst hk
  rw [finK_all] at hm h
  obtain ⟨a, c, rfl, ho, _⟩ := ownK_row hm h
  exact ⟨a, c, by rw [hm], ho, hb⟩
set_option maxRecDepth 100000 in
set_option maxHeartbeats 2000000 in
theorem refEnds14 {w : World} {ra a : Option Addr} {rn rc n c : Nat} {vs : List Value} {S : LL} {l : List Int} (hr : Rv w ra rn vs S) (hrn : rn ≤ 100) (h0 : ∀ r ∈ S, 0 < r.length) (hl : SlK .u64 w a n l) (hc : n ≤ c) (hc9 : c ≤ 9223372036854775807) {x : Nat} (hx : x < n) :
    Calls Try.prog 19 #[.slice ra rn rc, .slice a n c, .int .i64 x] w (EndsQ S (l.take (x + 1)) w) := by
  obtain ⟨i0, hi, hz0, hz1, hz2⟩ := info_parts Try.info_int
  have hll := hl.1
  obtain ⟨g, o, rfl, _⟩ := slk_at hl (by omega)
  have hq := slk_take (k := x + 1) hl (by omega)
  obtain ⟨q, hqe⟩ : ∃ q, l.take (x + 1) = q := ⟨_, rfl⟩
  rw [hqe] at hq ⊢
  have HR := Lib.hid hr
  have HQ := Lib.hid hq
  have H0 := Lib.hid h0
  have hrl := hr.rl
  have HRL := Lib.hid hrl
  obtain ⟨y, hy⟩ : ∃ y, x + 1 = y := ⟨_, rfl⟩
  rw [hy] at HQ
  have hyw : IntKind.i64.wrap ((x : Int) + 1) = (y : Int) := by rw [IntWalk.i64_in _ (by omega)]; omega
  have hy0 : (0 : Int) ≤ (y : Int) := Int.natCast_nonneg _
  have hyc : (y : Int) ≤ (c : Int) := by omega
  have hyc2 : y ≤ c := by omega
  have hyn : 0 < y := by omega
  clear hr hl hq hll hqe h0 hrl hy
  go_enter Try.func19, Try.ntmps19
  go_wp2_with fail
  go_loopw [7, 8] (fun s7 s8 wr => ∃ k : Nat, k ≤ rn ∧ s8 = .int .i64 k ∧ wr.ownsRow w.heap.size 3 1 s7 (finK S q k).length ((finK S q k).map (Value.int .i64)) ∧ Below w.heap.size w wr) (fun _ s8 _ => rn - (intOf s8).toNat)
  case atStart => exact ⟨0, Nat.zero_le _, rfl, World.ownsRow_nil _ _ _ _, Below.refl _ _⟩
  case round =>
    obtain ⟨k, hk, rfl, hrow, hb⟩ := hrel
    have HROW := Lib.hid hrow
    have HB := Lib.hid hb
    have hsz := hb.size
    have hfl := finK_len S q k
    by_cases hlt : k < rn
    · have h1 : (k : Int) < (rn : Int) := by omega
      have hk0 : (0 : Int) ≤ (k : Int) := Int.natCast_nonneg _
      obtain ⟨br, or_, ai, ci, rfl, e1, e2, e3, e4⟩ := rv_row (HR.out.later hb) hlt
      have hpos := H0.out (S.getD k []) (gD_mem (by rw [HRL.out]; exact hlt))
      have HL := Lib.hid (fun W (hb' : Below wr.heap.size wr W) => refLast_tr (ca := c) (cb := ci) ((HQ.out.below hb).below hb') (e2.below hb') hpos (by omega) (by omega) (by omega))
      have hs := finK_succ S q k
      have HS := Lib.hid hs
      obtain ⟨m, hm⟩ : ∃ m, (finK S q k).length = m := ⟨_, rfl⟩
      have HM := Lib.hid hm
      rw [hm] at hfl
      obtain ⟨p, hp⟩ : ∃ p, S.getD k [] = p := ⟨_, rfl⟩
      rw [hp] at HL HS e1
      obtain ⟨pm, hpm⟩ : ∃ pm, p.length = pm := ⟨_, rfl⟩
      rw [hpm] at HL e1
      have hBr := Below.refl wr.heap.size wr
      clear hrow hb hs hm hp hpm e2 e3 e4 hpos
      by_cases hd : p <:+ q
      · rw [decide_eq_true hd] at HL
        rw [if_pos hd] at HS
        go_wp2_with fail
        go_region_held3 (fun w' => w'.cell? ⟨br, or_ + k, none⟩ = some (.slice ai pm ci))
          (first | exact e1 | exact cell_later hBr e1)
          (first | (go_at_call 32; refine (HL.out _ (by first | exact hBr | exact hBr.drew)).mono ?_; rintro e w8 ⟨rfl, hb8⟩; replace hBr := bel_step (by first | exact hBr | exact hBr.drew) hb8; clear hb8))
        all_goals
          have HB2 := Lib.hid (bel_step HB.out hBr)
          have HRW := Lib.hid (own_of_block (w' := w8) HROW.out fun g hg => hBr.block g (HROW.out.lt g hg).2)
          have hs8 := HB2.out.size
          rw [HM.out] at HRW
          obtain ⟨v3, c3, rfl⟩ := Tr.own_form HRW.out
          go_wp2_with (at_builtin; refine wpList_append_lies _ rfl _ _ 31 rfl w.heap.size 3 i0 (.int .i64 0) 1 8 Try.underlying31 hi hz0 hz1 hz2 rfl (by decide) _ m _ rfl (HRW.out.alloc _) ⟨w8.heap.size, 0, none⟩ 1 1 [.int .i64 (k : Int)] rfl rfl (one_newT2 _ _ _) (by simp [Value.oneCell']) (by omega) (by unfold maxLen; omega) (by omega) (by simp; omega) _ rfl ?_; intro gg cc w5 hown hgrow hat _; have HOWN := Lib.hid hown; have HG := Lib.hid (HB2.out.grown (grown_trans2 hgrow) hs8 (fun j e => (HRW.out.lt j e).1)); clear hown hgrow hat)
          go_roundw
          case rel =>
            refine ⟨k + 1, by omega, by go_num, ?_, HG.out⟩
            have h9 := HOWN.out
            rw [HS.out, List.length_append, List.length_singleton, HM.out, List.map_append]; exact h9
          case measure => simp [intOf]; omega
      · rw [decide_eq_false hd] at HL
        rw [if_neg hd] at HS
        go_wp2_with fail
        go_region_held3 (fun w' => w'.cell? ⟨br, or_ + k, none⟩ = some (.slice ai pm ci))
          (first | exact e1 | exact cell_later hBr e1)
          (first | (go_at_call 32; refine (HL.out _ (by first | exact hBr | exact hBr.drew)).mono ?_; rintro e w8 ⟨rfl, hb8⟩; replace hBr := bel_step (by first | exact hBr | exact hBr.drew) hb8; clear hb8))
        all_goals
          go_wp2_with fail
          go_roundw
          case rel => exact ⟨k + 1, by omega, by go_num, by rw [HS.out]; exact own_of_block HROW.out fun g hg => hBr.block g (HROW.out.lt g hg).2, bel_step HB.out hBr⟩
          case measure => simp [intOf]; omega
    · obtain rfl : k = rn := by omega
      have h1 : ¬ (k : Int) < (k : Int) := by omega
      have HF := Lib.hid (ends_eq (w := w) (q := q) HRL.out.symm rfl hrow hb)
      clear hrow hb
      go_wp2
      go_ret
      exact HF.out
end Go.Proofs.Ytpkikhoicobmcaa
