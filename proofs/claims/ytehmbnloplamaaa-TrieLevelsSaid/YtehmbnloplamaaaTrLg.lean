/- Levels, and the iterator that it hands back. Condition: a tree of at most 1000 nodes that stands. -/
import Derived.Test.YtehmbnloplamaaaTrLf
namespace Go.Proofs.Ytehmbnloplamaaa
open Go.RowKit Go.Shelf
attribute [local go_sem] Oper.semAt_some
set_option linter.unusedVariables false
open Tr
/-- the iterator of a tree's levels: two cells of its own, a row of its own -/
def LevR (L : LL) (tb : Nat) (w : World) (e : Ending) (w' : World) : Prop :=
  ∃ o x a c, e = .returned (.func (.func 55) #[] #[.pointer (some ⟨o, 0, none⟩), .pointer (some ⟨x, 0, none⟩)]) ∧ w.heap.size ≤ o ∧ w.heap.size ≤ x ∧ w'.cell? ⟨o, 0, none⟩ = some (.slice a (Au.order L).length c) ∧ w'.cell? ⟨x, 0, none⟩ = some (.pointer (some ⟨tb, 0, none⟩)) ∧
    OwnK .i64 w.heap.size w' a (Au.ints (Au.order L)) ∧ Below w.heap.size w w' ∧ ∀ g, a = some ⟨g, 0, none⟩ → w.heap.size ≤ g ∧ g < w'.heap.size
set_option maxRecDepth 100000 in
set_option maxHeartbeats 1000000 in
theorem levels_tr {w : World} {B tb nb nc : Nat} {rv : Nat → Value} {L V : LL} (h : TrP w B tb nb nc rv L V) (hI : Inv L) (hlen : L.length ≤ 1000) :
    Calls Try.prog 39 #[.pointer (some ⟨tb, 0, none⟩)] w (LevR L tb w) := by
  have HS := Lib.hid (Boxed.new w 53 (.pointer (some ⟨tb, 0, none⟩)))
  have HB := Lib.hid (box1T w (.cells #[.pointer (some ⟨tb, 0, none⟩)] 53))
  have HSZ : Hid ((w.alloc (.cells #[.pointer (some ⟨tb, 0, none⟩)] 53)).heap.size = w.heap.size + 1) := Lib.hid (by simp)
  obtain ⟨W, hW⟩ : ∃ W, w.alloc (.cells #[.pointer (some ⟨tb, 0, none⟩)] 53) = W := ⟨_, rfl⟩
  rw [hW] at HS HB HSZ
  have cp := HS.out.cell
  have HBD := Lib.hid (byDepth_tr (h.later HB.out) hI hlen)
  obtain ⟨p, hp⟩ : ∃ p, w.heap.size = p := ⟨_, rfl⟩
  have HPE := Lib.hid hp
  rw [hp] at HS cp HSZ
  clear h hlen
  go_enter Try.func39, Try.ntmps39
  go_upto_region 1 with fail
  try rw [hW]
  try rw [hp]
  clear hW hp
  go_upto_region 2 with (go_at_call 54; refine HBD.out.mono ?_; rintro e w3 ⟨a, c, rfl, hown, hb3, hga⟩; have HOW := Lib.hid hown; have HB3 := Lib.hid hb3; have HGA := Lib.hid hga; replace cp := cell_later hb3 cp; clear hown hb3 hga)
  go_wp2
  go_ret
  have hs3 := HB3.out.size
  have hsz := HSZ.out
  have hpe := HPE.out
  have hpl : p < w3.heap.size := block_lt_of_cell cp
  have hbn := box1T w3 (.cells #[.slice a (Au.order L).length c] 29)
  refine ⟨w3.heap.size, p, a, c, rfl, by omega, by omega, ?_, cell_later hbn cp, ?_, bel_step (bel_step HB.out HB3.out) hbn, fun g eg => ?_⟩
  · exact (Boxed.new w3 29 (.slice a (Au.order L).length c)).cell
  · exact (HOW.out.mono (by omega)).later hbn
  · have := HGA.out g eg
    have := hbn.size
    omega
/-- the blocks that the iterator stands on -/
def Zl (o x : Nat) (a : Option Addr) (tb nb n : Nat) (rv : Nat → Value) (k : Nat) : Prop := k = o ∨ k = x ∨ a = some ⟨k, 0, none⟩ ∨ Fp tb nb n rv k
set_option maxRecDepth 100000 in
set_option maxHeartbeats 2000000 in
theorem levels_gives {W0 : World} {B tb nb nc o x B0 c : Nat} {a : Option Addr} {rv : Nat → Value} {L V : LL} (h : TrP W0 B tb nb nc rv L V) (co : W0.cell? ⟨o, 0, none⟩ = some (.slice a (Au.order L).length c)) (cx : W0.cell? ⟨x, 0, none⟩ = some (.pointer (some ⟨tb, 0, none⟩))) (hown : OwnK .i64 B0 W0 a (Au.ints (Au.order L))) (hI : Inv L) (hlen : L.length ≤ 1000) (m : Nat) (hm : 1 ≤ m) :
    GivesN Fence.wide m Try.prog 55 #[.pointer (some ⟨o, 0, none⟩), .pointer (some ⟨x, 0, none⟩)] (fun j : Nat => #[.int .i64 (j : Int), .int .i64 (parV L j)]) (Zl o x a tb nb L.length rv) (Zy W0) (Au.order L) W0 := by
  intro l J Jx Wd hWs hW hJ hJx hY h00
  have hT : TrP Wd B tb nb nc rv L V := TrX.of_blocks h fun g hg => hW.block g (TrX.lt h hg).2 (.inr (.inr (.inr hg)))
  have co1 := hW.cell (.inl rfl) co
  have cx1 := hW.cell (.inr (.inl rfl)) cx
  have HC : Hid (∀ i, i < (Au.order L).length → ∃ g, a = some ⟨g, 0, none⟩ ∧ Wd.cell? ⟨g, i, none⟩ = some (.int .i64 ((Au.order L).getD i 0 : Nat))) := Lib.hid fun i hi => by
    rcases hown with e | ⟨g, e1, _, _, e4, _⟩
    · have := congrArg List.length e; rw [ints_lenL, List.length_nil] at this; omega
    · refine ⟨g, e1, ?_⟩
      have := hW.cell (.inr (.inr (.inl e1))) (e4 i (by rw [ints_lenL]; exact hi))
      rw [this, gD (by rw [ints_lenL]; exact hi), gD hi]
      simp [Au.ints]
  have hn9 : (Au.order L).length ≤ 1000 := by rw [Au.order_len hI]; omega
  have HPT := Lib.hid (fun W' (hT : TrP W' B tb nb nc rv L V) (j : Nat) => parent_tr hT (j : Int))
  obtain ⟨xs, hxs⟩ : ∃ xs, Au.order L = xs := ⟨_, rfl⟩
  rw [hxs] at hY HC hn9 co1
  rw [hxs]
  obtain ⟨n, hn⟩ : ∃ n, xs.length = n := ⟨_, rfl⟩
  rw [hn] at HC hn9 co1
  have HN := Lib.hid hn
  have HY := Lib.hid hY
  have HT := Lib.hid hT
  have h01 := Lib.hid h00
  clear hY hxs hn h co cx hW hT hown h00 hlen
  refine callsIn_of_wp Try.func55 rfl trivial ?_ rfl
  simp only [Try.ntmps55, List.size_toArray, List.length_cons, List.length_nil, Nat.reduceAdd, Nat.reduceSub, Array.replicate_succ, Array.replicate_zero, List.push_toArray, List.append_toArray, List.nil_append, List.cons_append]
  gi_wp2
  have HC3 : Hid (∀ i, i < n → ∃ g, a = some ⟨g, 0, none⟩ ∧ Zl o x a tb nb L.length rv g ∧ Wd.cell? ⟨g, i, none⟩ = some (.int .i64 (xs.getD i 0 : Nat))) := Lib.hid fun i hi => by
    obtain ⟨g, e1, e2⟩ := HC.out i hi
    exact ⟨g, e1, .inr (.inr (.inl e1)), e2⟩
  have CX := Lib.hid cx1
  clear co1 cx1 HC
  gi_loopw [8] (fun i wr => ∃ p : Nat, p ≤ n ∧ i = .int .i64 p ∧ J (xs.take p) wr ∧ TrP wr B tb nb nc rv L V ∧ wr.cell? ⟨x, 0, none⟩ = some (.pointer (some ⟨tb, 0, none⟩)) ∧ Hid (∀ i, i < n → ∃ g, a = some ⟨g, 0, none⟩ ∧ Zl o x a tb nb L.length rv g ∧ wr.cell? ⟨g, i, none⟩ = some (.int .i64 (xs.getD i 0 : Nat)))) (fun i _ => n - (intOf i).toNat)
  case atStart => exact ⟨0, Nat.zero_le _, rfl, by simpa using h01.out, HT.out, CX.out, HC3⟩
  case round =>
    obtain ⟨p, hp, rfl, hj, hT, hcx, HCr⟩ := hrel
    have HJ := Lib.hid hj
    have HTr := Lib.hid hT
    clear hj h01 HC3 hT HT CX
    by_cases hlt : p < n
    · have hltI : (p : Int) < (n : Int) := by omega
      have hp0 : (0 : Int) ≤ (p : Int) := Int.natCast_nonneg _
      obtain ⟨g, rfl, hzg, hcell⟩ := HCr.out p hlt
      obtain ⟨j, hjx⟩ : ∃ j, xs.getD p 0 = j := ⟨_, rfl⟩
      have hsp : xs = xs.take p ++ j :: xs.drop (p + 1) := by
        conv => lhs; rw [← List.take_append_drop p xs, List.drop_eq_getElem_cons (by rw [HN.out]; exact hlt)]
        rw [← hjx, gD (by rw [HN.out]; exact hlt)]
      have hnx : xs.take p ++ [j] = xs.take (p + 1) := by
        rw [List.take_succ_eq_append_getElem (by rw [HN.out]; exact hlt), ← hjx, gD (by rw [HN.out]; exact hlt)]
      rw [hjx] at hcell
      have HSP := Lib.hid hsp
      have HNX := Lib.hid hnx
      have HPj := Lib.hid (HPT.out wr HTr.out j)
      have HY2 := Lib.hid (fun W1 (hJ1 : J (xs.take p) W1) => HY.out (xs.take p) j (xs.drop (p + 1)) W1 hsp hJ1)
      obtain ⟨y, hy9⟩ : ∃ y, parV L j = y := ⟨_, rfl⟩
      simp only [hy9] at HPj HY2
      have HZ := Lib.hid hzg
      clear hjx hsp hnx hzg hy9
      gi_wp2_with (refine ⟨trivial, ?_⟩; gi_at_call 56; refine (callsIn_wide.2 HPj.out).mono ?_; rintro e w3 ⟨rfl, hb⟩; have HB := Lib.hid hb; obtain ⟨fn, tmps, assign, body, hy, hR⟩ := HY2.out w3 (hJ _ _ _ HJ.out (sep_belowT hb)); rw [HNX.out] at hR; have HT3 := Lib.hid (HTr.out.later hb); have hcx3 := cell_later hb hcx; clear hb)
      refine hR.mono ?_
      rintro e W3 ⟨hh, (⟨rfl, hJ3⟩ | ⟨rfl, hJx3⟩)⟩
      · have HCm : Hid (∀ i, i < n → ∃ g', (some ⟨g, 0, none⟩ : Option Addr) = some ⟨g', 0, none⟩ ∧ Zl o x (some ⟨g, 0, none⟩) tb nb L.length rv g' ∧ W3.cell? ⟨g', i, none⟩ = some (.int .i64 (xs.getD i 0 : Nat))) := Lib.hid fun i hi => by
          obtain ⟨g', e1, e2, e3⟩ := HCr.out i hi
          exact ⟨g', e1, e2, hh.cell e2 (cell_later HB.out e3)⟩
        have hT4 : TrP W3 B tb nb nc rv L V := TrX.of_blocks HT3.out fun g hg => hh.block g (TrX.lt HT3.out hg).2 (.inr (.inr (.inr hg)))
        have hcx4 := hh.cell (.inr (.inl rfl)) hcx3
        have HT4 := Lib.hid hT4
        have HJ3 := Lib.hid hJ3
        have HX4 := Lib.hid hcx4
        clear hR hy hcell hJ3 hh hT4 hcx hcx3 hcx4
        gi_wp2
        go_roundw
        case rel => exact ⟨p + 1, by omega, by go_num, HJ3.out, HT4.out, HX4.out, HCm⟩
        case measure => simp [intOf]; omega
      · gi_wp2
        refine bodyPost_ret (results_none rfl _ _ _) rfl ?_
        exact ⟨⟨_, rfl⟩, .inr ⟨xs.take (p + 1), List.take_prefix _ _, hJx3⟩⟩
    · obtain rfl : p = n := by omega
      have hltI : ¬ (p : Int) < (p : Int) := by omega
      have hjf := HJ.out
      rw [List.take_of_length_le (by rw [HN.out]; exact Nat.le_refl _)] at hjf
      have HJF := Lib.hid hjf
      clear hjf
      gi_wp2
      go_end0
      exact ⟨⟨_, rfl⟩, .inl HJF.out⟩
end Go.Proofs.Ytehmbnloplamaaa
