/- A node's children, and the way up from a node, as iterators hand them out. No condition. -/
import Derived.Test.YtehmbnloplamaaaTrE
namespace Go.Proofs.Ytehmbnloplamaaa
open Go.RowKit Go.Shelf
attribute [local go_sem] Oper.semAt_some
set_option linter.unusedVariables false
open Tr
theorem sep_belowT {Z : Nat → Prop} {A B : World} (h : Below A.heap.size A B) : Sep Z A B := ⟨h.os, h.tape, h.output, h.size, fun k hk _ => h.block k hk⟩
/-- an iterator is made: two cells of its own, the tree and a node -/
def MadeT (g : Nat) (tb : Nat) (k : Int) (flip : Bool) (w : World) (e : Ending) (w' : World) : Prop :=
  ∃ x y, e = .returned (.func (.func g) #[] (if flip = true then #[.pointer (some ⟨y, 0, none⟩), .pointer (some ⟨x, 0, none⟩)] else #[.pointer (some ⟨x, 0, none⟩), .pointer (some ⟨y, 0, none⟩)])) ∧ x ≠ y ∧ w.heap.size ≤ x ∧ w.heap.size ≤ y ∧
    w'.cell? ⟨x, 0, none⟩ = some (.pointer (some ⟨tb, 0, none⟩)) ∧ w'.cell? ⟨y, 0, none⟩ = some (.int .i64 k) ∧ Below w.heap.size w w'
theorem children_made (tb : Nat) (k : Int) (w : World) : Calls Try.prog 86 #[.pointer (some ⟨tb, 0, none⟩), .int .i64 k] w (MadeT 95 tb k false w) := by
  go_enter Try.func86, Try.ntmps86
  go_wp2
  go_ret
  exact ⟨_, _, rfl, by omega, by omega, by omega, by simp [go_sem], by simp [go_sem], by go_grown⟩
/-- what an iterator may turn itself: nothing; what must stand: its two cells, and the tree's blocks, too -/
def Zy (w : World) (k : Nat) : Prop := False
def Zq (x y tb nb n : Nat) (rv : Nat → Value) (w : World) (k : Nat) : Prop := k = x ∨ k = y ∨ Fp tb nb n rv k
theorem TrP.hold {W0 W : World} {x y B tb nb nc : Nat} {rv : Nat → Value} {L Ws : LL} (h : TrP W0 B tb nb nc rv L Ws) {Z : Nat → Prop} (hz : ∀ g, Fp tb nb L.length rv g → Z g) (hh : Hold Z W0 W) : TrP W B tb nb nc rv L Ws :=
  TrX.of_blocks h fun g hg => hh.block g (TrX.lt h hg).2 (hz g hg)
set_option maxRecDepth 100000 in
set_option maxHeartbeats 2000000 in
theorem children_gives {W0 : World} {B tb nb nc x y : Nat} {rv : Nat → Value} {L Ws : LL} (h : TrP W0 B tb nb nc rv L Ws) (k : Nat) (hk : k < L.length) (cx : W0.cell? ⟨x, 0, none⟩ = some (.pointer (some ⟨tb, 0, none⟩))) (cy : W0.cell? ⟨y, 0, none⟩ = some (.int .i64 (k : Int))) (m : Nat) (hm : 1 ≤ m) :
    GivesN Fence.wide m Try.prog 95 #[.pointer (some ⟨x, 0, none⟩), .pointer (some ⟨y, 0, none⟩)] (fun j : Nat => #[.int .i64 (j : Int)]) (Zq x y tb nb L.length rv W0) (Zy W0) (kids L k) W0 := by
  intro l J Jx Wd hWs hW hJ hJx hY h00
  have hT : TrP Wd B tb nb nc rv L Ws := h.hold (x := x) (y := y) (fun g hg => .inr (.inr hg)) hW
  have cx1 := hW.cell (.inl rfl) cx
  have cy1 := hW.cell (.inr (.inl rfl)) cy
  have hr := TrX.rows hT (2 * k + 1) (by omega)
  have hl : (data L Ws (2 * k + 1)).length = (kids L k).length := by rw [data_kids]; simp
  rw [hl, data_kids] at hr
  have hn9 : (kids L k).length ≤ 9223372036854775807 := Nat.le_trans (kids_len L k) hT.len9
  have HA := Lib.hid (hT.at_in hk)
  obtain ⟨a, c, ev⟩ := Tr.own_form hr
  have HFp : Hid (∀ g, (rv (2 * k + 1)).ownBlock = some g → Zq x y tb nb L.length rv W0 g) := Lib.hid fun g hg => .inr (.inr (.inr (.inr ⟨2 * k + 1, by omega, hg⟩)))
  have HC : Hid (∀ i, i < (kids L k).length → ∃ g, a = some ⟨g, 0, none⟩ ∧ Wd.cell? ⟨g, i, none⟩ = some (.int .i64 ((kids L k).getD i 0 : Nat))) := Lib.hid fun i hi => by
    obtain ⟨g, c', ev', _, _⟩ := hr.form (by omega)
    rw [ev] at ev'
    injection ev' with e1 e2 e3
    rw [ev, e1] at hr
    refine ⟨g, e1, ?_⟩
    have hcell := hr.cellAt i (by omega)
    rw [hcell, List.getElem?_map, List.getElem?_map, List.getElem?_eq_getElem hi, gD hi]; rfl
  rw [ev] at HA HFp
  generalize parV L k = p at HA
  generalize num L k = p at HA
  generalize depV L k = p at HA
  generalize rv (2 * k + 2) = v at HA
  obtain ⟨xs, hxs⟩ : ∃ xs, kids L k = xs := ⟨_, rfl⟩
  rw [hxs] at hY HA HC hn9 HFp
  rw [hxs]
  obtain ⟨n, hn⟩ : ∃ n, xs.length = n := ⟨_, rfl⟩
  rw [hn] at HA HC hn9 HFp
  have HN := Lib.hid hn
  have HY := Lib.hid hY
  have hfd := nd_field3
  clear hY hxs hn h cx cy hW hT hr hl ev
  refine callsIn_of_wp Try.func95 rfl trivial ?_ rfl
  simp only [Try.ntmps95, List.size_toArray, List.length_cons, List.length_nil, Nat.reduceAdd, Nat.reduceSub, Array.replicate_succ, Array.replicate_zero, List.push_toArray, List.append_toArray, List.nil_append, List.cons_append]
  gi_wp2_with (refine ⟨trivial, ?_⟩; gi_at_call 71; refine (callsIn_wide.2 HA.out).mono ?_; rintro e w3 ⟨rfl, hb⟩; have HB := Lib.hid hb; clear hb)
  have h01 := Lib.hid (hJ _ _ _ h00 (sep_belowT HB.out))
  have HC3 : Hid (∀ i, i < n → ∃ g, a = some ⟨g, 0, none⟩ ∧ Zq x y tb nb L.length rv W0 g ∧ w3.cell? ⟨g, i, none⟩ = some (.int .i64 (xs.getD i 0 : Nat))) := Lib.hid fun i hi => by
    obtain ⟨g, e1, e2⟩ := HC.out i hi
    exact ⟨g, e1, HFp.out g (by rw [e1]; rfl), cell_later HB.out e2⟩
  clear h00 cx1 cy1 HA HC
  gi_loopw [11] (fun i wr => ∃ p : Nat, p ≤ n ∧ i = .int .i64 p ∧ J (xs.take p) wr ∧ Hid (∀ i, i < n → ∃ g, a = some ⟨g, 0, none⟩ ∧ Zq x y tb nb L.length rv W0 g ∧ wr.cell? ⟨g, i, none⟩ = some (.int .i64 (xs.getD i 0 : Nat)))) (fun i _ => n - (intOf i).toNat)
  case atStart => exact ⟨0, Nat.zero_le _, rfl, by simpa using h01.out, HC3⟩
  case round =>
    obtain ⟨p, hp, rfl, hj, HCr⟩ := hrel
    have HJ := Lib.hid hj
    clear hj h01 HC3
    by_cases hlt : p < n
    · have hltI : (p : Int) < (n : Int) := by omega
      have hp0 : (0 : Int) ≤ (p : Int) := Int.natCast_nonneg _
      obtain ⟨g, rfl, hzg, hcell⟩ := HCr.out p hlt
      obtain ⟨j, hjx⟩ : ∃ j, xs.getD p 0 = j := ⟨_, rfl⟩
      have hsp : xs = xs.take p ++ j :: xs.drop (p + 1) := by
        conv => lhs; rw [← List.take_append_drop p xs, List.drop_eq_getElem_cons (by rw [HN.out]; exact hlt)]
        rw [← hjx, gD (by rw [HN.out]; exact hlt)]
      have hnx : xs.take p ++ [j] = xs.take (p + 1) := by
        rw [List.take_succ_eq_append_getElem (by rw [HN.out]; exact hlt), ← hjx, gD (by rw [HN.out]; exact hlt)]
      rw [hjx] at hcell
      obtain ⟨fn, tmps, assign, body, hy, hR⟩ := HY.out (xs.take p) j (xs.drop (p + 1)) wr hsp HJ.out
      rw [hnx] at hR
      have HZ := Lib.hid hzg
      clear hjx hsp hnx hzg
      gi_wp2
      refine hR.mono ?_
      rintro e W3 ⟨hh, (⟨rfl, hJ3⟩ | ⟨rfl, hJx3⟩)⟩
      · have HCn : Hid (∀ i, i < n → ∃ g, (some ⟨g, 0, none⟩ : Option Addr) = some ⟨g, 0, none⟩ ∧ Zq x y tb nb L.length rv W0 g ∧ W3.cell? ⟨g, i, none⟩ = some (.int .i64 (xs.getD i 0 : Nat))) := Lib.hid fun i hi => by
          obtain ⟨g', e1, e2, e3⟩ := HCr.out i hi
          cases e1
          exact ⟨g, rfl, e2, hh.cell e2 e3⟩
        have HCm : Hid (∀ i, i < n → ∃ g', (some ⟨g, 0, none⟩ : Option Addr) = some ⟨g', 0, none⟩ ∧ Zq x y tb nb L.length rv W0 g' ∧ W3.cell? ⟨g', i, none⟩ = some (.int .i64 (xs.getD i 0 : Nat))) := Lib.hid fun i hi => by
          obtain ⟨g', e1, e2, e3⟩ := HCr.out i hi
          exact ⟨g', e1, e2, hh.cell e2 e3⟩
        have HJ3 := Lib.hid hJ3
        clear hR hy hcell HCn hJ3 hh
        gi_wp2
        go_roundw
        case rel => exact ⟨p + 1, by omega, by go_num, HJ3.out, HCm⟩
        case measure => simp [intOf]; omega
      · gi_wp2
        refine bodyPost_ret (results_none rfl _ _ _) rfl ?_
        exact ⟨⟨_, rfl⟩, .inr ⟨xs.take (p + 1), List.take_prefix _ _, hJx3⟩⟩
    · obtain rfl : p = n := by omega
      have hltI : ¬ (p : Int) < (p : Int) := by omega
      have hjf := HJ.out
      rw [List.take_of_length_le (by rw [HN.out]; exact Nat.le_refl _)] at hjf
      have HJF := Lib.hid hjf
      clear hjf
      gi_wp2
      go_end0
      exact ⟨⟨_, rfl⟩, .inl HJF.out⟩
/-- of no node nothing is handed out -/
theorem children_none {W0 : World} {B tb nb nc x y : Nat} {rv : Nat → Value} {L Ws : LL} (h : TrP W0 B tb nb nc rv L Ws) (k : Int) (hk : out L k) (cx : W0.cell? ⟨x, 0, none⟩ = some (.pointer (some ⟨tb, 0, none⟩))) (cy : W0.cell? ⟨y, 0, none⟩ = some (.int .i64 k)) (m : Nat) (hm : 1 ≤ m) :
    GivesN Fence.wide m Try.prog 95 #[.pointer (some ⟨x, 0, none⟩), .pointer (some ⟨y, 0, none⟩)] (fun j : Nat => #[.int .i64 (j : Int)]) (Zq x y tb nb L.length rv W0) (Zy W0) [] W0 := by
  intro l J Jx Wd hWs hW hJ hJx hY h00
  have hT : TrP Wd B tb nb nc rv L Ws := h.hold (x := x) (y := y) (fun g hg => .inr (.inr hg)) hW
  have cx1 := hW.cell (.inl rfl) cx
  have cy1 := hW.cell (.inr (.inl rfl)) cy
  have HA := Lib.hid (hT.at_out hk)
  have hfd := nd_field3
  have HJ0 := Lib.hid h00
  have HJs := Lib.hid hJ
  clear hY h cx cy hW hT hk h00 hJ hJx
  refine callsIn_of_wp Try.func95 rfl trivial ?_ rfl
  simp only [Try.ntmps95, List.size_toArray, List.length_cons, List.length_nil, Nat.reduceAdd, Nat.reduceSub, Array.replicate_succ, Array.replicate_zero, List.push_toArray, List.append_toArray, List.nil_append, List.cons_append]
  gi_wp2_with (refine ⟨trivial, ?_⟩; gi_at_call 71; refine (callsIn_wide.2 HA.out).mono ?_; rintro e w3 ⟨rfl, hb⟩; have HB := Lib.hid hb; clear hb)
  gi_loopw [11] (fun i wr => i = .int .i64 0 ∧ J [] wr) (fun i _ => 0)
  case atStart => exact ⟨rfl, HJs.out _ _ _ HJ0.out (sep_belowT HB.out)⟩
  case round =>
    obtain ⟨rfl, hj⟩ := hrel
    gi_wp2
    go_end0
    exact ⟨⟨_, rfl⟩, .inl hj⟩
end Go.Proofs.Ytehmbnloplamaaa
