/- The iterator over a slice of integers; what is collected of it. Condition: at most 1000 integers, that lie in memory. -/
import Derived.Test.YtmlinoanpcbflaaZgAE
import Derived.RangeFuncBox
namespace Go.Proofs.Ytmlinoanpcbflaa
open Go.RowKit Go.Shelf
set_option linter.unusedVariables false
attribute [local go_sem] Oper.semAt_some
open Dc
theorem Try.info_dint : (Try.prog.info? 3).map (fun i => (i.zero, i.size, i.bytes)) = some (some (.int .i64 0), 1, 8) := by kernel_rfl
/-- the blocks that the iterator stands on -/
def Dc.Zv (p : Nat) (a : Option Addr) (k : Nat) : Prop := k = p ∨ ∃ o, a = some ⟨k, o, none⟩
set_option maxRecDepth 100000 in
set_option maxHeartbeats 2000000 in
theorem vals_gives {W0 : World} {p n c : Nat} {a : Option Addr} {xs : List Int} (cp : W0.cell? ⟨p, 0, none⟩ = some (.slice a n c)) (hs : SlK .i64 W0 a n xs) (hn : n ≤ 1000) (m : Nat) (hm : 1 ≤ m) :
    GivesN Fence.wide m Try.prog 48 #[.pointer (some ⟨p, 0, none⟩)] (fun x : Int => #[.int .i64 x]) (Zv p a) (fun _ => False) xs W0 := by
  intro l J Jx Wd _ hW hJ hJx hY h00
  have cp1 := hW.cell (.inl rfl) cp
  have HC : Hid (∀ i, i < n → ∃ b o, a = some ⟨b, o, none⟩ ∧ Zv p a b ∧ Wd.cell? ⟨b, o + i, none⟩ = some (.int .i64 (xs.getD i 0))) := Lib.hid fun i hi => by
    obtain ⟨_, h0 | ⟨b, o, e, hc⟩⟩ := hs
    · omega
    · subst e
      exact ⟨b, o, rfl, .inr ⟨o, rfl⟩, hW.cell (.inr ⟨o, rfl⟩) (hc i hi)⟩
  have HN := Lib.hid hs.1
  have HY := Lib.hid hY
  have h01 := Lib.hid h00
  have CP := Lib.hid cp1
  clear hY cp hW hs h00 cp1
  refine callsIn_of_wp Try.func48 rfl trivial ?_ rfl
  simp only [Try.ntmps48, List.size_toArray, List.length_cons, List.length_nil, Nat.reduceAdd, Nat.reduceSub, Array.replicate_succ, Array.replicate_zero, List.push_toArray, List.append_toArray, List.nil_append, List.cons_append]
  have cp1 := CP.out
  gi_wp2
  clear cp1
  gi_loopw [7] (fun i wr => ∃ q : Nat, q ≤ n ∧ i = .int .i64 q ∧ J (xs.take q) wr ∧ Hid (∀ i, i < n → ∃ b o, a = some ⟨b, o, none⟩ ∧ Zv p a b ∧ wr.cell? ⟨b, o + i, none⟩ = some (.int .i64 (xs.getD i 0)))) (fun i _ => n - (intOf i).toNat)
  case atStart => exact ⟨0, Nat.zero_le _, rfl, by simpa using h01.out, HC⟩
  case round =>
    obtain ⟨q, hq, rfl, hj, HCr⟩ := hrel
    have HJ := Lib.hid hj
    clear hj h01 HC CP
    by_cases hlt : q < n
    · have hltI : (q : Int) < (n : Int) := by omega
      have hp0 : (0 : Int) ≤ (q : Int) := Int.natCast_nonneg _
      obtain ⟨b, o, rfl, hzg, hcell⟩ := HCr.out q hlt
      obtain ⟨j, hjx⟩ : ∃ j, xs.getD q 0 = j := ⟨_, rfl⟩
      have hgd : xs[q]'(by rw [HN.out]; exact hlt) = j := by rw [← hjx, List.getD_eq_getElem?_getD, List.getElem?_eq_getElem (by rw [HN.out]; exact hlt)]; rfl
      have hsp : xs = xs.take q ++ j :: xs.drop (q + 1) := by
        conv => lhs; rw [← List.take_append_drop q xs, List.drop_eq_getElem_cons (by rw [HN.out]; exact hlt)]
        rw [hgd]
      have hnx : xs.take q ++ [j] = xs.take (q + 1) := by
        rw [List.take_succ_eq_append_getElem (by rw [HN.out]; exact hlt), hgd]
      rw [hjx] at hcell
      have HNX := Lib.hid hnx
      have HY2 := Lib.hid (fun W1 (hJ1 : J (xs.take q) W1) => HY.out (xs.take q) j (xs.drop (q + 1)) W1 hsp hJ1)
      obtain ⟨fn, tmps, assign, body, hy, hR⟩ := HY2.out wr HJ.out
      rw [HNX.out] at hR
      clear hjx hgd hsp hnx hzg
      gi_wp2
      refine hR.mono ?_
      rintro e W3 ⟨hh, (⟨rfl, hJ3⟩ | ⟨rfl, hJx3⟩)⟩
      · have HCm : Hid (∀ i, i < n → ∃ b' o', (some ⟨b, o, none⟩ : Option Addr) = some ⟨b', o', none⟩ ∧ Zv p (some ⟨b, o, none⟩) b' ∧ W3.cell? ⟨b', o' + i, none⟩ = some (.int .i64 (xs.getD i 0))) := Lib.hid fun i hi => by
          obtain ⟨b', o', e1, e2, e3⟩ := HCr.out i hi
          exact ⟨b', o', e1, e2, hh.cell e2 e3⟩
        have HJ3 := Lib.hid hJ3
        clear hR hy hcell hJ3 hh
        gi_wp2
        go_roundw
        case rel => exact ⟨q + 1, by omega, by go_num, HJ3.out, HCm⟩
        case measure => simp [intOf]; omega
      · gi_wp2
        refine bodyPost_ret (results_none rfl _ _ _) rfl ?_
        exact ⟨⟨_, rfl⟩, .inr ⟨xs.take (q + 1), List.take_prefix _ _, hJx3⟩⟩
    · obtain rfl : q = n := by omega
      have hltI : ¬ (q : Int) < (q : Int) := by omega
      have hjf := HJ.out
      rw [List.take_of_length_le (by rw [HN.out]; exact Nat.le_refl _)] at hjf
      have HJF := Lib.hid hjf
      clear hjf
      gi_wp2
      go_end0
      exact ⟨⟨_, rfl⟩, .inl HJF.out⟩
set_option maxRecDepth 100000 in
set_option maxHeartbeats 2000000 in
theorem appendSeq_any {w : World} {p n c : Nat} {a : Option Addr} {xs : List Int} (cp : w.cell? ⟨p, 0, none⟩ = some (.slice a n c)) (hs : SlK .i64 w a n xs) (hn : n ≤ 1000) (ha : ∀ b o, a = some ⟨b, o, none⟩ → b < w.heap.size) :
    Calls Try.prog 58 #[.slice none 0 0, .func (.func 48) #[] #[.pointer (some ⟨p, 0, none⟩)]] w fun e w' => ∃ v, e = .returned v ∧ w'.ownsRow w.heap.size 3 1 v n (xs.map (Value.int .i64)) ∧ Below w.heap.size w w' := by
  obtain ⟨i0, hi, hz0, hz1, hz2⟩ := info_parts Try.info_dint
  have hp := block_lt_of_cell cp
  have HN := Lib.hid hs.1
  have B := dc_box w (.cells #[.slice none 0 0] 42)
  have hv0 : Boxed (w.alloc (.cells #[.slice none 0 0] 42)) w.heap.size 42 (.slice none 0 0) := Boxed.new w _ _
  have HG := Lib.hid (vals_gives (cell_later B cp) (hs.below B) hn 2 (by omega))
  obtain ⟨W1, hW1⟩ : ∃ W1, w.alloc (.cells #[.slice none 0 0] 42) = W1 := ⟨_, rfl⟩
  rw [hW1] at hv0 HG B
  have hz : W1.heap.size = w.heap.size + 1 := by rw [← hW1]; simp
  have HB := Lib.hid B
  have HA := Lib.hid ha
  clear cp hs B ha
  refine calls_of_marks Try.func58 rfl ?_
  simp only [Try.ntmps58, List.size_toArray, List.length_cons, List.length_nil, Nat.reduceAdd, Nat.reduceSub, Array.replicate_succ, Array.replicate_zero, List.push_toArray, List.append_toArray, List.nil_append, List.cons_append]
  go_wp2
  try rw [hW1]
  have hzb : ∀ k, w.heap.size ≤ k → ¬ Zv p a k := fun k hk e => by
    rcases e with rfl | ⟨o, e⟩
    · omega
    · have := HA.out _ _ e; omega
  have hzw : ¬ (Zv p a w.heap.size ∨ w.heap.size = W1.heap.size ∨ w.heap.size = W1.heap.size + 1) := by
    rintro (h | h | h)
    · exact hzb _ (Nat.le_refl _) h
    · omega
    · omega
  have hzk : ∀ k, W1.heap.size + 2 ≤ k → ¬ (Zv p a k ∨ k = W1.heap.size ∨ k = W1.heap.size + 1) := by
    rintro k hk (h | h | h)
    · exact hzb _ (by omega) h
    · omega
    · omega
  have hzf : ∀ k, w.heap.size ≤ k → k < w.heap.size → False := fun k h1 h2 => by omega
  refine range_wpN (gf := 48) (lb := #[.pointer (some ⟨p, 0, none⟩)]) rfl (enters_of Try.func48 (by kernel_rfl) rfl)
    HG.out (fun k h => h.elim) (hzb _ (by omega)) (hzb _ (by omega)) (fun _ => rfl)
    (fun pre W => ∃ v, Boxed W w.heap.size 42 v ∧ W.ownsRow (W1.heap.size + 2) 3 1 v pre.length (pre.map (Value.int .i64)) ∧ Below w.heap.size w W)
    (fun _ _ _ => False) ?hI (fun _ _ _ _ hh _ => hh) ⟨_, hv0, World.ownsRow_nil _ _ _ _, HB.out⟩ ?_ ?assign ?body ?done ?stop
  case hI =>
    rintro pr A B ⟨v, h1, h2, h4⟩ hs
    exact ⟨v, boxed_sep h1 hs (by rintro (h | h | h) <;> omega), ownsRow_sep h2 hs (by rintro k hk (h | h | h) <;> omega), h4.trans (hs.below h4.size (by rintro k hk (h | h | h) <;> omega))⟩
  case assign =>
    intro l x W K hK
    gi_wp2
    exact hK
  case body =>
    rintro l pre x rest W hx hlt ⟨v, hv, hrow, hB⟩
    have hp9 : pre.length ≤ 1000 := by have := congrArg List.length hx; simp at this; have := HN.out; omega
    clear hx hv0
    have hW := hB.size
    have hvc := hv.cell
    gi_wp2_with (gi_at_builtin; refine wpListIn_append_own _ rfl _ _ 42 rfl (W1.heap.size + 2) 3 i0 (.int .i64 0) 1 8 Try.underlying42 hi hz0 hz1 hz2 rfl (by decide) _ _ _ rfl (hrow.alloc _) ⟨W.heap.size, 0, none⟩ 1 1 [.int .i64 x] rfl rfl (cell_one_new _ _ _) (by simp [Value.oneCell']) (by unfold maxLen; omega) (by omega) (by simp; omega) ?_; intro v' w1 hown' hgrow _; obtain ⟨g', cap', rfl⟩ := ownsRow_succ hown'; obtain ⟨hv1, hv2, hr2, hh2, hb2⟩ := pushed hv (by decide) hrow hown' hgrow; have hc1 := hv1.cell; have hf1 := hv1.frozen)
    exact ⟨hh2 _ hzw hzk, _, hv2, by simpa using hr2, hB.trans (hb2 _ (Nat.le_refl _) (by omega) hW)⟩
  case done =>
    rintro W ⟨v, hv, hrow, hB⟩ hK
    have hW := hB.size
    have hlW : W1.heap.size < W.heap.size := (Array.getElem?_eq_some_iff.1 hK).1
    have hvc := hv.cell
    rw [HN.out] at hrow
    obtain ⟨ad, cap, rfl⟩ := ownsRow_val hrow
    have HROW := Lib.hid hrow
    clear hrow
    go_wp2
    refine ret_mark hK (results_tmp rfl _ _ _) ?_
    refine ⟨_, rfl, ?_, Below.putObj hB (by omega) _⟩
    refine own_of_block (ownsRow_base HROW.out (by omega)) fun g hg => World.putObj_heap_other ?_
    have := (HROW.out.lt g hg).1
    omega
  case stop =>
    rintro c pre W _ hh _
    exact hh.elim
end Go.Proofs.Ytmlinoanpcbflaa
