/- A new tree; the words that end at a node. No condition. -/
import Derived.Test.YtehmbnloplamaaaTrD
import Derived.Laws.EntriesVeiled
import Derived.Deep.CutBlock
namespace Go.Proofs.Ytehmbnloplamaaa
open Go.RowKit
set_option linter.unusedVariables false
open Tr
theorem Try.info_int : (Try.prog.info? 3).map (fun i => (i.zero, i.size, i.bytes)) = some (some (.int .i64 0), 1, 8) := by kernel_rfl
theorem heap_old2 {w : World} {g : Nat} {x : Obj} (h : w.heap[g]? = some x) (o : Obj) : (w.alloc o).heap[g]? = some x := by
  rw [Below.heap_alloc w o g (Array.getElem?_eq_some_iff.1 h).1]; exact h
theorem own_empty (w : World) (e : TypeId) : (w.alloc (.cells #[] e)).ownsRow w.heap.size e 1 (.slice (some ⟨w.heap.size, 0, none⟩) 0 0) 0 [] :=
  ⟨rfl, .inr ⟨w.heap.size, 0, #[], rfl, Nat.le_refl _, World.alloc_heap_new w _, Nat.le_refl _, by unfold maxLen; omega, rfl, rfl⟩⟩
theorem isnil_run (w : World) : (binOp .eql 29 (.slice none 0 0) (.slice none 0 0)).run Try.prog w = .ok (.bool true) w := by kernel_rfl
theorem isnot_run (ad : Addr) (n c : Nat) (w : World) : (binOp .eql 29 (.slice (some ad) n c) (.slice none 0 0)).run Try.prog w = .ok (.bool false) w := by kernel_rfl
set_option maxRecDepth 100000 in
set_option maxHeartbeats 1000000 in
theorem clone_tr {w : World} {a : Option Addr} {n c : Nat} {l : List Int} (hs : SlK .i64 w a n l) (hn : n ≤ 1000000) (hnil : a = none → c = 0 ∧ n = 0) :
    Calls Try.prog 85 #[.slice a n c] w fun e w' => ∃ v, e = .returned v ∧ w'.ownsRow w.heap.size 3 1 v n (l.map (Value.int .i64)) ∧ Below w.heap.size w w' := by
  cases a with
  | none =>
    obtain ⟨rfl, rfl⟩ := hnil rfl
    have hl : l = [] := List.length_eq_zero_iff.1 hs.1
    subst hl
    clear hs hnil
    have E := isnil_run w
    go_enter Try.func85, Try.ntmps85
    go_wp2
    go_ret
    exact ⟨_, rfl, World.ownsRow_nil _ _ _ _, Below.refl _ _⟩
  | some ad =>
    obtain ⟨i0, hi, hz0, hz1, hz2⟩ := info_parts Try.info_int
    have hb := box1T w (.cells #[] 3)
    have ho := own_empty w 3
    have HS := Lib.hid (hs.below hb)
    obtain ⟨W, hW⟩ : ∃ W, w.alloc (.cells #[] 3) = W := ⟨_, rfl⟩
    rw [hW] at hb ho HS
    have HB := Lib.hid hb
    have HO := Lib.hid ho
    have HW := Lib.hid hb.size
    clear hs hnil hb ho
    have E := isnot_run ad n c w
    go_enter Try.func85, Try.ntmps85
    go_upto_region 3 with fail
    go_wp2_with (at_builtin; (try rw [hW]); clear hW; refine wpList_app rfl _ _ 29 rfl w.heap.size 3 i0 .i64 8 Try.underlying29 hi hz0 hz1 hz2 _ 0 [] rfl HO.out _ n c l rfl HS.out (by unfold maxLen; omega) (by omega) HW.out ?_; intro v2 w7 hown hgrow _; have H1 := Lib.hid hown; have H2 := Lib.hid hgrow; clear hown hgrow)
    go_ret
    refine ⟨_, rfl, ?_, HB.out.grown H2.out HW.out (fun j ej => ?_)⟩
    · have h := H1.out; rwa [Nat.zero_add, List.nil_append] at h
    · cases ej; exact Nat.le_refl _
theorem words_tr {w : World} {B tb nb nc : Nat} {rv : Nat → Value} {L W : LL} (h : TrP w B tb nb nc rv L W) (hW : ∀ x ∈ W, x ∈ L) (hl9 : W.length ≤ 1000000) (k : Int) :
    Calls Try.prog 63 #[.pointer (some ⟨tb, 0, none⟩), .int .i64 k] w fun e w' => ∃ v, e = .returned v ∧ w'.ownsRow w.heap.size 3 1 v (wordsV L W k).length ((wordsV L W k).map (Value.int .i64)) ∧ Below w.heap.size w w' := by
  by_cases hk : out L k
  · have hc := h.at_out hk
    have e : wordsV L W k = [] := wordsV_out hW hk
    rw [e]
    have hfd := nd_field4
    have HC := Lib.hid (fun (w' : World) => clone_tr (w := w') (a := none) (n := 0) (c := 0) (l := []) ⟨rfl, .inl rfl⟩ (by omega) (fun _ => ⟨rfl, rfl⟩))
    clear e hk h hW
    go_enter Try.func63, Try.ntmps63
    go_wp2_with (first
      | (go_at_call 71; refine hc.mono ?_; rintro e w1 ⟨rfl, hb⟩; have HB := Lib.hid hb; clear hb)
      | (go_at_call 85; refine (HC.out _).mono ?_; rintro e w2 ⟨v, rfl, ho, hb⟩; have HO := Lib.hid ho; have HB2 := Lib.hid hb; clear ho hb))
    go_ret
    exact ⟨_, rfl, ownsRow_base HO.out HB.out.size, bel_step HB.out HB2.out⟩
  · obtain ⟨n, rfl⟩ : ∃ n : Nat, k = (n : Int) := ⟨k.toNat, by omega⟩
    have hn : n < L.length := by omega
    have hc := h.at_in hn
    have hr := TrX.rows h (2 * n + 2) (by omega)
    rw [data_words] at hr
    have hwl := wordsV_len L W (n : Int)
    obtain ⟨a, c, ev⟩ := Tr.own_form hr
    rw [ev] at hr hc
    have HC := Lib.hid (fun (w' : World) (hb : Below w.heap.size w w') => clone_tr (w := w') (a := a) (n := (wordsV L W n).length) (c := c) (l := wordsV L W n) (by
      obtain ⟨ad, cap, e1, ho, _⟩ := ownK_row rfl hr
      injection e1 with e1 e2 e3
      subst e1
      exact ho.sl.below hb) (by omega) (fun e0 => by
      rcases hr.2 with ⟨e1, e2⟩ | ⟨g, cap, cur, e1, _⟩
      · injection e1 with _ _ e3; exact ⟨e3, e2⟩
      · injection e1 with e3; rw [e0] at e3; cases e3))
    generalize parV L n = p at hc
    generalize num L n = p at hc
    generalize depV L n = p at hc
    generalize rv (2 * n + 1) = v at hc
    generalize wordsV L W n = ws at *
    obtain ⟨m, hm⟩ : ∃ m, ws.length = m := ⟨_, rfl⟩
    rw [hm] at hc HC ⊢
    have hfd := nd_field4
    clear hk h hn hr hwl ev hm hW
    go_enter Try.func63, Try.ntmps63
    go_wp2_with (first
      | (go_at_call 71; refine hc.mono ?_; rintro e w1 ⟨rfl, hb⟩; have HB := Lib.hid hb; clear hb)
      | (go_at_call 85; refine (HC.out _ HB.out).mono ?_; rintro e w2 ⟨v, rfl, ho, hb⟩; have HO := Lib.hid ho; have HB2 := Lib.hid hb; clear ho hb))
    go_ret
    exact ⟨_, rfl, ownsRow_base HO.out HB.out.size, bel_step HB.out HB2.out⟩
theorem new_tr (w : World) : Calls Try.prog 30 #[] w fun e w' => ∃ tb nb, e = .returned (.pointer (some ⟨tb, 0, none⟩)) ∧ TrP w' w.heap.size tb nb 1 (fun _ => .slice none 0 0) [[]] [] ∧ Below w.heap.size w w' ∧ w.heap.size ≤ tb ∧ w.heap.size ≤ nb := by
  go_enter Try.func30, Try.ntmps30
  go_wp2
  go_ret
  refine ⟨w.heap.size + 1, w.heap.size, by simp, ⟨by omega, by simp, ?_, ?_, ?_, ?_⟩, by go_grown, by omega, by omega⟩
  · simpa using World.alloc_heap_new (w.alloc (.cells #[.int .u64 0, .int .i64 (-1), .int .i64 0, .slice none 0 0, .slice none 0 0] 79)) (.cells #[.slice (some ⟨w.heap.size, 0, none⟩) 1 1, .slice none 0 0] 82)
  · refine ⟨by rw [nds_len], .inr ⟨w.heap.size, 1, #[.int .u64 0, .int .i64 (-1), .int .i64 0, .slice none 0 0, .slice none 0 0], rfl, Nat.le_refl _, ?_, Nat.le_refl _, by unfold maxLen; omega, rfl, ?_⟩⟩
    · exact heap_old2 (World.alloc_heap_new w _) _
    · rfl
  · intro i hi
    have e : data [[]] [] i = [] := by
      have : i = 0 ∨ i = 1 ∨ i = 2 := by simp at hi; omega
      rcases this with rfl | rfl | rfl <;> rfl
    rw [e]
    exact World.ownsRow_nil _ _ _ _
  · intro i j _ _ _
    exact .inl rfl
end Go.Proofs.Ytehmbnloplamaaa
