/- The document's new tree; rows made small. Condition: numbers fit. -/
import Derived.Test.YtehmbnloplamaaaTrO
import Derived.Test.YtehmbnloplamaaaTrJ
import Derived.Test.YtehmbnloplamaaaTrH
namespace Go.Proofs.Ytehmbnloplamaaa
open Go.RowKit
set_option linter.unusedVariables false
open Tr
theorem refNew_tr (w : World) : Calls Try.prog 31 #[] w fun e w' => ∃ g, e = .returned (.agg #[.slice (some ⟨g, 0, none⟩) 1 1, .slice none 0 0]) ∧ w.heap.size ≤ g ∧ w'.heap[g]? = some (.cells #[.slice none 0 0] 43 (0, 0)) ∧ Below w.heap.size w w' := by
  have HS := Lib.hid (Tv.new w (.slice none 0 0) (.slice none 0 0))
  have HB := Lib.hid (box1T w (.cells #[.slice none 0 0, .slice none 0 0] 25))
  obtain ⟨W, hW⟩ : ∃ W, w.alloc (.cells #[.slice none 0 0, .slice none 0 0] 25) = W := ⟨_, rfl⟩
  have hsz : W.heap.size = w.heap.size + 1 := by rw [← hW]; simp
  rw [hW] at HS HB
  have HS2 := Lib.hid (HS.out.later (box1T W (.cells #[.slice none 0 0] 43)))
  have HN := Lib.hid (World.alloc_heap_new W (.cells #[.slice none 0 0] 43))
  have HB2 := Lib.hid (bel_step HB.out (box1T W (.cells #[.slice none 0 0] 43)))
  have HSZ := Lib.hid hsz
  obtain ⟨y0, y1⟩ := HS2.out.cells
  obtain ⟨g0, g1⟩ := HS2.out.fr
  clear hsz
  go_enter Try.func31, Try.ntmps31
  go_upto_region 1 with fail
  try rw [hW]
  clear hW
  go_wp2
  (try simp only [Exit.inBlock, Exit.then])
  refine bodyPost_ret (ret_cell1 rfl _ _ _ _ rfl (load_tv ((HS2.out.set0 _).set1 _))) rfl ?_
  refine ⟨W.heap.size, rfl, by rw [HSZ.out]; omega, ?_, (HB2.out.setCell (by simp) _).setCell (by simp) _⟩
  rw [Below.heap_setCell _ _ _ _ (by rw [HSZ.out]; simp), Below.heap_setCell _ _ _ _ (by rw [HSZ.out]; simp)]
  exact HN.out
theorem one_newT2 (w : World) (t : TypeId) (v : Value) : ∀ j u, [v][j]? = some u → (w.alloc (.cells #[v] t)).cell? ((⟨w.heap.size, 0, none⟩ : Addr).add j) = some u := by
  intro j u h
  have hj : j < 1 := by have := (List.getElem?_eq_some_iff.1 h).1; simpa using this
  obtain rfl : j = 0 := by omega
  simp at h; subst h; simp [go_sem]
/-- numbers made small -/
def rowV (l : List Int) (m : Nat) : List Int := (l.take m).map fun x => x % 3
theorem rowV_len (l : List Int) (m : Nat) : (rowV l m).length = min l.length m := by unfold rowV; rw [List.length_map, List.length_take]; omega
theorem rowV_succ {l : List Int} {k : Nat} (hk : k < l.length) : rowV l k ++ [l.getD k 0 % 3] = rowV l (k + 1) := by
  unfold rowV; rw [← take_snocI hk, List.map_append, List.map_singleton]
set_option maxRecDepth 100000 in
set_option maxHeartbeats 2000000 in
theorem row_tr {w : World} {a : Option Addr} {n c : Nat} {l : List Int} (hs : SlK .u64 w a n l) (hx : ∀ x ∈ l, 0 ≤ x ∧ x ≤ 18446744073709551615) (hn : n ≤ 9223372036854775807) (m : Nat) (hm : m ≤ 100) :
    Calls Try.prog 23 #[.slice a n c, .int .i64 m] w fun e w' => ∃ v, e = .returned v ∧ w'.ownsRow w.heap.size 39 1 v (min n m) ((rowV l m).map (Value.int .u64)) ∧ Below w.heap.size w w' := by
  obtain ⟨i0, hi, hz0, hz1, hz2⟩ := info_parts Try.info_pxT
  have HS := Lib.hid (fun (w' : World) (hb : Below w.heap.size w w') => hs.below hb)
  have HX := Lib.hid hx
  have HL := Lib.hid hs.1
  have HM : Hid (rowV l (min n m) = rowV l m) := Lib.hid (by
    unfold rowV
    congr 1
    rcases Nat.le_total n m with h | h
    · rw [Nat.min_eq_left h, List.take_of_length_le (by rw [hs.1]; exact Nat.le_refl _), List.take_of_length_le (by rw [hs.1]; exact h)]
    · rw [Nat.min_eq_right h])
  obtain ⟨q, hq⟩ : ∃ q, min n m = q := ⟨_, rfl⟩
  have hqn : q ≤ n := by omega
  have hqm : q ≤ m := by omega
  have hqe : q = n ∨ q = m := by omega
  rw [hq] at HM ⊢
  clear hs hx hq
  go_enter Try.func23, Try.ntmps23
  go_wp2
  go_loopw [5, 6] (fun s5 s6 wr => ∃ k : Nat, k ≤ q ∧ s6 = .int .i64 k ∧ wr.ownsRow w.heap.size 39 1 s5 k ((rowV l k).map (Value.int .u64)) ∧ Below w.heap.size w wr) (fun _ s6 _ => q - (intOf s6).toNat)
  case atStart => exact ⟨0, Nat.zero_le _, rfl, World.ownsRow_nil _ _ _ _, Below.refl _ _⟩
  case round =>
    obtain ⟨k, hk, rfl, hrow, hb⟩ := hrel
    have HROW := Lib.hid hrow
    have HB := Lib.hid hb
    by_cases hlt : k < q
    · have h1 : (k : Int) < (n : Int) := by omega
      have h2 : (k : Int) < (m : Int) := by omega
      have h0 : (0 : Int) ≤ (k : Int) := Int.natCast_nonneg _
      obtain ⟨b, o, rfl, hc⟩ := slk_at (HS.out _ hb) (by omega)
      have hck := hc k (by omega)
      have hkl : k < l.length := by rw [HL.out]; omega
      have hsn := rowV_succ hkl
      have hxr := HX.out (l.getD k 0) (gD_mem hkl)
      obtain ⟨x, hxe⟩ : ∃ x, l.getD k 0 = x := ⟨_, rfl⟩
      rw [hxe] at hck hsn hxr
      have HSN := Lib.hid hsn
      obtain ⟨x0, x1⟩ := hxr
      obtain ⟨y, hy⟩ : ∃ y, x % 3 = y := ⟨_, rfl⟩
      have hy2 : IntKind.u64.wrap (x.tmod 3) = y := by rw [Int.tmod_eq_emod_of_nonneg x0, hy]; simp [IntKind.wrap, IntKind.bits, IntKind.signed]; omega
      have hy3 : x.tmod 3 = y := by rw [Int.tmod_eq_emod_of_nonneg x0, hy]
      have hy4 : IntKind.u64.wrap y = y := by simp [IntKind.wrap, IntKind.bits, IntKind.signed]; omega
      have hsz := hb.size
      rw [hy] at HSN
      clear hc hkl hsn hxe hrow hb
      go_wp2_with (at_builtin; refine wpList_append_lies _ rfl _ _ 43 rfl w.heap.size 39 i0 (.int .u64 0) 1 8 Try.underlying43 hi hz0 hz1 hz2 rfl (by decide) _ k _ rfl (HROW.out.alloc _) ⟨wr.heap.size, 0, none⟩ 1 1 [.int .u64 y] rfl rfl (one_newT2 _ _ _) (by simp [Value.oneCell']) (by omega) (by unfold maxLen; omega) (by omega) (by simp; omega) _ rfl ?_; intro gg cc w5 hown hgrow hat _; have HOWN := Lib.hid hown; have HG := Lib.hid hgrow; clear hown hgrow hat)
      go_roundw
      case rel =>
        refine ⟨k + 1, by omega, by go_num, ?_, HB.out.grown (grown_trans2 HG.out) hsz (fun j e => (HROW.out.lt j e).1)⟩
        rw [← HSN.out, List.map_append]
        exact HOWN.out
      case measure => simp [intOf]; omega
    · obtain rfl : k = q := by omega
      rcases hqe with rfl | rfl
      · have h1 : ¬ (k : Int) < (k : Int) := by omega
        clear hrow hb
        go_wp2
        go_ret
        exact ⟨_, rfl, by rw [← HM.out]; exact HROW.out, HB.out⟩
      · by_cases hkn : k = n
        · subst hkn
          clear hrow hb
          go_wp2
          go_ret
          exact ⟨_, rfl, by first | exact HROW.out | (rw [← HM.out]; exact HROW.out), HB.out⟩
        · have h1 : (k : Int) < (n : Int) := by omega
          have h2 : ¬ (k : Int) < (k : Int) := by omega
          clear hrow hb
          go_wp2
          go_ret
          exact ⟨_, rfl, by first | exact HROW.out | (rw [← HM.out]; exact HROW.out), HB.out⟩
end Go.Proofs.Ytehmbnloplamaaa
