/- A state of an automaton, as a value; how many there are; its fall, its link, what ends at it. Condition: an automaton that stands. -/
import Derived.Test.YtehmbnloplamaaaAuMem
import Derived.Test.YtehmbnloplamaaaTrB
namespace Go.Proofs.Ytehmbnloplamaaa
open Go.RowKit
set_option linter.unusedVariables false
open Tr Au
def Sv (w : World) (b : Nat) (v0 v1 v2 v3 v4 : Value) : Prop := w.heap[b]? = some (.cells #[v0, v1, v2, v3, v4] 74 (0, 0))
section
variable {w w' : World} {b : Nat} {v0 v1 v2 v3 v4 : Value}
theorem Sv.lt (hh : Sv w b v0 v1 v2 v3 v4) : b < w.heap.size := (Array.getElem?_eq_some_iff.1 hh).1
theorem Sv.later (hh : Sv w b v0 v1 v2 v3 v4) (hb : Below w.heap.size w w') : Sv w' b v0 v1 v2 v3 v4 := (hb.block b hh.lt).trans hh
theorem Sv.cells (hh : Sv w b v0 v1 v2 v3 v4) : w.cell? ⟨b, 0, none⟩ = some v0 ∧ w.cell? ⟨b, 1, none⟩ = some v1 ∧ w.cell? ⟨b, 2, none⟩ = some v2 ∧ w.cell? ⟨b, 3, none⟩ = some v3 ∧ w.cell? ⟨b, 4, none⟩ = some v4 := by
  have h' : w.heap[b]? = _ := hh
  refine ⟨?_, ?_, ?_, ?_, ?_⟩ <;> simp [World.cell?, h']
theorem Sv.fr (hh : Sv w b v0 v1 v2 v3 v4) : w.frozen? ⟨b, 0, none⟩ = false ∧ w.frozen? ⟨b, 1, none⟩ = false ∧ w.frozen? ⟨b, 2, none⟩ = false ∧ w.frozen? ⟨b, 3, none⟩ = false ∧ w.frozen? ⟨b, 4, none⟩ = false := by
  have h' : w.heap[b]? = _ := hh
  refine ⟨?_, ?_, ?_, ?_, ?_⟩ <;> simp [World.frozen?, h']
theorem Sv.new (w : World) (v0 v1 v2 v3 v4 : Value) : Sv (w.alloc (.cells #[v0, v1, v2, v3, v4] 74)) w.heap.size v0 v1 v2 v3 v4 := World.alloc_heap_new w _
theorem Sv.put (hh : Sv w b v0 v1 v2 v3 v4) (u0 u1 u2 u3 u4 : Value) : Sv (((((w.setCell ⟨b, 0, none⟩ u0).setCell ⟨b, 1, none⟩ u1).setCell ⟨b, 2, none⟩ u2).setCell ⟨b, 3, none⟩ u3).setCell ⟨b, 4, none⟩ u4) b u0 u1 u2 u3 u4 := by
  have h0 : w.heap[b]? = _ := hh
  have h1 := Tr.set_same 0 u0 h0
  have h2 := Tr.set_same 1 u1 h1
  have h3 := Tr.set_same 2 u2 h2
  have h4 := Tr.set_same 3 u3 h3
  have h5 := Tr.set_same 4 u4 h4
  simpa [Sv] using h5
theorem load_sv (hh : Sv w b v0 v1 v2 v3 v4) : (loadVar 74 ⟨b, 0, none⟩).run Try.prog w = .ok (.agg #[v0, v1, v2, v3, v4]) w := by
  obtain ⟨h0, h1, h2, h3, h4⟩ := hh.cells
  simp [go_sem, h0, h1, h2, h3, h4]
end
theorem has_yes (ab sb n k : Nat) (w : World) (hk : k < n) (hn : n ≤ 9223372036854775807) (b0 : w.cell? ⟨ab, 0, none⟩ = some (.slice (some ⟨sb, 0, none⟩) n n)) :
    Calls Try.prog 46 #[.pointer (some ⟨ab, 0, none⟩), .int .i64 k] w fun e w' => e = .returned (.bool true) ∧ w = w' := by
  have h1 : (k : Int) < (n : Int) := by omega
  have h0 : (0 : Int) ≤ (k : Int) := Int.natCast_nonneg _
  go_enter Try.func46, Try.ntmps46
  go_wp2
  go_ret
  refine ⟨?_, rfl⟩
  simp
theorem has_no (ab sb n : Nat) (k : Int) (w : World) (hk : out' n k) (hn : n ≤ 9223372036854775807) (b0 : w.cell? ⟨ab, 0, none⟩ = some (.slice (some ⟨sb, 0, none⟩) n n)) :
    Calls Try.prog 46 #[.pointer (some ⟨ab, 0, none⟩), .int .i64 k] w fun e w' => e = .returned (.bool false) ∧ w = w' := by
  have hk' : k < 0 ∨ (0 ≤ k ∧ (n : Int) ≤ k) := by unfold out' at hk; omega
  clear hk
  rcases hk' with hk | ⟨hk0, hk⟩
  · go_enter Try.func46, Try.ntmps46
    go_wp2
    go_ret
    refine ⟨?_, rfl⟩
    simp
  · have hk2 : ¬ k < (n : Int) := by omega
    go_enter Try.func46, Try.ntmps46
    go_wp2
    go_ret
    refine ⟨?_, rfl⟩
    simp
set_option maxRecDepth 100000 in
set_option maxHeartbeats 1000000 in
theorem at_yesA (ab sb n k : Nat) (p q d : Int) (ka wa : Option Addr) (kn kc wn wc : Nat) (w : World) (hk : k < n) (hn : n ≤ 9223372036854775807) (b0 : w.cell? ⟨ab, 0, none⟩ = some (.slice (some ⟨sb, 0, none⟩) n n))
    (c0 : w.cell? ⟨sb, k * 5, none⟩ = some (.int .u64 p)) (c1 : w.cell? ⟨sb, k * 5 + 1, none⟩ = some (.int .i64 q)) (c2 : w.cell? ⟨sb, k * 5 + 2, none⟩ = some (.int .i64 d)) (c3 : w.cell? ⟨sb, k * 5 + 3, none⟩ = some (.slice ka kn kc)) (c4 : w.cell? ⟨sb, k * 5 + 4, none⟩ = some (.slice wa wn wc)) :
    Calls Try.prog 43 #[.pointer (some ⟨ab, 0, none⟩), .int .i64 k] w fun e w' => e = .returned (.agg #[.int .u64 p, .int .i64 q, .int .i64 d, .slice ka kn kc, .slice wa wn wc]) ∧ Below w.heap.size w w' := by
  have h1 : (k : Int) < (n : Int) := by omega
  have h0 : (0 : Int) ≤ (k : Int) := Int.natCast_nonneg _
  have hb := box1T w (.cells #[.int .u64 0, .int .i64 0, .int .i64 0, .slice none 0 0, .slice none 0 0] 74)
  replace b0 := cell_later hb b0; replace c0 := cell_later hb c0; replace c1 := cell_later hb c1; replace c2 := cell_later hb c2; replace c3 := cell_later hb c3; replace c4 := cell_later hb c4
  have HB := Lib.hid hb
  have HS := Lib.hid (Sv.new w (.int .u64 0) (.int .i64 0) (.int .i64 0) (.slice none 0 0) (.slice none 0 0))
  obtain ⟨W, hW⟩ : ∃ W, w.alloc (.cells #[.int .u64 0, .int .i64 0, .int .i64 0, .slice none 0 0, .slice none 0 0] 74) = W := ⟨_, rfl⟩
  rw [hW] at b0 c0 c1 c2 c3 c4 HB HS
  have HH := Lib.hid (has_yes ab sb n k W hk hn b0)
  clear hb
  obtain ⟨d0, d1, d2, d3, d4⟩ := HS.out.cells
  obtain ⟨f0, f1, f2, f3, f4⟩ := HS.out.fr
  go_enter Try.func43, Try.ntmps43
  go_upto_region 1 with fail
  try rw [hW]
  clear hW
  go_wp2_with (go_at_call 46; refine HH.out.mono ?_; rintro e w1 ⟨rfl, rfl⟩)
  (try simp only [Exit.inBlock, Exit.then])
  refine bodyPost_ret (ret_cell1 rfl _ _ _ _ rfl (load_sv (HS.out.put _ _ _ _ _))) rfl ⟨rfl, ?_⟩
  exact ((((HB.out.setCell (by simp) _).setCell (by simp) _).setCell (by simp) _).setCell (by simp) _).setCell (by simp) _
theorem at_noA (ab sb n : Nat) (k : Int) (w : World) (hk : out' n k) (hn : n ≤ 9223372036854775807) (b0 : w.cell? ⟨ab, 0, none⟩ = some (.slice (some ⟨sb, 0, none⟩) n n)) :
    Calls Try.prog 43 #[.pointer (some ⟨ab, 0, none⟩), .int .i64 k] w fun e w' => e = .returned (.agg #[.int .u64 0, .int .i64 (-1), .int .i64 (-1), .slice none 0 0, .slice none 0 0]) ∧ Below w.heap.size w w' := by
  have hb := box1T w (.cells #[.int .u64 0, .int .i64 0, .int .i64 0, .slice none 0 0, .slice none 0 0] 74)
  replace b0 := cell_later hb b0
  have HB := Lib.hid hb
  have HS := Lib.hid (Sv.new w (.int .u64 0) (.int .i64 0) (.int .i64 0) (.slice none 0 0) (.slice none 0 0))
  obtain ⟨W, hW⟩ : ∃ W, w.alloc (.cells #[.int .u64 0, .int .i64 0, .int .i64 0, .slice none 0 0, .slice none 0 0] 74) = W := ⟨_, rfl⟩
  rw [hW] at b0 HB HS
  have HH := Lib.hid (has_no ab sb n k W hk hn b0)
  obtain ⟨d0, d1, d2, d3, d4⟩ := HS.out.cells
  obtain ⟨f0, f1, f2, f3, f4⟩ := HS.out.fr
  clear hb hk
  go_enter Try.func43, Try.ntmps43
  go_upto_region 1 with fail
  try rw [hW]
  clear hW
  go_wp2_with (go_at_call 46; refine HH.out.mono ?_; rintro e w1 ⟨rfl, rfl⟩)
  (try simp only [Exit.inBlock, Exit.then])
  refine bodyPost_ret (ret_cell1 rfl _ _ _ _ rfl (load_sv (HS.out.put _ _ _ _ _))) rfl ⟨rfl, ?_⟩
  exact ((((HB.out.setCell (by simp) _).setCell (by simp) _).setCell (by simp) _).setCell (by simp) _).setCell (by simp) _
theorem st_field1 (v0 v1 v2 v3 v4 : Value) (W : World) : (Instr.field 74 (.agg #[v0, v1, v2, v3, v4]) 1).run Try.prog W = .ok v1 W := by kernel_rfl
theorem st_field2 (v0 v1 v2 v3 v4 : Value) (W : World) : (Instr.field 74 (.agg #[v0, v1, v2, v3, v4]) 2).run Try.prog W = .ok v2 W := by kernel_rfl
namespace Au
def fallN (n : Nat) (f : Nat → Nd) (k : Int) : Int := if k < 0 ∨ (n : Int) ≤ k then -1 else (f k.toNat).2.1
def linkN (n : Nat) (f : Nat → Nd) (k : Int) : Int := if k < 0 ∨ (n : Int) ≤ k then -1 else (f k.toNat).2.2
def endN (n : Nat) (f : Nat → Nd) (xs : Nat → List Int) (k : Int) : Int := if k < 0 ∨ (n : Int) ≤ k then -1 else if xs (2 * k.toNat + 2) = [] then (f k.toNat).2.2 else k
end Au
section
variable {w : World} {B ab sb n : Nat} {f : Nat → Nd} {rv : Nat → Value} {xs : Nat → List Int}
theorem Au.AuX.len9 (h : AuX w B ab sb n f rv xs) : n ≤ 9223372036854775807 := by
  rcases h.row.2 with ⟨e, _⟩ | ⟨_, _, _, e, _, _, h1, h2, _⟩
  · cases e
  · cases e; unfold maxLen at h2; omega
theorem Au.AuX.at_in (h : AuX w B ab sb n f rv xs) {k : Nat} (hk : k < n) :
    Calls Try.prog 43 #[.pointer (some ⟨ab, 0, none⟩), .int .i64 k] w fun e w' => e = .returned (.agg #[.int .u64 (f k).1, .int .i64 (f k).2.1, .int .i64 (f k).2.2, rv (2 * k + 1), rv (2 * k + 2)]) ∧ Below w.heap.size w w' := by
  obtain ⟨a, c, e1⟩ := h.form (i := 2 * k + 1) (by omega) (by omega)
  obtain ⟨a2, c2, e2⟩ := h.form (i := 2 * k + 2) (by omega) (by omega)
  obtain ⟨h0, h1, h2, h3, h4⟩ := h.cells hk
  rw [e1] at h3
  rw [e2] at h4
  have hc := h.len9
  rw [e1, e2]
  exact at_yesA ab sb n k _ _ _ a a2 _ c _ c2 w hk (by omega) h.boxes h0 h1 h2 h3 h4
theorem len_au (h : AuX w B ab sb n f rv xs) : Calls Try.prog 11 #[.pointer (some ⟨ab, 0, none⟩)] w fun e w' => e = .returned (.int .i64 n) ∧ w = w' := by
  have b0 := h.boxes
  clear h
  go_enter Try.func11, Try.ntmps11
  go_wp2
  go_ret
  exact ⟨rfl, rfl⟩
theorem fall_au (h : AuX w B ab sb n f rv xs) (k : Int) : Calls Try.prog 13 #[.pointer (some ⟨ab, 0, none⟩), .int .i64 k] w fun e w' => e = .returned (.int .i64 (fallN n f k)) ∧ Below w.heap.size w w' := by
  by_cases hk : out' n k
  · have hc := at_noA ab sb n k w hk h.len9 h.boxes
    have e : fallN n f k = -1 := by unfold fallN; exact if_pos hk
    rw [e]
    clear e hk h
    have hfd := st_field1
    go_enter Try.func13, Try.ntmps13
    go_wp2_with (go_at_call 43; refine hc.mono ?_; rintro e w1 ⟨rfl, hb⟩; have HB := Lib.hid hb; clear hb)
    go_ret
    exact ⟨rfl, HB.out⟩
  · obtain ⟨m, rfl⟩ : ∃ m : Nat, k = (m : Int) := ⟨k.toNat, by unfold out' at hk; omega⟩
    have hm : m < n := by unfold out' at hk; omega
    have hc := h.at_in hm
    have e : fallN n f m = (f m).2.1 := by unfold fallN; rw [if_neg (show ¬ ((m : Int) < 0 ∨ (n : Int) ≤ m) from hk), Int.toNat_natCast]
    rw [e]
    generalize (f m).1 = p at hc
    generalize (f m).2.1 = q at hc ⊢
    generalize (f m).2.2 = p at hc
    generalize rv (2 * m + 1) = v at hc ⊢
    generalize rv (2 * m + 2) = v at hc ⊢
    clear hk h hm e
    have hfd := st_field1
    go_enter Try.func13, Try.ntmps13
    go_wp2_with (go_at_call 43; refine hc.mono ?_; rintro e w1 ⟨rfl, hb⟩; have HB := Lib.hid hb; clear hb)
    go_ret
    exact ⟨rfl, HB.out⟩
theorem link_au (h : AuX w B ab sb n f rv xs) (k : Int) : Calls Try.prog 15 #[.pointer (some ⟨ab, 0, none⟩), .int .i64 k] w fun e w' => e = .returned (.int .i64 (linkN n f k)) ∧ Below w.heap.size w w' := by
  by_cases hk : out' n k
  · have hc := at_noA ab sb n k w hk h.len9 h.boxes
    have e : linkN n f k = -1 := by unfold linkN; exact if_pos hk
    rw [e]
    clear e hk h
    have hfd := st_field2
    go_enter Try.func15, Try.ntmps15
    go_wp2_with (go_at_call 43; refine hc.mono ?_; rintro e w1 ⟨rfl, hb⟩; have HB := Lib.hid hb; clear hb)
    go_ret
    exact ⟨rfl, HB.out⟩
  · obtain ⟨m, rfl⟩ : ∃ m : Nat, k = (m : Int) := ⟨k.toNat, by unfold out' at hk; omega⟩
    have hm : m < n := by unfold out' at hk; omega
    have hc := h.at_in hm
    have e : linkN n f m = (f m).2.2 := by unfold linkN; rw [if_neg (show ¬ ((m : Int) < 0 ∨ (n : Int) ≤ m) from hk), Int.toNat_natCast]
    rw [e]
    generalize (f m).1 = p at hc
    generalize (f m).2.1 = q at hc
    generalize (f m).2.2 = p at hc ⊢
    generalize rv (2 * m + 1) = v at hc ⊢
    generalize rv (2 * m + 2) = v at hc ⊢
    clear hk h hm e
    have hfd := st_field2
    go_enter Try.func15, Try.ntmps15
    go_wp2_with (go_at_call 43; refine hc.mono ?_; rintro e w1 ⟨rfl, hb⟩; have HB := Lib.hid hb; clear hb)
    go_ret
    exact ⟨rfl, HB.out⟩
set_option maxRecDepth 100000 in
set_option maxHeartbeats 1000000 in
theorem end_au (h : AuX w B ab sb n f rv xs) (k : Int) : Calls Try.prog 44 #[.pointer (some ⟨ab, 0, none⟩), .int .i64 k] w fun e w' => e = .returned (.int .i64 (endN n f xs k)) ∧ Below w.heap.size w w' := by
  by_cases hk : out' n k
  · have hc := at_noA ab sb n k w hk h.len9 h.boxes
    have e : endN n f xs k = -1 := by unfold endN; exact if_pos hk
    rw [e]
    clear e hk h
    go_enter Try.func44, Try.ntmps44
    go_upto_region 2 with (go_at_call 43; refine hc.mono ?_; rintro e w1 ⟨rfl, hb⟩; have HB := Lib.hid hb; clear hb)
    go_wp2
    go_ret
    exact ⟨rfl, bel_step HB.out (by go_grown)⟩
  · obtain ⟨m, rfl⟩ : ∃ m : Nat, k = (m : Int) := ⟨k.toNat, by unfold out' at hk; omega⟩
    have hm : m < n := by unfold out' at hk; omega
    have hc := h.at_in hm
    obtain ⟨a1, c1, e1⟩ := h.form (i := 2 * m + 1) (by omega) (by omega)
    obtain ⟨a2, c2, e2⟩ := h.form (i := 2 * m + 2) (by omega) (by omega)
    rw [e1, e2] at hc
    have e : endN n f xs m = if xs (2 * m + 2) = [] then (f m).2.2 else m := by unfold endN; rw [if_neg (show ¬ ((m : Int) < 0 ∨ (n : Int) ≤ m) from hk), Int.toNat_natCast]
    rw [e]
    generalize (f m).1 = p at hc
    generalize (f m).2.1 = q at hc
    generalize (f m).2.2 = u at hc ⊢
    generalize (xs (2 * m + 1)).length = z1 at hc
    by_cases hx : xs (2 * m + 2) = []
    · rw [if_pos hx]
      rw [hx, List.length_nil] at hc
      clear hk h hm e e1 e2 hx
      go_enter Try.func44, Try.ntmps44
      go_upto_region 2 with (go_at_call 43; refine hc.mono ?_; rintro e w1 ⟨rfl, hb⟩; have HB := Lib.hid hb; clear hb)
      go_wp2
      go_ret
      exact ⟨rfl, bel_step HB.out (by go_grown)⟩
    · rw [if_neg hx]
      have hl : 0 < (xs (2 * m + 2)).length := List.length_pos_iff.2 hx
      generalize (xs (2 * m + 2)).length = z at hc hl
      have hlI : (0 : Int) < (z : Int) := by omega
      clear hk h hm e e1 e2 hx hl
      go_enter Try.func44, Try.ntmps44
      go_upto_region 2 with (go_at_call 43; refine hc.mono ?_; rintro e w1 ⟨rfl, hb⟩; have HB := Lib.hid hb; clear hb)
      go_wp2
      go_ret
      exact ⟨rfl, bel_step HB.out (by go_grown)⟩
end
end Go.Proofs.Ytehmbnloplamaaa
