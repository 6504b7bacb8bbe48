/- What a tree tells of a node: how many there are, parent, depth, number; the node at which a word ends. No condition. -/
import Derived.Test.YtehmbnloplamaaaTrA
namespace Go.Proofs.Ytehmbnloplamaaa
open Go.RowKit
set_option linter.unusedVariables false
open Tr
theorem nd_field1 (v0 v1 v2 v3 v4 : Value) (W : World) : (Instr.field 79 (.agg #[v0, v1, v2, v3, v4]) 1).run Try.prog W = .ok v1 W := by kernel_rfl
theorem nd_field2 (v0 v1 v2 v3 v4 : Value) (W : World) : (Instr.field 79 (.agg #[v0, v1, v2, v3, v4]) 2).run Try.prog W = .ok v2 W := by kernel_rfl
theorem nd_field3 (v0 v1 v2 v3 v4 : Value) (W : World) : (Instr.field 79 (.agg #[v0, v1, v2, v3, v4]) 3).run Try.prog W = .ok v3 W := by kernel_rfl
theorem nd_field4 (v0 v1 v2 v3 v4 : Value) (W : World) : (Instr.field 79 (.agg #[v0, v1, v2, v3, v4]) 4).run Try.prog W = .ok v4 W := by kernel_rfl
theorem Tr.own_form {w : World} {B : Nat} {e : TypeId} {v : Value} {n : Nat} {xs : List Value} (h : w.ownsRow B e 1 v n xs) : ∃ a c, v = .slice a n c := by
  rcases h.2 with ⟨rfl, rfl⟩ | ⟨g, cap, cur, rfl, _⟩
  · exact ⟨none, 0, rfl⟩
  · exact ⟨_, cap, rfl⟩
/-- the tree of these paths and words in memory, by name -/
def TrP (w : World) (B tb nb nc : Nat) (rv : Nat → Value) (L W : LL) : Prop := TrX w B tb nb nc L.length (fd L) rv (data L W)
theorem TrP.later {w w' : World} {B tb nb nc : Nat} {rv : Nat → Value} {L W : LL} (h : TrP w B tb nb nc rv L W) (hb : Below w.heap.size w w') : TrP w' B tb nb nc rv L W := TrX.later h hb
theorem TrP.len9 {w : World} {B tb nb nc : Nat} {rv : Nat → Value} {L W : LL} (h : TrP w B tb nb nc rv L W) : L.length ≤ 9223372036854775807 := by
  have := TrX.cap h; unfold maxLen at this; omega
theorem TrP.form {w : World} {B tb nb nc : Nat} {rv : Nat → Value} {L W : LL} (h : TrP w B tb nb nc rv L W) {i : Nat} (hi : i < 2 * L.length + 1) : ∃ a c, rv i = .slice a (data L W i).length c := Tr.own_form (TrX.rows h i hi)
theorem TrP.at_in {w : World} {B tb nb nc : Nat} {rv : Nat → Value} {L W : LL} (h : TrP w B tb nb nc rv L W) {k : Nat} (hk : k < L.length) :
    Calls Try.prog 71 #[.pointer (some ⟨tb, 0, none⟩), .int .i64 k] w fun e w' => e = .returned (.agg #[.int .u64 (num L k), .int .i64 (parV L k), .int .i64 (depV L k), rv (2 * k + 1), rv (2 * k + 2)]) ∧ Below w.heap.size w w' := by
  obtain ⟨a, c, e1⟩ := h.form (i := 2 * k + 1) (by omega)
  obtain ⟨a2, c2, e2⟩ := h.form (i := 2 * k + 2) (by omega)
  obtain ⟨h0, h1, h2, h3, h4⟩ := TrX.cells h hk
  rw [e1] at h3
  rw [e2] at h4
  have hc := h.len9
  rw [e1, e2]
  exact at_yes tb nb L.length nc k _ _ _ a a2 _ c _ c2 w hk (by omega) (TrX.boxes h).1 h0 h1 h2 h3 h4
theorem TrP.at_out {w : World} {B tb nb nc : Nat} {rv : Nat → Value} {L W : LL} (h : TrP w B tb nb nc rv L W) {k : Int} (hk : out L k) :
    Calls Try.prog 71 #[.pointer (some ⟨tb, 0, none⟩), .int .i64 k] w fun e w' => e = .returned (.agg #[.int .u64 0, .int .i64 (-1), .int .i64 (-1), .slice none 0 0, .slice none 0 0]) ∧ Below w.heap.size w w' :=
  at_no tb nb L.length nc k w hk h.len9 (TrX.boxes h).1
section
variable {w : World} {B tb nb nc : Nat} {rv : Nat → Value} {L W : LL}
theorem len_tr (h : TrP w B tb nb nc rv L W) : Calls Try.prog 35 #[.pointer (some ⟨tb, 0, none⟩)] w fun e w' => e = .returned (.int .i64 L.length) ∧ w = w' := by
  obtain ⟨b0, b1⟩ := TrX.boxes h
  clear b1 h
  go_enter Try.func35, Try.ntmps35
  go_wp2
  go_ret
  exact ⟨rfl, rfl⟩
theorem parent_tr (h : TrP w B tb nb nc rv L W) (k : Int) : Calls Try.prog 56 #[.pointer (some ⟨tb, 0, none⟩), .int .i64 k] w fun e w' => e = .returned (.int .i64 (parV L k)) ∧ Below w.heap.size w w' := by
  by_cases hk : out L k
  · have hc := h.at_out hk
    have e : parV L k = -1 := by unfold parV; rw [if_pos]; rcases hk with h1 | h1 <;> omega
    rw [e]
    clear e hk h
    have hfd := nd_field1
    go_enter Try.func56, Try.ntmps56
    go_wp2_with (go_at_call 71; refine hc.mono ?_; rintro e w1 ⟨rfl, hb⟩; have HB := Lib.hid hb; clear hb)
    go_ret
    exact ⟨rfl, HB.out⟩
  · obtain ⟨n, rfl⟩ : ∃ n : Nat, k = (n : Int) := ⟨k.toNat, by omega⟩
    have hn : n < L.length := by omega
    have hc := h.at_in hn
    generalize parV L n = p at hc ⊢
    generalize num L n = p at hc ⊢
    generalize depV L n = p at hc ⊢
    generalize rv (2 * n + 1) = v at hc ⊢
    generalize rv (2 * n + 2) = v at hc ⊢
    clear hk h hn
    have hfd := nd_field1
    go_enter Try.func56, Try.ntmps56
    go_wp2_with (go_at_call 71; refine hc.mono ?_; rintro e w1 ⟨rfl, hb⟩; have HB := Lib.hid hb; clear hb)
    go_ret
    exact ⟨rfl, HB.out⟩
theorem depth_tr (h : TrP w B tb nb nc rv L W) (k : Int) : Calls Try.prog 70 #[.pointer (some ⟨tb, 0, none⟩), .int .i64 k] w fun e w' => e = .returned (.int .i64 (depV L k)) ∧ Below w.heap.size w w' := by
  by_cases hk : out L k
  · have hc := h.at_out hk
    have e : depV L k = -1 := by unfold depV; rw [if_pos hk]
    rw [e]
    clear e hk h
    have hfd := nd_field2
    go_enter Try.func70, Try.ntmps70
    go_wp2_with (go_at_call 71; refine hc.mono ?_; rintro e w1 ⟨rfl, hb⟩; have HB := Lib.hid hb; clear hb)
    go_ret
    exact ⟨rfl, HB.out⟩
  · obtain ⟨n, rfl⟩ : ∃ n : Nat, k = (n : Int) := ⟨k.toNat, by omega⟩
    have hn : n < L.length := by omega
    have hc := h.at_in hn
    generalize parV L n = p at hc ⊢
    generalize num L n = p at hc ⊢
    generalize depV L n = p at hc ⊢
    generalize rv (2 * n + 1) = v at hc ⊢
    generalize rv (2 * n + 2) = v at hc ⊢
    clear hk h hn
    have hfd := nd_field2
    go_enter Try.func70, Try.ntmps70
    go_wp2_with (go_at_call 71; refine hc.mono ?_; rintro e w1 ⟨rfl, hb⟩; have HB := Lib.hid hb; clear hb)
    go_ret
    exact ⟨rfl, HB.out⟩
theorem number_tr (h : TrP w B tb nb nc rv L W) {k : Nat} (hk : k < L.length) : Calls Try.prog 61 #[.pointer (some ⟨tb, 0, none⟩), .int .i64 k] w fun e w' => e = .returned (.int .u64 (num L k)) ∧ w = w' := by
  obtain ⟨b0, b1⟩ := TrX.boxes h
  obtain ⟨c0, c1, c2, c3, c4⟩ := TrX.cells h hk
  have c0' : w.cell? ⟨nb, k * 5, none⟩ = some (.int .u64 (num L k)) := c0
  have hn := h.len9
  have h1 : (k : Int) < (L.length : Int) := by omega
  have h0 : (0 : Int) ≤ (k : Int) := Int.natCast_nonneg _
  generalize num L k = p at c0' ⊢
  generalize L.length = n at b0 hk h1 hn
  clear b1 h c0 c1 c2 c3 c4
  go_enter Try.func61, Try.ntmps61
  go_wp2
  go_ret
  exact ⟨rfl, rfl⟩
theorem ints_cell {w : World} {B : Nat} {e : TypeId} {g n cap : Nat} {zs : List Int} {q : IntKind} (h : w.ownsRow B e 1 (.slice (some ⟨g, 0, none⟩) n cap) n (zs.map (Value.int q))) {i : Nat} (hi : i < n) : w.cell? ⟨g, i, none⟩ = some (.int q (zs.getD i 0)) := by
  have hl := h.1
  rw [List.length_map] at hl
  rw [h.cellAt i (by omega), List.getElem?_map, List.getElem?_eq_getElem (by omega), List.getD_eq_getElem?_getD, List.getElem?_eq_getElem (by omega)]; rfl
end
end Go.Proofs.Ytehmbnloplamaaa
