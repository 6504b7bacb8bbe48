/- The way up from a node, as an iterator hands it out. No condition. -/
import Derived.Test.YtehmbnloplamaaaTrF
namespace Go.Proofs.Ytehmbnloplamaaa
open Go.RowKit Go.Shelf
attribute [local go_sem] Oper.semAt_some
set_option linter.unusedVariables false
open Tr
namespace Tr
/-- the nodes of a path's beginnings, longest first -/
def ups (L : LL) (p : List Int) : List Nat := (List.range p.length).map fun i => idx L (p.take (p.length - i))
theorem ups_len (L : LL) (p : List Int) : (ups L p).length = p.length := by simp [ups]
theorem ups_at {L : LL} {p : List Int} {i : Nat} (h : i < p.length) : (ups L p).getD i 0 = idx L (p.take (p.length - i)) := by
  unfold ups; rw [gD (by simpa using h)]; simp
theorem ups_nums {L : LL} (h : Inv L) {p : List Int} (hp : p ∈ L) : (ups L p).map (num L) = p.reverse := by
  apply List.ext_getElem
  · rw [List.length_map, ups_len, List.length_reverse]
  · intro i h1 h2
    rw [List.length_map, ups_len] at h1
    rw [List.getElem_map, List.getElem_reverse]
    have e : (ups L p)[i]'(by rw [ups_len]; exact h1) = (ups L p).getD i 0 := (gD (by rw [ups_len]; exact h1)).symm
    rw [e, ups_at h1]
    unfold num
    rw [idx_at (h.take hp _)]
    rw [List.getLastD_eq_getLast?, List.getLast?_eq_getElem?, List.length_take, List.getElem?_take_of_lt (by omega), List.getElem?_eq_getElem (by omega), Option.getD_some]
    congr 1
    omega
theorem dep_at {L : LL} (h : Inv L) {p : List Int} (hp : p ∈ L) {d : Nat} (hd : d ≤ p.length) : depV L (idx L (p.take d) : Nat) = (d : Int) := by
  have h1 := idx_lt_iff.2 (h.take hp d)
  unfold depV
  rw [if_neg (by unfold out; omega), Int.toNat_natCast, idx_at (h.take hp d), List.length_take]
  omega
theorem par_of {L : LL} (h : Inv L) {p : List Int} (hp : p ∈ L) {d : Nat} (hd : d + 1 ≤ p.length) : parV L (idx L (p.take (d + 1)) : Nat) = (idx L (p.take d) : Nat) := by
  have h1 := idx_lt_iff.2 (h.take hp (d + 1))
  have h2 := idx_at (h.take hp (d + 1))
  have h0 : 1 ≤ idx L (p.take (d + 1)) := by
    rcases Nat.eq_zero_or_pos (idx L (p.take (d + 1))) with e | e
    · rw [e, h.root] at h2
      have := congrArg List.length h2
      rw [List.length_take] at this; simp at this; omega
    · exact e
  rw [par_at h0 h1, h2, take_drop1 (by omega), findV_mem (h.take hp d)]
end Tr
end Go.Proofs.Ytehmbnloplamaaa
