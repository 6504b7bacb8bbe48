/- A tree's nodes by their depth, then as they are numbered: plain facts. No condition. -/
import Derived.Test.YtehmbnloplamaaaAuMath
import Derived.Sort.Statements
import Derived.Lib.Small
namespace Go.Proofs.Ytehmbnloplamaaa
set_option linter.unusedVariables false
open Tr
namespace Au
abbrev dep (L : LL) (i : Nat) : Nat := (L.getD i []).length
def lev (L : LL) (d : Nat) : List Nat := (List.range L.length).filter fun i => decide (dep L i = d)
def levs (L : LL) : Nat → List Nat
  | 0 => []
  | d + 1 => levs L d ++ lev L (d + 1)
def order (L : LL) : List Nat := levs L L.length
def klt (L : LL) (a b : Nat) : Prop := dep L a < dep L b ∨ (dep L a = dep L b ∧ a < b)
theorem mem_lev {L : LL} {d i : Nat} : i ∈ lev L d ↔ i < L.length ∧ dep L i = d := by
  unfold lev; rw [List.mem_filter, List.mem_range, decide_eq_true_iff]
theorem mem_levs {L : LL} {i : Nat} : ∀ {d}, i ∈ levs L d ↔ i < L.length ∧ 1 ≤ dep L i ∧ dep L i ≤ d
  | 0 => by
    constructor
    · intro h; cases h
    · rintro ⟨_, h1, h2⟩; omega
  | d + 1 => by
    rw [levs, List.mem_append, mem_levs, mem_lev]
    constructor
    · rintro (⟨a, b, c⟩ | ⟨a, b⟩)
      · exact ⟨a, b, by omega⟩
      · exact ⟨a, by omega, by omega⟩
    · rintro ⟨a, b, c⟩
      by_cases e : dep L i = d + 1
      · exact .inr ⟨a, e⟩
      · exact .inl ⟨a, b, by omega⟩
theorem levs_pw (L : LL) : ∀ d, (levs L d).Pairwise (klt L)
  | 0 => List.Pairwise.nil
  | d + 1 => by
    rw [levs, List.pairwise_append]
    refine ⟨levs_pw L d, ?_, fun a ha b hb => ?_⟩
    · unfold lev
      refine List.Pairwise.imp_of_mem ?_ (List.pairwise_lt_range.filter _)
      intro a b ha hb hab
      have h1 := (List.mem_filter.1 ha).2
      have h2 := (List.mem_filter.1 hb).2
      rw [decide_eq_true_iff] at h1 h2
      exact .inr ⟨by omega, hab⟩
    · have h1 := mem_levs.1 ha
      have h2 := mem_lev.1 hb
      exact .inl (by omega)
theorem dep_le {L : LL} (hI : Inv L) : ∀ (m j : Nat), j ≤ m → j < L.length → dep L j ≤ j
  | m, 0, _, _ => by show (L.getD 0 []).length ≤ 0; rw [hI.root]; exact Nat.le_refl _
  | 0, j + 1, h, _ => by omega
  | m + 1, j + 1, h, hj => by
    obtain ⟨a, b, c⟩ := hI.up (j + 1) (by omega) hj
    have h1 := dep_le hI m (idx L (L.getD (j + 1) []).dropLast) (by omega) (idx_lt_iff.2 b)
    unfold dep at h1 ⊢
    rw [idx_at b, List.length_dropLast] at h1
    omega
theorem dep_pos {L : LL} (hI : Inv L) {j : Nat} (h1 : 1 ≤ j) (hj : j < L.length) : 1 ≤ dep L j := List.length_pos_iff.2 (path_ne hI h1 hj)
theorem dep_zero {L : LL} (hI : Inv L) : dep L 0 = 0 := by unfold dep; rw [hI.root]; rfl
theorem mem_order {L : LL} (hI : Inv L) {j : Nat} : j ∈ order L ↔ 1 ≤ j ∧ j < L.length := by
  unfold order
  rw [mem_levs]
  constructor
  · rintro ⟨a, b, c⟩
    refine ⟨?_, a⟩
    rcases Nat.eq_zero_or_pos j with e | e
    · subst e; rw [dep_zero hI] at b; omega
    · exact e
  · rintro ⟨a, b⟩
    exact ⟨b, dep_pos hI a b, by have := dep_le hI j j (Nat.le_refl _) b; omega⟩
theorem order_pw (L : LL) : (order L).Pairwise (klt L) := levs_pw L _
theorem klt_irr {L : LL} {a : Nat} : ¬ klt L a a := by rintro (h | ⟨_, h⟩) <;> omega
theorem order_nodup (L : LL) : (order L).Nodup := by
  show List.Pairwise _ _
  exact (order_pw L).imp (fun {a b} h (e : a = b) => by subst e; exact klt_irr h)
theorem order_perm {L : LL} (hI : Inv L) : (order L).Perm ((List.range (L.length - 1)).map (· + 1)) := by
  refine (List.perm_ext_iff_of_nodup (order_nodup L) ?_).2 fun z => ?_
  · show List.Pairwise _ _
    rw [List.pairwise_map]
    exact List.nodup_range.imp (fun h => by omega)
  · rw [mem_order hI, List.mem_map]
    constructor
    · rintro ⟨a, b⟩; exact ⟨z - 1, by rw [List.mem_range]; omega, by omega⟩
    · rintro ⟨i, h, rfl⟩; rw [List.mem_range] at h; omega
theorem order_len {L : LL} (hI : Inv L) : (order L).length = L.length - 1 := by rw [(order_perm hI).length_eq]; simp
theorem levs_pre (L : LL) (d : Nat) : ∀ e, ∃ M, levs L (d + e) = levs L d ++ M
  | 0 => ⟨[], by simp⟩
  | e + 1 => by
    obtain ⟨M, h⟩ := levs_pre L d e
    exact ⟨M ++ lev L (d + e + 1), by rw [← Nat.add_assoc, levs, h, List.append_assoc]⟩
theorem levs_le {L : LL} (hI : Inv L) {d : Nat} (hd : d ≤ L.length) : (levs L d).length ≤ L.length - 1 := by
  obtain ⟨M, h⟩ := levs_pre L d (L.length - d)
  rw [show d + (L.length - d) = L.length by omega] at h
  have := order_len hI
  unfold order at this
  rw [h, List.length_append] at this
  omega
theorem levs_full {L : LL} (hI : Inv L) {d : Nat} (hd : d ≤ L.length) (h1 : L.length - 1 ≤ (levs L d).length) : levs L d = order L := by
  obtain ⟨M, h⟩ := levs_pre L d (L.length - d)
  rw [show d + (L.length - d) = L.length by omega] at h
  have := order_len hI
  unfold order at this ⊢
  rw [h, List.length_append] at this
  rw [h, List.eq_nil_of_length_eq_zero (l := M) (by omega), List.append_nil]
/-- what is told ahead of a node: all that are less deep -/
theorem order_ahead {L : LL} (hI : Inv L) {pre rest : List Nat} {j i : Nat} (h : order L = pre ++ j :: rest) (h1 : 1 ≤ i) (hi : i < L.length) (hd : dep L i < dep L j) : i ∈ pre := by
  have hm := (mem_order hI).2 ⟨h1, hi⟩
  rw [h] at hm
  rcases List.mem_append.1 hm with hm | hm
  · exact hm
  · exfalso
    rcases List.mem_cons.1 hm with e | hm
    · subst e; omega
    · have := order_pw L
      rw [h, List.pairwise_append] at this
      have := (List.pairwise_cons.1 this.2.1).1 _ hm
      rcases this with k | ⟨k, _⟩ <;> omega
/-- how two nodes are laid beside each other -/
def orV (x y : Int) : Int := if x ≠ 0 then x else y
def cmpV (L : LL) (a b : Int) : Int := orV (Lib.compareInt (depV L a) (depV L b)) (Lib.compareInt a b)
theorem cmpV_lt (L : LL) (a b : Int) : cmpV L a b < 0 ↔ depV L a < depV L b ∨ (depV L a = depV L b ∧ a < b) := by
  unfold cmpV orV Lib.compareInt
  (repeat' split) <;> omega
theorem cmpV_swo (L : LL) : Go.Sort.SWO (fun x y => decide (cmpV L x y < 0)) := by
  refine ⟨fun x => ?_, fun x y z h1 h2 => ?_, fun x y z h1 h2 => ?_⟩
  · rw [decide_eq_false_iff_not, cmpV_lt]; omega
  · rw [decide_eq_true_iff, cmpV_lt] at *; omega
  · rw [decide_eq_false_iff_not, cmpV_lt] at *; omega
theorem sorted_eqR {α : Type} {R : α → α → Prop} (hR : ∀ x y, R x y → R y x → x = y) : ∀ {l m : List α}, l.Perm m → l.Pairwise R → m.Pairwise R → l = m
  | [], m, h, _, _ => (List.Perm.nil_eq h)
  | x :: l, [], h, _, _ => absurd h.symm.nil_eq (by simp)
  | x :: l, y :: m, h, h1, h2 => by
    rw [List.pairwise_cons] at h1 h2
    have e : x = y := by
      have a : x ∈ y :: m := h.mem_iff.1 (List.mem_cons_self ..)
      have b : y ∈ x :: l := h.mem_iff.2 (List.mem_cons_self ..)
      rcases List.mem_cons.1 a with a | a
      · exact a
      · rcases List.mem_cons.1 b with b | b
        · exact b.symm
        · exact hR _ _ (h1.1 _ b) (h2.1 _ a)
    subst e
    rw [sorted_eqR hR h.cons_inv h1.2 h2.2]
def ints (l : List Nat) : List Int := l.map fun (i : Nat) => (i : Int)
theorem dep_nat {L : LL} {i : Nat} (h : i < L.length) : depV L i = (dep L i : Int) := by unfold depV; rw [if_neg (by unfold out; omega), Int.toNat_natCast]
/-- sorted so, the numbers of the nodes are their row -/
theorem order_sorted {L : LL} (hI : Inv L) {l : List Int} (hp : l.Perm ((List.range (L.length - 1)).map fun i => ((i + 1 : Nat) : Int))) (hs : l.Pairwise fun x y => ¬ cmpV L y x < 0) : l = ints (order L) := by
  refine sorted_eqR (R := fun x y => ¬ cmpV L y x < 0) (fun x y h1 h2 => ?_) (hp.trans ?_) hs ?_
  · rw [cmpV_lt] at h1 h2; omega
  · have := (order_perm hI).symm.map (fun (i : Nat) => (i : Int))
    rwa [List.map_map] at this
  · unfold ints
    rw [List.pairwise_map]
    refine List.Pairwise.imp_of_mem ?_ (order_pw L)
    intro a b ha hb hab
    rw [cmpV_lt, dep_nat ((mem_order hI).1 ha).2, dep_nat ((mem_order hI).1 hb).2]
    rcases hab with h | h <;> omega
end Au
end Go.Proofs.Ytehmbnloplamaaa
