/- Where in a list of matrices the first one is that is the same as one: turn's closure in add, slices.IndexFunc over it; over any memory. Condition: the list's matrices, and their numbers, lie in memory. -/
import Derived.Test.YteonfgphihacgaaTurL
namespace Go.Proofs.Yteonfgphihacgaa
open Go.RowKit
set_option linter.unusedVariables false

namespace Tu
/-- the first one below k, or -1 -/
def firstI (p : Nat → Bool) (k : Nat) : Int := match (List.range k).find? p with | some i => (i : Int) | none => -1
theorem find_range {p : Nat → Bool} : ∀ {k j : Nat}, j < k → (∀ i, i < j → p i = false) → p j = true → (List.range k).find? p = some j
  | 0, j, h, _, _ => absurd h (Nat.not_lt_zero _)
  | k + 1, j, h, h1, h2 => by
    rw [List.range_succ, List.find?_append]
    rcases Nat.lt_or_ge j k with hjk | hjk
    · rw [find_range hjk h1 h2]; rfl
    · obtain rfl : j = k := by omega
      have : (List.range j).find? p = none := by
        rw [List.find?_eq_none]
        intro x hx
        rw [h1 x (List.mem_range.1 hx)]; exact Bool.false_ne_true
      rw [this]
      simp [h2]
theorem firstI_hit {p : Nat → Bool} {k j : Nat} (h : j < k) (h1 : ∀ i, i < j → p i = false) (h2 : p j = true) : firstI p k = j := by
  unfold firstI; rw [find_range h h1 h2]
theorem firstI_miss {p : Nat → Bool} {k : Nat} (h1 : ∀ i, i < k → p i = false) : firstI p k = -1 := by
  unfold firstI
  have : (List.range k).find? p = none := by
    rw [List.find?_eq_none]
    intro x hx
    rw [h1 x (List.mem_range.1 hx)]; exact Bool.false_ne_true
  rw [this]
/-- are two matrices the same? -/
def eqM (P Q P2 Q2 : Nat) (L M : List Int) : Bool := decide ((P : Int) = P2) && (decide ((Q : Int) = Q2) && decide (L = M))
end Tu
set_option maxHeartbeats 2000000 in
theorem clo_any (P Q P2 Q2 g g2 n lb : Nat) (L M : List Int) (hn : n ≤ 9223372036854775807) (w : World) (hF : Sb w lb 54 (.int .i64 P2) (.int .i64 Q2) (.slice (some ⟨g2, 0, none⟩) n n)) (h1 : SlK .u64 w (some ⟨g, 0, none⟩) n L) (h2 : SlK .u64 w (some ⟨g2, 0, none⟩) n M) :
    Calls Try.prog 96 #[.agg #[.int .i64 P, .int .i64 Q, .slice (some ⟨g, 0, none⟩) n n], .pointer (some ⟨lb, 0, none⟩)] w fun e w' => e = .returned (.bool (Tu.eqM P Q P2 Q2 L M)) ∧ Below w.heap.size w w' := by
  obtain ⟨c0, c1, c2⟩ := hF.cells
  have hlt := hF.lt
  have B := box1 w (.cells #[.int .i64 P, .int .i64 Q, .slice (some ⟨g, 0, none⟩) n n] 54)
  have hS := Lib.hid (same_any P Q P2 Q2 (some ⟨g, 0, none⟩) (some ⟨g2, 0, none⟩) n n n n L M (w.alloc (.cells #[.int .i64 P, .int .i64 Q, .slice (some ⟨g, 0, none⟩) n n] 54)) hn (h1.below B) (h2.below B))
  clear h1 h2 hF
  go_enter Try.func96, Try.ntmps96
  go_wp2_with (go_at_call 49; refine hS.out.mono ?_; rintro e w1 ⟨rfl, hb⟩; replace B := bel_step B hb)
  go_ret
  exact ⟨rfl, B⟩
set_option maxRecDepth 100000 in
set_option maxHeartbeats 4000000 in
/-- slices.IndexFunc of a list of k matrices -/
theorem index_any (k b cap n lb g2 P2 Q2 : Nat) (P Q G : Nat → Nat) (Ls : Nat → List Int) (M : List Int) (hk : k ≤ 9223372036854775807) (hn : n ≤ 9223372036854775807) (w : World) (hF : Sb w lb 54 (.int .i64 P2) (.int .i64 Q2) (.slice (some ⟨g2, 0, none⟩) n n)) (h2 : SlK .u64 w (some ⟨g2, 0, none⟩) n M)
    (hc : ∀ i, i < k → w.cell? ⟨b, i * 3, none⟩ = some (.int .i64 (P i)) ∧ w.cell? ⟨b, i * 3 + 1, none⟩ = some (.int .i64 (Q i)) ∧ w.cell? ⟨b, i * 3 + 2, none⟩ = some (.slice (some ⟨G i, 0, none⟩) n n)) (hs : ∀ i, i < k → SlK .u64 w (some ⟨G i, 0, none⟩) n (Ls i)) :
    Calls Try.prog 97 #[.slice (some ⟨b, 0, none⟩) k cap, .func (.func 96) #[] #[.pointer (some ⟨lb, 0, none⟩)]] w fun e w' => e = .returned (.int .i64 (Tu.firstI (fun i => Tu.eqM (P i) (Q i) P2 Q2 (Ls i) M) k)) ∧ Below w.heap.size w w' := by
  have HF := Lib.hid hF
  have H2 := Lib.hid h2
  have HC := Lib.hid hc
  have HS := Lib.hid hs
  have en := enters_of Try.func96 (by kernel_rfl) rfl
  clear hF h2 hc hs
  go_enter Try.func97, Try.ntmps97
  go_wp2
  go_loopg [8] k (fun gg s8 wr => ∃ j : Nat, j + gg = k ∧ s8 = .int .i64 j ∧ Below w.heap.size w wr ∧ Hid (∀ i, i < j → Tu.eqM (P i) (Q i) P2 Q2 (Ls i) M = false))
  case atStart => exact ⟨0, by omega, rfl, Below.refl _ _, fun i hi => absurd hi (Nat.not_lt_zero _)⟩
  case round =>
    obtain ⟨j, hj, rfl, hB, hA⟩ := hrel
    cases gk with
    | zero =>
      obtain rfl : j = k := by omega
      have hlt : ¬ (j : Int) < j := by omega
      have HR := Lib.hid (Tu.firstI_miss hA.out)
      go_wp2
      go_ret
      exact ⟨Ar.ret_i HR.out.symm, hB⟩
    | succ gg =>
      have hlt : (j : Int) < (k : Int) := by omega
      have hjk : j < k := by omega
      obtain ⟨q0, q1, q2⟩ := HC.out j hjk
      have q0' := cell_later hB q0
      have q1' := cell_later hB q1
      have q2' := cell_later hB q2
      have hsj := (HS.out j hjk).below hB
      obtain ⟨e, he⟩ : ∃ e, Tu.eqM (P j) (Q j) P2 Q2 (Ls j) M = e := ⟨_, rfl⟩
      have HCL := Lib.hid (clo_any (P j) (Q j) P2 Q2 (G j) g2 n lb (Ls j) M hn wr (HF.out.later hB) hsj (H2.out.below hB))
      rw [he] at HCL
      have HE := Lib.hid he
      obtain ⟨p', hp'⟩ : ∃ p', P j = p' := ⟨_, rfl⟩
      obtain ⟨r', hr'⟩ : ∃ r', Q j = r' := ⟨_, rfl⟩
      obtain ⟨g', hg'⟩ : ∃ g', G j = g' := ⟨_, rfl⟩
      rw [hp', hr', hg'] at HCL
      rw [hp'] at q0'
      rw [hr'] at q1'
      rw [hg'] at q2'
      clear q0 q1 q2 hsj he hp' hr' hg'
      cases e with
      | true =>
        have HR := Lib.hid (Tu.firstI_hit hjk hA.out HE.out)
        go_wp2_with fail
        refine HCL.out.mono ?_
        rintro e w9 ⟨rfl, hb9⟩
        have hB9 := hB.trans (hb9.mono hB.size)
        go_wp2
        go_ret
        exact ⟨Ar.ret_i HR.out.symm, hB9⟩
      | false =>
        go_wp2_with fail
        refine HCL.out.mono ?_
        rintro e w9 ⟨rfl, hb9⟩
        have hB9 := hB.trans (hb9.mono hB.size)
        go_wp2
        go_roundg gg
        case measure => omega
        case rel =>
          refine ⟨j + 1, by omega, by go_num, hB9, fun i hi => ?_⟩
          rcases Nat.lt_or_ge i j with h | h
          · exact hA.out i h
          · obtain rfl : i = j := by omega
            exact HE.out
end Go.Proofs.Yteonfgphihacgaa
