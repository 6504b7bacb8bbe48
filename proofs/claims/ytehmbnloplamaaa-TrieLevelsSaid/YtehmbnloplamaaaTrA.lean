/- A node of a tree, as a value; its parent, its depth, its number; how many there are; where a word ends. No condition. -/
import Derived.Test.YtehmbnloplamaaaFv5
import Derived.BigQuiet
import Derived.Deep.QuietTactic
import Derived.Deep.DeepCutAuto
namespace Go.Proofs.Ytehmbnloplamaaa
open Go.RowKit
set_option linter.unusedVariables false
open Tr
def Tr.out' (n : Nat) (k : Int) : Prop := k < 0 ∨ (n : Int) ≤ k
set_option maxRecDepth 100000 in
set_option maxHeartbeats 1000000 in
theorem at_yes (tb nb n nc k : Nat) (p q d : Int) (ka wa : Option Addr) (kn kc wn wc : Nat) (w : World) (hk : k < n) (hn : n ≤ 9223372036854775807) (b0 : w.cell? ⟨tb, 0, none⟩ = some (.slice (some ⟨nb, 0, none⟩) n nc))
    (c0 : w.cell? ⟨nb, k * 5, none⟩ = some (.int .u64 p)) (c1 : w.cell? ⟨nb, k * 5 + 1, none⟩ = some (.int .i64 q)) (c2 : w.cell? ⟨nb, k * 5 + 2, none⟩ = some (.int .i64 d)) (c3 : w.cell? ⟨nb, k * 5 + 3, none⟩ = some (.slice ka kn kc)) (c4 : w.cell? ⟨nb, k * 5 + 4, none⟩ = some (.slice wa wn wc)) :
    Calls Try.prog 71 #[.pointer (some ⟨tb, 0, none⟩), .int .i64 k] w fun e w' => e = .returned (.agg #[.int .u64 p, .int .i64 q, .int .i64 d, .slice ka kn kc, .slice wa wn wc]) ∧ Below w.heap.size w w' := by
  have h1 : (k : Int) < (n : Int) := by omega
  have h0 : (0 : Int) ≤ (k : Int) := Int.natCast_nonneg _
  have hb := box1T w (.cells #[.int .u64 0, .int .i64 0, .int .i64 0, .slice none 0 0, .slice none 0 0] 79)
  replace b0 := cell_later hb b0; replace c0 := cell_later hb c0; replace c1 := cell_later hb c1; replace c2 := cell_later hb c2; replace c3 := cell_later hb c3; replace c4 := cell_later hb c4
  have HB := Lib.hid hb
  have HS := Lib.hid (Nv.new w (.int .u64 0) (.int .i64 0) (.int .i64 0) (.slice none 0 0) (.slice none 0 0))
  obtain ⟨W, hW⟩ : ∃ W, w.alloc (.cells #[.int .u64 0, .int .i64 0, .int .i64 0, .slice none 0 0, .slice none 0 0] 79) = W := ⟨_, rfl⟩
  rw [hW] at b0 c0 c1 c2 c3 c4 HB HS
  clear hb
  obtain ⟨d0, d1, d2, d3, d4⟩ := HS.out.cells
  obtain ⟨f0, f1, f2, f3, f4⟩ := HS.out.fr
  go_enter Try.func71, Try.ntmps71
  go_upto_region 1 with fail
  try rw [hW]
  clear hW
  go_wp2
  (try simp only [Exit.inBlock, Exit.then])
  refine bodyPost_ret (ret_cell1 rfl _ _ _ _ rfl (load_nd (HS.out.put _ _ _ _ _))) rfl ⟨rfl, ?_⟩
  exact ((((HB.out.setCell (by simp) _).setCell (by simp) _).setCell (by simp) _).setCell (by simp) _).setCell (by simp) _
theorem at_no (tb nb n nc : Nat) (k : Int) (w : World) (hk : out' n k) (hn : n ≤ 9223372036854775807) (b0 : w.cell? ⟨tb, 0, none⟩ = some (.slice (some ⟨nb, 0, none⟩) n nc)) :
    Calls Try.prog 71 #[.pointer (some ⟨tb, 0, none⟩), .int .i64 k] w fun e w' => e = .returned (.agg #[.int .u64 0, .int .i64 (-1), .int .i64 (-1), .slice none 0 0, .slice none 0 0]) ∧ Below w.heap.size w w' := by
  have hb := box1T w (.cells #[.int .u64 0, .int .i64 0, .int .i64 0, .slice none 0 0, .slice none 0 0] 79)
  replace b0 := cell_later hb b0
  have HB := Lib.hid hb
  have HS := Lib.hid (Nv.new w (.int .u64 0) (.int .i64 0) (.int .i64 0) (.slice none 0 0) (.slice none 0 0))
  obtain ⟨W, hW⟩ : ∃ W, w.alloc (.cells #[.int .u64 0, .int .i64 0, .int .i64 0, .slice none 0 0, .slice none 0 0] 79) = W := ⟨_, rfl⟩
  rw [hW] at b0 HB HS
  obtain ⟨d0, d1, d2, d3, d4⟩ := HS.out.cells
  obtain ⟨f0, f1, f2, f3, f4⟩ := HS.out.fr
  have hk' : k < 0 ∨ (0 ≤ k ∧ (n : Int) ≤ k) := by unfold out' at hk; omega
  clear hb hk
  rcases hk' with hk | ⟨hk0, hk⟩
  all_goals
    go_enter Try.func71, Try.ntmps71
    go_upto_region 1 with fail
    try rw [hW]
    clear hW
    go_wp2
    (try simp only [Exit.inBlock, Exit.then])
    refine bodyPost_ret (ret_cell1 rfl _ _ _ _ rfl (load_nd (HS.out.put _ _ _ _ _))) rfl ⟨rfl, ?_⟩
    exact ((((HB.out.setCell (by simp) _).setCell (by simp) _).setCell (by simp) _).setCell (by simp) _).setCell (by simp) _
end Go.Proofs.Ytehmbnloplamaaa
