/- How many bytes a number's decimals have, over any memory. Condition: the number fits its kind. -/
import Derived.Test.YtldhhhmihfcalaaNumA
namespace Go.Proofs.Ytldhhhmihfcalaa
open Go.RowKit Go.Shelf
attribute [local go_sem] Oper.semAt_some
set_option linter.unusedVariables false

def Nu.places (n : Int) : Int := (if n < 0 then 1 else 0) + (Nu.dig 10 n.natAbs).length

set_option maxRecDepth 100000 in
set_option maxHeartbeats 2000000 in
theorem places_any (n : Int) (hn : Nu.I n) (w : World) :
    Calls Try.prog 94 #[.int .i64 n] w fun e w' => e = .returned (.int .i64 (Nu.places n)) ∧ Below w.heap.size w w' := by
  have hlen := Nu.dig_len64 (b := 10) (n := n.natAbs) (by omega) (by unfold Nu.I at hn; omega)
  have hna : (n.natAbs : Int) ≤ 18446744073709551615 := by unfold Nu.I at hn; omega
  refine calls_of_marks Try.func94 rfl ?_
  simp only [Try.ntmps94, List.size_toArray, List.length_cons, List.length_nil, Nat.reduceAdd, Nat.reduceSub, Array.replicate_succ, Array.replicate_zero, List.push_toArray, List.append_toArray, List.nil_append, List.cons_append]
  by_cases h : n < 0
  all_goals
    obtain ⟨s, hs, hs0, hs1, hs2⟩ : ∃ s : Int, Hid ((if n < 0 then 1 else 0) = s) ∧ 0 ≤ s ∧ s ≤ 1 ∧ Hid (s = if n < 0 then 1 else 0) := by
      first | exact ⟨1, by rw [if_pos h]; rfl, by omega, by omega, by rw [if_pos h]; rfl⟩ | exact ⟨0, by rw [if_neg h]; rfl, by omega, by omega, by rw [if_neg h]; rfl⟩
    go_wp2_with (first | (go_at_call 122; refine (size_any n hn _).mono ?_; rintro e w1 ⟨rfl, rfl⟩) | (go_at_call 121; refine (digits_made _ _ _).mono ?_; rintro e w2 ⟨nb, bb, rfl, hne, l1, l2, cn, cb, fn, hb⟩))
    have hc0 : w2.cell? ⟨w.heap.size, 0, none⟩ = some (.int .i64 s) := by
      rw [hb.cell (by simp)]
      first | (simp only [if_pos h] at hs; rw [← hs.out]; simp [go_sem]; done) | (rw [← hs.out, if_neg (by omega)]; simp [go_sem])
    have hf0 : w2.frozen? ⟨w.heap.size, 0, none⟩ = false := by rw [hb.frozen (by simp)]; simp [go_sem]
    have hbel : Below w.heap.size w w2 := ((Below.refl _ w).alloc (Nat.le_refl _) _).trans (hb.mono (by simp))
    have ln : nb < w2.heap.size := block_lt_of_cell cn
    have lb : bb < w2.heap.size := block_lt_of_cell cb
    simp only [World.size_alloc] at l1 l2
    have hws := hbel.size
    refine range_wp (gf := 134) (lb := #[.pointer (some ⟨nb, 0, none⟩), .pointer (some ⟨bb, 0, none⟩)]) rfl (enters_of Try.func134 (by kernel_rfl) rfl)
      (digits_gives n.natAbs 10 (by omega) hna (by omega) (by omega) nb bb hne w2 2 (by omega) cn cb fn) (by rintro k (rfl | rfl) <;> assumption) (fun _ => rfl)
      (fun pre W => W.cell? ⟨w.heap.size, 0, none⟩ = some (.int .i64 (s + pre.length)) ∧ W.frozen? ⟨w.heap.size, 0, none⟩ = false ∧ Below w.heap.size w W)
      (fun _ _ _ => False) ?hI (fun _ _ _ _ hh _ => hh) ⟨by simpa using hc0, hf0, hbel⟩ ?_ ?assign ?body ?done ?stop
    case hI =>
      rintro p A B ⟨h1, h2, h3⟩ hs
      have hz : ¬ ((w.heap.size = nb ∨ w.heap.size = bb) ∨ w.heap.size = w2.heap.size ∨ w.heap.size = w2.heap.size + 1) := by omega
      exact ⟨hs.cell hz h1, (hs.frozen hz (block_lt_of_cell h1)).trans h2, h3.trans (hs.below h3.size (by intro k hk; omega))⟩
    case assign =>
      intro l x W K hK
      gi_wp2
      exact hK
    case body =>
      rintro l pre x rest W hx hlt ⟨h1, h2, h3⟩
      have hp : (pre.length : Int) ≤ 65 := by have := congrArg List.length hx; simp at this; omega
      have HX := Lib.hid hx
      clear hx cn cb fn hb hc0 hf0
      gi_wp2
      have hz : ¬ ((w.heap.size = nb ∨ w.heap.size = bb) ∨ w.heap.size = w2.heap.size ∨ w.heap.size = w2.heap.size + 1) := by omega
      refine ⟨.setCell _ hz _, ?_, ?_, ?_⟩
      · rw [World.cell?_setCell_same' _ _ _ (by rw [h1]; rfl)]; simp; omega
      · rw [World.frozen?_setCell]; exact h2
      · exact h3.setCell (Nat.le_refl _) _
    case done =>
      rintro W ⟨h1, h2, h3⟩ hK
      clear cn cb fn hb hc0 hf0
      go_wp2
      refine ret_mark hK (results_tmp rfl _ _ _) ⟨?_, Below.putObj h3 (by omega) _⟩
      exact ret_i (by unfold Nu.places; rw [hs.out])
    case stop =>
      rintro c pre W _ hh _
      exact hh.elim
end Go.Proofs.Ytldhhhmihfcalaa
