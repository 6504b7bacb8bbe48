/- slices.Reverse of integers: the row is reversed in place, over any memory. No condition beyond the model's bound on a length. -/
import Derived.Test.YtaechkdmijgfiaaProg
import Derived.WalkKit
import Derived.WalkSpells
import Derived.WalkLawsBesides
import Derived.Deep.LoopGhost
import Derived.RegionTactic
import Derived.Lib.Walk
import Derived.Sort.WalkB12
import Derived.Lib.SlicesMore
import Derived.Lib.OwnBridge
import Derived.Handy
import Derived.LoopN
import Derived.Lib.Hide
namespace Go.Proofs.Ytaechkdmijgfiaa
open Go.RowKit Go.Lib Go.Sort
set_option linter.unusedVariables false

set_option maxHeartbeats 1600000 in
set_option maxRecDepth 1000000 in
theorem Rp.reverse_arr (blk off cap : Nat) (d : Array Int) (w : World) (hH : Holds (Value.int .u64) w blk off d) (hsz : d.size ≤ 9223372036854775807) :
    Calls Try.prog 39 #[.slice (some ⟨blk, off, none⟩) d.size cap] w fun e w' => e = .returned (.tuple #[]) ∧ ∃ n, w' = putRow (Value.int .u64) (Sort.ahead w n) blk off d.reverse := by
  go_enter Try.func39, Try.ntmps39
  go_wp2
  go_loopg [2, 3] d.size (fun k s2 s3 wr => ∃ (i jn : Nat) (jz : Int) (dk : Array Int) (n : Nat), s2 = .int .i64 i ∧ s3 = .int .i64 jz ∧ ((i : Int) < jz → jz = jn ∧ jn < d.size) ∧ (¬ (i : Int) < jz → ¬ i < jn) ∧ jn - i ≤ k ∧
    dk.size = d.size ∧ wr = putRow (Value.int .u64) (Sort.ahead w n) blk off dk ∧ reverseLoop i jn dk = reverseLoop 0 (d.size - 1) d)
  case atStart => exact ⟨0, d.size - 1, (d.size : Int) - 1, d, 0, rfl, rfl, fun h => ⟨by omega, by omega⟩, fun h => by omega, by omega, rfl, (putRow_self _ w blk off d hH).symm, rfl⟩
  case round =>
    obtain ⟨i, jn, jz, dk, n, rfl, rfl, h1, h2, hk, hds, hwr, heq⟩ := hrel
    by_cases hlt : (i : Int) < jz
    · obtain ⟨rfl, hjn⟩ := h1 hlt
      have hij : i < jn := by omega
      have hHk : Holds (Value.int .u64) wr blk off dk := by rw [hwr]; exact holds_putRow _ _ blk off d dk (holds_ahead _ w n blk off d hH) hds
      obtain ⟨ci, fi⟩ := hHk i (by omega)
      obtain ⟨cj, fj⟩ := hHk jn (by omega)
      have A := Lib.hid hwr
      have HE := Lib.hid heq
      have HD := Lib.hid hds
      clear hwr hHk hH h1 h2 heq hds
      go_wp2_with fail
      go_region
      go_wp2
      go_roundg (jn - 1 - (i + 1))
      case measure => omega
      case rel =>
        have heq := HE.out
        have hds := HD.out
        rw [reverseLoop, if_pos hij] at heq
        exact ⟨i + 1, jn - 1, (jn : Int) - 1, swp dk i jn, n + 1, by simp, rfl, fun h => ⟨by omega, by omega⟩, fun h => by omega, Nat.le_refl _, by rw [size_swp]; exact hds,
          swap_world _ (by omega) (by omega) A.out (by first | rfl | simp [getElem!_pos, show jn < dk.size by omega]) (by first | rfl | simp [getElem!_pos, show i < dk.size by omega]), heq⟩
    · have hnot := h2 hlt
      have A := Lib.hid hwr
      have HE := Lib.hid heq
      clear hwr heq
      go_wp2
      go_end0
      have heq := HE.out
      refine ⟨rfl, n, ?_⟩
      rw [reverseLoop, if_neg hnot] at heq
      rw [← Lib.reverseLoop_reverse, ← heq, A.out]

/-- A row of the call's own, reversed. -/
theorem Rp.reverse_own (base : Nat) (v : Value) (n : Nat) (zs : List Int) (w : World) (h : w.ownsRow base 43 1 v n (zs.map (Value.int .u64))) (hn : 0 < n) (hsz : n ≤ 9223372036854775807) :
    Calls Try.prog 39 #[v] w fun e w' => e = .returned (.tuple #[]) ∧ w'.ownsRow base 43 1 v n (zs.reverse.map (Value.int .u64)) ∧ (∀ m w0, Below m w0 w → m ≤ base → Below m w0 w') ∧ (∀ g, v.ownBlock = some g → ∀ k, k ≠ g → w'.heap[k]? = w.heap[k]?) := by
  obtain ⟨g, cap, rfl, hb, hg, hle, hm, hl, hH⟩ := holds_of_ownsRow (enc := Value.int .u64) h (by rintro rfl; have := h.2; rcases this with ⟨_, h0⟩ | ⟨_, _, _, e, _⟩; omega; cases e)
  subst hl
  have := Rp.reverse_arr g 0 cap zs.toArray w hH (by simpa using hsz)
  simp only [List.size_toArray] at this
  refine this.mono ?_
  rintro e w' ⟨rfl, q, rfl⟩
  refine ⟨rfl, ?_, fun m w0 hB hm => below_putRow hB (by omega), fun g' hg' k hk => ?_⟩
  · have := ownsRow_putRow (q := q) h (ys := zs.reverse) (by simp) (Nat.le_refl _)
    rw [List.take_of_length_le (by simp)] at this
    rwa [List.reverse_toArray]
  · obtain rfl : g = g' := by simpa [Value.ownBlock] using hg'
    simp [putRow, mapBlock, Sort.ahead, Array.getElem?_modify, Ne.symm hk]
theorem Rp.reverse_nil (w : World) : Calls Try.prog 39 #[.slice none 0 0] w fun e w' => e = .returned (.tuple #[]) ∧ w = w' := by
  go_enter Try.func39, Try.ntmps39
  go_wp2
  refine wp_loop_rounds 1 ?_
  rw [rounds_succ]
  go_wp2
  go_end0
  exact ⟨rfl, rfl⟩
end Go.Proofs.Ytaechkdmijgfiaa
