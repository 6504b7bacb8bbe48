/- A list of pixels in parts of one length, handed out one by one: over any memory. Condition: not too many. -/
import Derived.Test.YtmnhiagppicegaaGreatZgAE
namespace Go.Proofs.YtmnhiagppicegaaGreat
open Go.RowKit Go.Shelf
attribute [local go_sem] Oper.semAt_some
set_option linter.unusedVariables false
namespace Bt
/-- a part: the k-th one of length c of n numbers -/
def partCh (n c k : Nat) : Nat := min c (n - c * k)
def encCh (b o n c : Nat) (k : Nat) : Array Value := #[.slice (some ⟨b, o + c * k, none⟩) (partCh n c k) (partCh n c k)]
set_option maxRecDepth 100000 in
set_option maxHeartbeats 2000000 in
theorem ch_gives (n m c cap b o nb bb : Nat) (hc1 : 1 ≤ c) (hn : 1 ≤ n) (hm1 : n ≤ c * m) (hm2 : c * m < n + c) (hnc : n ≤ cap) (hc : cap ≤ 9223372036854775807) (h9 : n ≤ 4096) (hc9 : c ≤ 4096) (hne : nb ≠ bb) (W0 : World) (q : Nat) (hq : 1 ≤ q)
    (cn : W0.cell? ⟨nb, 0, none⟩ = some (.slice (some ⟨b, o, none⟩) n cap)) (cb : W0.cell? ⟨bb, 0, none⟩ = some (.int .i64 c)) :
    Gives Fence.wide q Tryz.prog 169 #[.pointer (some ⟨nb, 0, none⟩), .pointer (some ⟨bb, 0, none⟩)] (encCh b o n c) (fun k => k = nb ∨ k = bb) (List.range m) W0 := by
  intro l J Jx W hW hJ hJx hY h00
  have cn1 := hW.cell (.inl rfl) cn
  have cb1 := hW.cell (.inr rfl) cb
  clear cn cb hW
  have HY := Lib.hid hY; clear hY
  refine callsIn_of_wp Tryz.func169 rfl trivial ?_ rfl
  simp only [Tryz.ntmps169, List.size_toArray, List.length_cons, List.length_nil, Nat.reduceAdd, Nat.reduceSub, Array.replicate_succ, Array.replicate_zero, List.push_toArray, List.append_toArray, List.nil_append, List.cons_append]
  gi_wp2
  gi_loopw [4] (fun i wr => ∃ k : Nat, k ≤ m ∧ i = .int .i64 ((c * k : Nat) : Int) ∧ J ((List.range m).take k) wr ∧ wr.cell? ⟨nb, 0, none⟩ = some (.slice (some ⟨b, o, none⟩) n cap) ∧ wr.cell? ⟨bb, 0, none⟩ = some (.int .i64 c)) (fun i _ => ((c * m : Nat) - intOf i).toNat)
  case atStart => exact ⟨0, Nat.zero_le _, by simp, by simpa using h00, cn1, cb1⟩
  case round =>
    obtain ⟨k, hk, rfl, hj, c1, c2⟩ := hrel
    clear cn1 cb1 h00
    by_cases hlt : k < m
    · obtain ⟨I, hI⟩ : ∃ I : Nat, c * k = I := ⟨_, rfl⟩
      have hk1 : c * (k + 1) ≤ c * m := Nat.mul_le_mul_left _ hlt
      have hk2 : c * (k + 1) = I + c := by rw [Nat.mul_succ, hI]
      have hi0 : (I : Int) < n := by omega
      have hi1 : (0 : Int) ≤ k := Int.natCast_nonneg _
      rw [hI]
      have hic : ¬ cap = I := by omega
      have hi3 : (0 : Int) ≤ I := Int.natCast_nonneg _
      have HI := Lib.hid hI; have HI2 := Lib.hid hk2; have HK1 := Lib.hid hk1
      clear hk1 hk2
      by_cases h8 : I + c ≤ n
      · skip
        have hpl : partCh n c k = c := by unfold partCh; rw [hI]; omega
        have hy0 := HY.out _ _ _ wr.drew (rng_get m k hlt) (hJ _ _ _ hj (.drew _ _))
        have HNX := Lib.hid (rng_next m k hlt)
        rw [show encCh b o n c k = #[.slice (some ⟨b, o + I, none⟩) c c] by unfold encCh; rw [hpl, hI]] at hy0
        obtain ⟨fn, tmps, assign, body, hy, hR⟩ := hy0
        have d1 : wr.drew.cell? ⟨nb, 0, none⟩ = some (.slice (some ⟨b, o, none⟩) n cap) := c1
        have d2 : wr.drew.cell? ⟨bb, 0, none⟩ = some (.int .i64 c) := c2
        have hmn : min (c : Int) ((n - I : Nat) : Int) = (c : Int) := by omega
        clear hpl hI
        gi_wp2
        gi_region
        gi_wp2
        refine hR.mono ?_
        rintro e W3 ⟨hh, (⟨rfl, hJ3⟩ | ⟨rfl, hJx3⟩)⟩
        · have c13 := hh.cell (.inl rfl) d1
          have c23 := hh.cell (.inr rfl) d2
          clear hR hy c1 c2 d1 d2
          gi_wp2
          go_roundw
          case rel => exact ⟨k + 1, by omega, by rw [HI2.out]; go_num, by rw [← HNX.out]; exact hJ3, c13, c23⟩
          case measure => have h2 := HI2.out; have h1 := HK1.out; rw [h2] at h1; simp [intOf]; omega
        · gi_wp2
          refine bodyPost_ret (results_none rfl _ _ _) rfl ?_
          exact ⟨⟨_, rfl⟩, .inr ⟨_, by rw [HNX.out]; exact List.take_prefix _ _, hJx3⟩⟩
      · obtain ⟨p, hp⟩ : ∃ p, n - I = p := ⟨_, rfl⟩
        have p1 : 1 ≤ p := by omega
        have p8 : p < c := by omega
        have hpl : partCh n c k = p := by unfold partCh; rw [hI]; omega
        have hy0 := HY.out _ _ _ wr.drew (rng_get m k hlt) (hJ _ _ _ hj (.drew _ _))
        have HNX := Lib.hid (rng_next m k hlt)
        rw [show encCh b o n c k = #[.slice (some ⟨b, o + I, none⟩) p p] by unfold encCh; rw [hpl, hI]] at hy0
        obtain ⟨fn, tmps, assign, body, hy, hR⟩ := hy0
        have d1 : wr.drew.cell? ⟨nb, 0, none⟩ = some (.slice (some ⟨b, o, none⟩) n cap) := c1
        have d2 : wr.drew.cell? ⟨bb, 0, none⟩ = some (.int .i64 c) := c2
        have hmn : min (c : Int) ((n - I : Nat) : Int) = (p : Int) := by omega
        have hmn2 : min (c : Int) (p : Int) = (p : Int) := by omega
        clear hpl hI
        gi_wp2
        gi_region
        gi_wp2
        refine hR.mono ?_
        rintro e W3 ⟨hh, (⟨rfl, hJ3⟩ | ⟨rfl, hJx3⟩)⟩
        · have c13 := hh.cell (.inl rfl) d1
          have c23 := hh.cell (.inr rfl) d2
          clear hR hy c1 c2 d1 d2
          gi_wp2
          go_roundw
          case rel => exact ⟨k + 1, by omega, by rw [HI2.out]; go_num, by rw [← HNX.out]; exact hJ3, c13, c23⟩
          case measure => have h2 := HI2.out; have h1 := HK1.out; rw [h2] at h1; simp [intOf]; omega
        · gi_wp2
          refine bodyPost_ret (results_none rfl _ _ _) rfl ?_
          exact ⟨⟨_, rfl⟩, .inr ⟨_, by rw [HNX.out]; exact List.take_prefix _ _, hJx3⟩⟩
    · obtain rfl : k = m := by omega
      have hi0 : ¬ ((c * k : Nat) : Int) < n := by omega
      obtain ⟨I, hI⟩ : ∃ I : Nat, c * k = I := ⟨_, rfl⟩
      rw [hI] at hi0 ⊢
      gi_wp2
      go_end0
      exact ⟨⟨_, rfl⟩, .inl (by rw [List.take_of_length_le (by simp)] at hj; exact hj)⟩
end Bt
end Go.Proofs.YtmnhiagppicegaaGreat
