/- A row of integers of the call's own, sorted by slices.Sort. Condition: at most 1000 integers. -/
import Derived.Test.YtmlinoanpcbflaaZgAE
import Derived.Test.YtmlinoanpcbflaaZAuLay
import Derived.Shelf.Slices.In.SortNone
import Derived.Sort.OwnSortedInts
namespace Go.Proofs.Ytmlinoanpcbflaa
open Go.RowKit Go.Shelf Go.Sort
set_option linter.unusedVariables false
open Dc
theorem dsort_int (blk off cap : Nat) (zs : List Int) (w : World) (hH : Holds (Value.int .i64) w blk off zs.toArray) (hblk : blk < w.heap.size) (hsz : zs.length < 4611686018427387904) :
    Calls Try.prog 47 #[.slice (some ⟨blk, off, none⟩) zs.length cap] w fun e w' =>
      e = .returned (.tuple #[]) ∧ ∃ n os, w' = grow (putRow (Value.int .i64) (Go.Sort.ahead w n) blk off (zs.mergeSort fun x y => decide (x ≤ y)).toArray) os :=
  Any.slices_Sort_int Ly.lays189 blk off cap zs w hH hblk hsz
theorem dsort_own {w : World} {B : Nat} {v : Value} {n : Nat} {zs : List Int} (ho : w.ownsRow B 3 1 v n (zs.map (Value.int .i64))) (hB : B ≤ w.heap.size) (hn : n ≤ 1000) :
    Calls Try.prog 47 #[v] w fun e w' => e = .returned (.tuple #[]) ∧ w'.ownsRow B 3 1 v n ((zs.mergeSort fun x y => decide (x ≤ y)).map (Value.int .i64)) ∧ Below B w w' := by
  have hzl := ho.1
  rw [List.length_map, Nat.mul_one] at hzl
  rcases Nat.eq_zero_or_pos n with h0 | h0
  · subst h0
    have : zs = [] := List.eq_nil_of_length_eq_zero hzl
    subst this
    obtain ⟨ad, cap, rfl⟩ := ownsRow_val ho
    refine (Any.slices_Sort_int_none Ly.lays189 ad cap w).mono ?_
    rintro e w' ⟨rfl, rfl⟩
    exact ⟨rfl, by simpa using ho, Below.refl _ _⟩
  rcases ho.2 with ⟨_, e⟩ | ⟨gb, cap, cur, rfl, hbase, hgb, r1, r2, r3, r4⟩
  · omega
  · have hH : Holds (Value.int .i64) w gb 0 zs.toArray := holds_of_blockI hgb (by
      rw [Nat.mul_one, ← hzl] at r4; simpa using r4)
    have hgl : gb < w.heap.size := (Array.getElem?_eq_some_iff.1 hgb).1
    have cS := dsort_int gb 0 cap zs w hH hgl (by omega)
    rw [hzl] at cS
    refine cS.mono ?_
    rintro e w' ⟨rfl, nn, os, rfl⟩
    have hl : (zs.mergeSort fun x y => decide (x ≤ y)).length = zs.length := List.length_mergeSort ..
    have h9 := ownsRow_sortedI (n := nn) (os := os) (ss := zs) (ts := zs.mergeSort fun x y => decide (x ≤ y)) hl hbase hgb (by omega) r2 r3
    rw [hzl] at h9
    exact ⟨rfl, h9, (Below.refl B w).grown (grownBy_sortedI _) hB (fun j hj => by cases hj; exact hbase)⟩
end Go.Proofs.Ytmlinoanpcbflaa
