/- What the smallest functions of pix and of the document's own answer come to, over any memory. Condition: numbers fit their kinds. -/
import Derived.Test.YtmlinoanpcbflaaProg
import Derived.Test.YtmlinoanpcbflaaZgAA
import Derived.WalkKit
import Derived.WalkSpells
import Derived.WalkLawsBesides
import Derived.Handy
import Derived.Lib.Hide
namespace Go.Proofs.Ytmlinoanpcbflaa
open Go.RowKit
set_option linter.unusedVariables false
namespace Pq
theorem ret_i {k : IntKind} {a b : Int} (h : a = b) : Ending.returned (.int k a) = .returned (.int k b) := by rw [h]
theorem ret_b {a b : Bool} (h : a = b) : Ending.returned (.bool a) = .returned (.bool b) := by rw [h]
theorem ret_split {a b c n a' b' c' : Int} (h1 : a = a') (h2 : b = b') (h3 : c = c') :
    Ending.returned (.tuple #[.agg #[.int .i64 a, .int .i64 b, .int .i64 c], .int .i64 n]) = .returned (.tuple #[.agg #[.int .i64 a', .int .i64 b', .int .i64 c'], .int .i64 n]) := by rw [h1, h2, h3]

set_option maxHeartbeats 400000 in
theorem split3 (p a b c : Int) (h : Px.Is3 p a b c) (w : World) :
    Calls Try.prog 61 #[.int .u64 p] w fun e w' => e = .returned (.tuple #[.agg #[.int .i64 a, .int .i64 b, .int .i64 c], .int .i64 3]) ∧ Below w.heap.size w w' := by
  have H := h
  obtain ⟨hp, ha0, ha1, hb0, hb1, hc0, hc1⟩ := h
  have h0 : 0 ≤ p := by omega
  have h1 : p ≤ 18446744073709551615 := by omega
  have hh : p / 281474976710656 = 3 := by omega
  have ht : ((p - 844424930131968) / 65536 / 65536 / 65536 != 0) = false := by rw [bne_eq_false_iff_eq]; omega
  have x1 : wrap64 (bits .and .u64 ((p - 844424930131968) / 65536 / 65536) 65535) = a := by rw [Px.and16 _ (by omega) (by omega), IntWalk.wrap64_in] <;> omega
  have x2 : wrap64 (bits .and .u64 ((p - 844424930131968) / 65536) 65535) = b := by rw [Px.and16 _ (by omega) (by omega), IntWalk.wrap64_in] <;> omega
  have x3 : wrap64 (bits .and .u64 (p - 844424930131968) 65535) = c := by rw [Px.and16 _ (by omega) (by omega), IntWalk.wrap64_in] <;> omega
  clear hp
  have X1 := Lib.hid x1; clear x1
  have X2 := Lib.hid x2; clear x2
  have X3 := Lib.hid x3; clear x3
  go_enter Try.func61, Try.ntmps61
  go_wp2
  go_rounds 4
  go_returns
  exact ⟨ret_split X1.out X2.out X3.out, by go_grown⟩

set_option maxHeartbeats 400000 in
theorem split1 (p a : Int) (h : Px.Is1 p a) (w : World) :
    Calls Try.prog 61 #[.int .u64 p] w fun e w' => e = .returned (.tuple #[.agg #[.int .i64 a, .int .i64 0, .int .i64 0], .int .i64 1]) ∧ Below w.heap.size w w' := by
  obtain ⟨hp, ha0, ha1⟩ := h
  have h0 : 0 ≤ p := by omega
  have h1 : p ≤ 18446744073709551615 := by omega
  have hh : p / 281474976710656 = 1 := by omega
  have ht : ((p - 281474976710656) / 65536 != 0) = false := by rw [bne_eq_false_iff_eq]; omega
  have x1 : wrap64 (bits .and .u64 (p - 281474976710656) 65535) = a := by rw [Px.and16 _ (by omega) (by omega), IntWalk.wrap64_in] <;> omega
  clear hp
  have X1 := Lib.hid x1; clear x1
  go_enter Try.func61, Try.ntmps61
  go_wp2
  go_rounds 2
  go_returns
  exact ⟨ret_split X1.out rfl rfl, by go_grown⟩

set_option maxHeartbeats 400000 in
theorem split0 (p : Int) (hU : Px.U p) (h : Px.Is0 p) (w : World) :
    Calls Try.prog 61 #[.int .u64 p] w fun e w' => e = .returned (.tuple #[.agg #[.int .i64 0, .int .i64 0, .int .i64 0], .int .i64 0]) ∧ Below w.heap.size w w' := by
  obtain ⟨h0, h1⟩ := hU
  obtain ⟨h3, h2⟩ := h
  unfold Px.hiP at h3 h2
  unfold Px.loP at h2
  by_cases hh : p / 281474976710656 = 1
  · have ht : ((p - 281474976710656) / 65536 != 0) = true := by rw [bne_iff_ne]; omega
    clear h3 h2
    go_enter Try.func61, Try.ntmps61
    go_wp2
    go_rounds 2
    go_returns
    exact ⟨rfl, by go_grown⟩
  · have k1 : (p / 281474976710656 != 1) = true := by rw [bne_iff_ne]; omega
    have k3 : (p / 281474976710656 != 3) = true := by rw [bne_iff_ne]; omega
    clear h3 h2 hh
    go_enter Try.func61, Try.ntmps61
    go_wp2
    go_returns
    exact ⟨rfl, by go_grown⟩

theorem mayMaxval_any (n : Int) (w : World) :
    Calls Try.prog 83 #[.int .i64 n] w fun e w' => e = .returned (.bool (Px.okM n)) ∧ w = w' := by
  by_cases h1 : 1 ≤ n
  · by_cases h2 : n ≤ 65535
    · have X := Lib.hid (show Px.okM n = true by simp [Px.okM, h1, h2])
      go_enter Try.func83, Try.ntmps83
      go_wp2
      go_ret
      exact ⟨ret_b X.out.symm, rfl⟩
    · have X := Lib.hid (show Px.okM n = false by simp [Px.okM, h2])
      go_enter Try.func83, Try.ntmps83
      go_wp2
      go_ret
      exact ⟨ret_b X.out.symm, rfl⟩
  · have X := Lib.hid (show Px.okM n = false by simp [Px.okM, h1])
    go_enter Try.func83, Try.ntmps83
    go_wp2
    go_ret
    exact ⟨ret_b X.out.symm, rfl⟩

theorem in_any (n : Int) (w : World) :
    Calls Try.prog 55 #[.int .i64 n] w fun e w' => e = .returned (.bool (Px.okS n)) ∧ w = w' := by
  by_cases h1 : 0 ≤ n
  · by_cases h2 : n ≤ 65535
    · have X := Lib.hid (show Px.okS n = true by simp [Px.okS, h1, h2])
      go_enter Try.func55, Try.ntmps55
      go_wp2
      go_ret
      exact ⟨ret_b X.out.symm, rfl⟩
    · have X := Lib.hid (show Px.okS n = false by simp [Px.okS, h2])
      go_enter Try.func55, Try.ntmps55
      go_wp2
      go_ret
      exact ⟨ret_b X.out.symm, rfl⟩
  · have X := Lib.hid (show Px.okS n = false by simp [Px.okS, h1])
    go_enter Try.func55, Try.ntmps55
    go_wp2
    go_ret
    exact ⟨ret_b X.out.symm, rfl⟩


theorem around_any (n m : Int) (hn : Px.I n) (hm : 0 < m) (hm' : m ≤ 9223372036854775807) (w : World) :
    Calls Try.prog 7 #[.int .i64 n, .int .i64 m] w fun e w' => e = .returned (.int .i64 (Px.aroundV n m)) ∧ w = w' := by
  obtain ⟨h1, h2⟩ := hn
  have hz : (m == 0) = false := by simp; omega
  by_cases h : n < 0
  · have X := Lib.hid (show -((n + 1).tmod m) = Px.aroundV n m by unfold Px.aroundV; rw [if_pos h, ← Int.neg_tmod, Int.tmod_eq_emod_of_nonneg (by omega)])
    have e1 : 0 ≤ -(n + 1) := by omega
    go_enter Try.func7, Try.ntmps7
    go_wp2
    go_ret
    exact ⟨ret_i X.out, rfl⟩
  · have X := Lib.hid (show n % m = Px.aroundV n m by unfold Px.aroundV; rw [if_neg h])
    go_enter Try.func7, Try.ntmps7
    go_wp2
    go_ret
    exact ⟨ret_i X.out, rfl⟩

theorem ret_pack {a b a' b' : Int} (h : (a, b) = (a', b')) : Ending.returned (.tuple #[.int .u64 a, .int .i64 b]) = .returned (.tuple #[.int .u64 a', .int .i64 b']) := by
  cases h; rfl

/-- WHAT IS KNOWN OF A SLICE OF INTEGERS: its length, and what its cells hold. -/
def Sl (w : World) (a : Option Addr) (len : Nat) (zs : List Int) : Prop :=
  zs.length = len ∧ (len = 0 ∨ ∃ blk off, a = some ⟨blk, off, none⟩ ∧ ∀ i, i < len → w.cell? ⟨blk, off + i, none⟩ = some (.int .i64 (zs.getD i 0)))
theorem Sl.below {w w' : World} {a : Option Addr} {n : Nat} {zs : List Int} (h : Sl w a n zs) (hb : Below w.heap.size w w') : Sl w' a n zs := by
  obtain ⟨h1, h2⟩ := h
  refine ⟨h1, ?_⟩
  rcases h2 with h2 | ⟨blk, off, ha, hc⟩
  · exact .inl h2
  · refine .inr ⟨blk, off, ha, fun i hi => ?_⟩
    exact cell_later hb (hc i hi)
theorem sl1 {w : World} {blk off : Nat} {a : Int} (h0 : w.cell? ⟨blk, off, none⟩ = some (.int .i64 a)) : Sl w (some ⟨blk, off, none⟩) 1 [a] :=
  ⟨rfl, .inr ⟨blk, off, rfl, fun i hi => by obtain rfl : i = 0 := by omega
                                            simpa using h0⟩⟩
theorem sl3 {w : World} {blk off : Nat} {a b c : Int} (h0 : w.cell? ⟨blk, off, none⟩ = some (.int .i64 a)) (h1 : w.cell? ⟨blk, off + 1, none⟩ = some (.int .i64 b)) (h2 : w.cell? ⟨blk, off + 2, none⟩ = some (.int .i64 c)) : Sl w (some ⟨blk, off, none⟩) 3 [a, b, c] :=
  ⟨rfl, .inr ⟨blk, off, rfl, fun i hi => by
    obtain rfl | rfl | rfl : i = 0 ∨ i = 1 ∨ i = 2 := by omega
    · simpa using h0
    · simpa using h1
    · simpa using h2⟩⟩

theorem sl_three {w : World} {a : Option Addr} {zs : List Int} (hs : Sl w a 3 zs) :
    ∃ blk off x y z, a = some ⟨blk, off, none⟩ ∧ zs = [x, y, z] ∧ w.cell? ⟨blk, off, none⟩ = some (.int .i64 x) ∧ w.cell? ⟨blk, off + 1, none⟩ = some (.int .i64 y) ∧ w.cell? ⟨blk, off + 2, none⟩ = some (.int .i64 z) := by
  obtain ⟨hz, hc⟩ := hs
  obtain ⟨x, y, z, rfl⟩ : ∃ x y z, zs = [x, y, z] := by
    match zs, hz with
    | [x, y, z], _ => exact ⟨x, y, z, rfl⟩
  rcases hc with hc | ⟨blk, off, rfl, hc⟩
  · omega
  exact ⟨blk, off, x, y, z, rfl, rfl, by simpa using hc 0 (by omega), by simpa using hc 1 (by omega), by simpa using hc 2 (by omega)⟩
theorem sl_one {w : World} {a : Option Addr} {zs : List Int} (hs : Sl w a 1 zs) :
    ∃ blk off x, a = some ⟨blk, off, none⟩ ∧ zs = [x] ∧ w.cell? ⟨blk, off, none⟩ = some (.int .i64 x) := by
  obtain ⟨hz, hc⟩ := hs
  obtain ⟨x, rfl⟩ : ∃ x, zs = [x] := by
    match zs, hz with
    | [x], _ => exact ⟨x, rfl⟩
  rcases hc with hc | ⟨blk, off, rfl, hc⟩
  · omega
  exact ⟨blk, off, x, rfl, rfl, by simpa using hc 0 (by omega)⟩

set_option maxHeartbeats 1000000 in
theorem refPack_any (a : Option Addr) (len cap : Nat) (zs : List Int) (w : World) (hlen : len ≤ 9223372036854775807) (hs : Sl w a len zs) :
    Calls Try.prog 41 #[.slice a len cap] w fun e w' => e = .returned (.tuple #[.int .u64 (Px.packV zs).1, .int .i64 (Px.packV zs).2]) ∧ w = w' := by
  by_cases h3 : len = 3
  · subst h3
    obtain ⟨blk, off, x, y, z, rfl, rfl, c0, c1, c2⟩ := sl_three hs
    clear hs
    cases hx : Px.okS x
    · have X := Lib.hid (Px.packV3_badS (x := x) (y := y) (z := z) (.inl hx))
      go_enter Try.func41, Try.ntmps41
      go_wp2
      refine wp_loop_rounds 4 ?_
      repeat any_goals (rw [rounds_succ]; go_wp2_with (go_at_call 55; refine (in_any _ _).mono ?_; rintro e w' ⟨rfl, rfl⟩))
      go_ret2
      exact ⟨ret_pack X.out.symm, rfl⟩
    obtain ⟨hx0, hx1⟩ := Px.okS_of hx
    cases hy : Px.okS y
    · have X := Lib.hid (Px.packV3_badS (x := x) (y := y) (z := z) (.inr (.inl hy)))
      go_enter Try.func41, Try.ntmps41
      go_wp2
      refine wp_loop_rounds 4 ?_
      repeat any_goals (rw [rounds_succ]; go_wp2_with (go_at_call 55; refine (in_any _ _).mono ?_; rintro e w' ⟨rfl, rfl⟩))
      go_ret2
      exact ⟨ret_pack X.out.symm, rfl⟩
    obtain ⟨hy0, hy1⟩ := Px.okS_of hy
    cases hz : Px.okS z
    · have X := Lib.hid (Px.packV3_badS (x := x) (y := y) (z := z) (.inr (.inr hz)))
      go_enter Try.func41, Try.ntmps41
      go_wp2
      refine wp_loop_rounds 4 ?_
      repeat any_goals (rw [rounds_succ]; go_wp2_with (go_at_call 55; refine (in_any _ _).mono ?_; rintro e w' ⟨rfl, rfl⟩))
      go_ret2
      exact ⟨ret_pack X.out.symm, rfl⟩
    obtain ⟨hz0, hz1⟩ := Px.okS_of hz
    have X := Lib.hid (show Px.packV [x, y, z] = ((x * 65536 + y) * 65536 + z + 844424930131968, 0) by rw [Px.packV3 hx0 hx1 hy0 hy1 hz0 hz1]; refine Prod.ext ?_ rfl; simp only []; omega)
    go_enter Try.func41, Try.ntmps41
    go_wp2
    refine wp_loop_rounds 4 ?_
    repeat any_goals (rw [rounds_succ]; go_wp2_with (go_at_call 55; refine (in_any _ _).mono ?_; rintro e w' ⟨rfl, rfl⟩))
    go_ret2
    exact ⟨ret_pack X.out.symm, rfl⟩
  · by_cases h1 : len = 1
    · subst h1
      obtain ⟨blk, off, x, rfl, rfl, c0⟩ := sl_one hs
      clear hs
      cases hx : Px.okS x
      · have X := Lib.hid (Px.packV1_badS (x := x) hx)
        go_enter Try.func41, Try.ntmps41
        go_wp2
        refine wp_loop_rounds 2 ?_
        repeat any_goals (rw [rounds_succ]; go_wp2_with (go_at_call 55; refine (in_any _ _).mono ?_; rintro e w' ⟨rfl, rfl⟩))
        go_ret2
        exact ⟨ret_pack X.out.symm, rfl⟩
      obtain ⟨hx0, hx1⟩ := Px.okS_of hx
      have X := Lib.hid (show Px.packV [x] = (x + 281474976710656, 0) by rw [Px.packV1 hx0 hx1]; refine Prod.ext ?_ rfl; simp only []; omega)
      go_enter Try.func41, Try.ntmps41
      go_wp2
      refine wp_loop_rounds 2 ?_
      repeat any_goals (rw [rounds_succ]; go_wp2_with (go_at_call 55; refine (in_any _ _).mono ?_; rintro e w' ⟨rfl, rfl⟩))
      go_ret2
      exact ⟨ret_pack X.out.symm, rfl⟩
    · have X := Lib.hid (Px.packV_len (zs := zs) (by rw [hs.1]; exact h1) (by rw [hs.1]; exact h3))
      have m1 : ((len : Int) != 1) = true := by simp; omega
      have m3 : ((len : Int) != 3) = true := by simp; omega
      clear h1 h3
      go_enter Try.func41, Try.ntmps41
      go_wp2
      go_ret2
      exact ⟨ret_pack X.out.symm, rfl⟩
end Pq
end Go.Proofs.Ytmlinoanpcbflaa
