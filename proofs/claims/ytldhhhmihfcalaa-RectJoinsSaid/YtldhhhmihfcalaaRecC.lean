/- A row's numbers, cut out of a matrix; a number of it; over any memory. Condition: the places lie in it. -/
import Derived.Test.YtldhhhmihfcalaaRecB
namespace Go.Proofs.Ytldhhhmihfcalaa
open Go.RowKit
set_option linter.unusedVariables false

theorem ret_sl {b o o' n m : Nat} (h : o = o') (k : n = m) : Ending.returned (.slice (some ⟨b, o, none⟩) n n) = .returned (.slice (some ⟨b, o', none⟩) m m) := by rw [h, k]
set_option maxHeartbeats 2000000 in
theorem cut_any (W H x y n : Int) (b off len c p m : Nat) (hW : 1 ≤ W) (hx : 0 ≤ x) (hy : 0 ≤ y) (hp : y * W + x = p) (hn : n = m) (hm : 1 ≤ m) (hl : p + m ≤ len) (hc : len ≤ c) (hc2 : c ≤ 9223372036854775807) (w : World) :
    Calls Try.prog 100 #[.agg #[.int .i64 W, .int .i64 H, .slice (some ⟨b, off, none⟩) len c], .int .i64 x, .int .i64 y, .int .i64 n] w fun e w' => e = .returned (.slice (some ⟨b, off + p, none⟩) m m) ∧ Below w.heap.size w w' := by
  have hyW : 0 ≤ y * W := Int.mul_nonneg hy (by omega)
  obtain ⟨r, hr⟩ : ∃ r, y * W = r := ⟨_, rfl⟩
  rw [hr] at hp hyW
  obtain ⟨f, hf⟩ : ∃ f : Int, (p : Int) = f := ⟨_, rfl⟩
  obtain ⟨g, hg⟩ : ∃ g : Int, f + n = g := ⟨_, rfl⟩
  have e1 : wrap64 (y * W) = r := by rw [hr, IntWalk.wrap64_in] <;> omega
  have e2 : wrap64 (r + x) = f := by rw [hp, IntWalk.wrap64_in] <;> omega
  have e3 : wrap64 (f + n) = g := by rw [hg, IntWalk.wrap64_in] <;> omega
  have f0 : 0 ≤ f := by omega
  have f1 : f ≤ g := by omega
  have f2 : g ≤ (c : Int) := by omega
  have f3 : f < (c : Int) := by omega
  have f4 : ¬ g.toNat = f.toNat := by omega
  have X := Lib.hid (show f.toNat = p ∧ g.toNat - f.toNat = m by omega)
  clear hr hp hyW hf hg hn hl hc hc2 hm
  go_enter Try.func100, Try.ntmps100
  go_wp2
  go_ret
  exact ⟨ret_sl (by rw [X.out.1]) X.out.2, by go_grown⟩
theorem row_any (W H y : Int) (b off len c p m : Nat) (hW : 1 ≤ W) (hy : 0 ≤ y) (hp : y * W = p) (hn : W = m) (hl : p + m ≤ len) (hc : len ≤ c) (hc2 : c ≤ 9223372036854775807) (w : World) :
    Calls Try.prog 101 #[.agg #[.int .i64 W, .int .i64 H, .slice (some ⟨b, off, none⟩) len c], .int .i64 y] w fun e w' => e = .returned (.slice (some ⟨b, off + p, none⟩) m m) ∧ Below w.heap.size w w' := by
  have B := box1 w (.cells #[.int .i64 W, .int .i64 H, .slice (some ⟨b, off, none⟩) len c] 27)
  have hC := Lib.hid (fun W2 => cut_any W H 0 y W b off len c p m hW (Int.le_refl 0) hy (by omega) hn (by omega) hl hc hc2 W2)
  clear hp hn hl
  go_enter Try.func101, Try.ntmps101
  go_wp2_with (go_at_call 100; refine (hC.out _).mono ?_; rintro e w1 ⟨rfl, hb⟩; replace B := bel_step B hb)
  go_ret
  exact ⟨rfl, B⟩

theorem slk_pos {k : IntKind} {w : World} {a : Option Addr} {n : Nat} {zs : List Int} (h : SlK k w a n zs) (hn : 0 < n) : ∃ b off, a = some ⟨b, off, none⟩ ∧ ∀ i, i < n → w.cell? ⟨b, off + i, none⟩ = some (.int k (zs.getD i 0)) := by
  rcases h.2 with h | ⟨b, off, rfl, hc⟩
  · omega
  · exact ⟨b, off, rfl, hc⟩
theorem ok_pos {W H : Int} {L : List Int} (h : Rc.Ok W H L) : 0 < L.length := by
  obtain ⟨h1, h2, h3, h4, h5, h6⟩ := h
  rw [h6]; exact Nat.mul_pos (by omega) (by omega)
theorem ok_len {W H : Int} {L : List Int} (h : Rc.Ok W H L) : L.length ≤ 16777216 := by
  have hm := (Rc.mayV_iff.1 (Rc.ok_may h)).2
  obtain ⟨h1, h2, h3, h4, h5, h6⟩ := h
  omega
/-- where a row of n numbers from x, y on lies -/
theorem place {W H x y n : Int} {L : List Int} (h : Rc.Ok W H L) (hx : Rc.insV x n W = true) (hy : Rc.insV y 1 H = true) :
    y * W + x = ((y.toNat * W.toNat + x.toNat : Nat) : Int) ∧ y * W = ((y.toNat * W.toNat : Nat) : Int) ∧ y.toNat * W.toNat + x.toNat + n.toNat ≤ L.length ∧ y.toNat * W.toNat + W.toNat ≤ L.length := by
  obtain ⟨h1, h2, h3, h4, h5, h6⟩ := h
  obtain ⟨a1, a2, a3, a4⟩ := Rc.insV_iff.1 hx
  obtain ⟨b1, b2, b3, b4⟩ := Rc.insV_iff.1 hy
  have e : y * W = ((y.toNat * W.toNat : Nat) : Int) := by rw [Int.natCast_mul, Int.toNat_of_nonneg (by omega), Int.toNat_of_nonneg (by omega)]
  have k : (y.toNat + 1) * W.toNat ≤ H.toNat * W.toNat := Nat.mul_le_mul_right _ (by omega)
  rw [Nat.succ_mul] at k
  exact ⟨by rw [Int.natCast_add, ← e]; omega, e, by omega, by omega⟩
set_option maxHeartbeats 1000000 in
theorem refAt_any (W H x y : Int) (a : Option Addr) (c : Nat) (L : List Int) (hL : Rc.Ok W H L) (hc : L.length ≤ c) (hc2 : c ≤ 9223372036854775807) (w : World) (hs : SlK .u64 w a L.length L) :
    Calls Try.prog 98 #[.agg #[.int .i64 W, .int .i64 H, .slice a L.length c], .int .i64 x, .int .i64 y] w fun e w' => e = .returned (.tuple #[.int .u64 (Rc.atV W H L x y).1, .bool (Rc.atV W H L x y).2]) ∧ Below w.heap.size w w' := by
  have B := box1 w (.cells #[.int .i64 W, .int .i64 H, .slice a L.length c] 24)
  have hn := ok_len hL
  cases k1 : (Rc.insV x 1 W && Rc.insV y 1 H)
  · have X := Lib.hid (show Rc.atV W H L x y = (0, false) by simp [Rc.atV, k1])
    have k2 : x < 0 ∨ y < 0 ∨ W ≤ x ∨ H ≤ y := by
      obtain ⟨h1, h2, h3, h4, h5, h6⟩ := hL
      rcases Bool.and_eq_false_iff.1 k1 with k | k
      · have : ¬ (0 ≤ x ∧ 1 ≤ (1 : Int) ∧ 1 ≤ W ∧ x ≤ W - 1) := fun h => Bool.false_ne_true (k.symm.trans (Rc.insV_iff.2 h))
        omega
      · have : ¬ (0 ≤ y ∧ 1 ≤ (1 : Int) ∧ 1 ≤ H ∧ y ≤ H - 1) := fun h => Bool.false_ne_true (k.symm.trans (Rc.insV_iff.2 h))
        omega
    clear hL hs k1
    by_cases c1 : x < 0 <;> by_cases c2 : y < 0 <;> by_cases c3 : W ≤ x <;> by_cases c4 : H ≤ y
    all_goals first
      | (exfalso; omega)
      | (
        clear k2
        go_enter Try.func98, Try.ntmps98
        go_wp2
        go_ret2
        exact ⟨by rw [X.out]; rfl, B⟩)
  · have k2 : Rc.insV x 1 W = true ∧ Rc.insV y 1 H = true := by simpa using k1
    obtain ⟨v, hv⟩ : ∃ v, L.getD (y.toNat * W.toNat + x.toNat) 0 = v := ⟨_, rfl⟩
    have X := Lib.hid (show Rc.atV W H L x y = (v, true) by simp only [Rc.atV, k1, if_true]; rw [hv])
    obtain ⟨b, off, rfl, hcell⟩ := slk_pos hs (ok_pos hL)
    obtain ⟨p1, p2, p3, p4⟩ := place hL k2.1 k2.2
    obtain ⟨a1, a2, a3, a4⟩ := Rc.insV_iff.1 k2.1
    obtain ⟨b1, b2, b3, b4⟩ := Rc.insV_iff.1 k2.2
    have hcv := hcell (y.toNat * W.toNat + x.toNat) (by omega)
    rw [hv] at hcv
    have hcw := cell_later B hcv
    obtain ⟨f, hf⟩ : ∃ f : Int, y * W + x = f := ⟨_, rfl⟩
    obtain ⟨r, hr⟩ : ∃ r : Int, y * W = r := ⟨_, rfl⟩
    rw [hr] at p1 p2
    have e1 : wrap64 (y * W) = r := by rw [hr, IntWalk.wrap64_in] <;> omega
    have e2 : wrap64 (r + x) = f := by rw [← hr, hf, IntWalk.wrap64_in] <;> omega
    have f0 : 0 ≤ f := by omega
    have f1 : f < (L.length : Int) := by omega
    rw [show y.toNat * W.toNat + x.toNat = f.toNat by omega] at hcw
    have c1 : ¬ x < 0 := by omega
    have c2 : ¬ y < 0 := by omega
    have c3 : ¬ W ≤ x := by omega
    have c4 : ¬ H ≤ y := by omega
    clear hL hs hcell hcv k2 p1 p2 p3 p4 hv a3 a4 b4 b3 hr hf k1 a1 a2 b1 b2
    go_enter Try.func98, Try.ntmps98
    go_wp2
    go_ret2
    exact ⟨by rw [X.out]; rfl, B⟩
end Go.Proofs.Ytldhhhmihfcalaa
