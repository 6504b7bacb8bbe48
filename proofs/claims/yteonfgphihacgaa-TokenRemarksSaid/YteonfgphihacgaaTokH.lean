/- The document's example of layer 5 holds; a text's first bytes. No condition. -/
import Derived.Test.YteonfgphihacgaaTokF
namespace Go.Proofs.Yteonfgphihacgaa
open Go.RowKit
set_option linter.unusedVariables false

theorem Tk.ex1 : put 100 new 32 = new := by rfl
theorem Tk.ex2 : put 100 new 49 = ⟨2, 1, 9, true⟩ := by rfl
theorem Tk.ex3 : put 100 ⟨2, 1, 9, true⟩ 50 = ⟨2, 12, 9, true⟩ := by rfl
theorem Tk.ex4 : put 100 ⟨2, 12, 9, true⟩ 10 = ⟨4, 12, 0, true⟩ := by rfl
/-- a byte is told, told by what it is then -/
theorem put_to {m : Int} {s t : Tk.S} (hG : Tk.Good m s) (m1 : m ≤ 4611686018427387903) (c : Int) (c0 : 0 ≤ c) (c1 : c ≤ 255) (ht : Tk.put m s c = t) (q : Int) (hq : Tk.st t = q) (W : World) (b : Nat) (hr : RdS W b m s) :
    Calls Try.prog 17 #[.pointer (some ⟨b, 0, none⟩), .int .u8 c] W fun e w' => e = .returned (.int .i64 q) ∧ RdS w' b m t ∧ W.grownBy w' (some b) := by
  have h := (put_both hG m1 c c0 c1).1 W b hr
  rw [ht] at h
  refine h.mono ?_
  rintro e w' ⟨h1, h2, h3⟩
  exact ⟨by rw [h1, hq], h2, h3⟩
theorem grown_bel {B : Nat} {a w w' : World} {b : Nat} (h : Below B a w) (hg : w.grownBy w' (some b)) (hB : B ≤ w.heap.size) (hb : B ≤ b) : Below B a w' := h.grown hg hB (by intro k e; cases e; exact hb)
set_option maxRecDepth 100000 in
set_option maxHeartbeats 4000000 in
theorem lives5_any (w : World) :
    Calls Try.prog 23 #[] w fun e w' => e = .returned (.bool true) ∧ Below w.heap.size w w' := by
  have G1 := Tk.good_new (m := 100) (by omega)
  have G2 : Tk.Good 100 ⟨2, 1, 9, true⟩ := by rw [← Tk.ex2]; exact Tk.good_put G1 49
  have G3 : Tk.Good 100 ⟨2, 12, 9, true⟩ := by rw [← Tk.ex3]; exact Tk.good_put G2 50
  have P1 := Lib.hid (put_to G1 (by omega) 32 (by omega) (by omega) Tk.ex1 0 rfl)
  have P2 := Lib.hid (put_to G1 (by omega) 49 (by omega) (by omega) Tk.ex2 0 rfl)
  have P3 := Lib.hid (put_to G2 (by omega) 50 (by omega) (by omega) Tk.ex3 0 rfl)
  have P4 := Lib.hid (put_to G3 (by omega) 10 (by omega) (by omega) Tk.ex4 1 rfl)
  clear G1 G2 G3
  go_enter Try.func23, Try.ntmps23
  go_wp2_with fail
  all_goals (refine (tokNew_s 100 (by omega) _).mono ?_)
  rintro e w1 ⟨rfl, hR, hB⟩
  have hz := hB.size
  have HR := Lib.hid hR
  have HB := Lib.hid hB
  clear hR hB
  go_wp2_with fail
  refine (P1.out _ _ HR.out).mono ?_
  rintro e w2 ⟨rfl, hR, hg⟩
  replace HR := Lib.hid hR
  replace HB := Lib.hid (grown_bel HB.out hg hz (Nat.le_refl _))
  replace hz := HB.out.size
  clear hR hg
  go_wp2_with fail
  refine (P2.out _ _ HR.out).mono ?_
  rintro e w3 ⟨rfl, hR, hg⟩
  replace HR := Lib.hid hR
  replace HB := Lib.hid (grown_bel HB.out hg hz (Nat.le_refl _))
  replace hz := HB.out.size
  clear hR hg
  go_wp2_with fail
  refine (P3.out _ _ HR.out).mono ?_
  rintro e w4 ⟨rfl, hR, hg⟩
  replace HR := Lib.hid hR
  replace HB := Lib.hid (grown_bel HB.out hg hz (Nat.le_refl _))
  replace hz := HB.out.size
  clear hR hg
  go_wp2_with fail
  refine (P4.out _ _ HR.out).mono ?_
  rintro e w5 ⟨rfl, hR, hg⟩
  replace HR := Lib.hid hR
  replace HB := Lib.hid (grown_bel HB.out hg hz (Nat.le_refl _))
  replace hz := HB.out.size
  clear hR hg
  go_wp2_with fail
  refine (value_s HR.out).mono ?_
  rintro e w6 ⟨rfl, hg⟩
  replace HB := Lib.hid (HB.out.grown hg hz (by intro k e; cases e))
  clear hg
  have hv : Tk.val ⟨4, 12, 0, true⟩ = (12, 0) := rfl
  rw [hv]
  go_wp2
  go_ret
  exact ⟨rfl, HB.out⟩
theorem few_any (s : ByteArray) (n : Nat) (hn : n ≤ 100) (hs : s.size ≤ maxLen) (w : World) :
    Calls Try.prog 12 #[.string s, .int .i64 n] w fun e w' => ∃ t : ByteArray, e = .returned (.string t) ∧ t.size ≤ n ∧ w = w' := by
  unfold maxLen at hs
  by_cases h : n < s.size
  · have h1 : (n : Int) < (s.size : Int) := by omega
    go_enter Try.func12, Try.ntmps12
    go_wp2
    go_ret
    exact ⟨_, rfl, by simp; omega, rfl⟩
  · have h1 : ¬ (n : Int) < (s.size : Int) := by omega
    go_enter Try.func12, Try.ntmps12
    go_wp2
    go_ret
    exact ⟨_, rfl, by omega, rfl⟩
end Go.Proofs.Yteonfgphihacgaa
