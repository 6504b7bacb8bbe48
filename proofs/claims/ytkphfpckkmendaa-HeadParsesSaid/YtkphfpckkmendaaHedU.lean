/- A text that is wrong, or ends, ahead of its numbers, by the document, over any memory. Condition: the text is short. -/
import Derived.Test.YtkphfpckkmendaaHedV
import Derived.Test.YtkphfpckkmendaaHedJ
namespace Go.Proofs.Ytkphfpckkmendaa
open Go.RowKit
set_option linter.unusedVariables false

theorem Hj.zero_at (w : World) (o : Obj) : Hb ((w.alloc o).alloc (.cells #[.int .i64 0, .int .i64 0, .int .i64 0, .int .i64 0] 25)) (w.heap.size + 1) 25 Hd.none := by
  have h := Hb.new (w.alloc o) 25 Hd.none
  rw [World.size_alloc] at h; exact h
theorem Hj.zero_bel (w : World) (o p : Obj) : Below w.heap.size w ((w.alloc o).alloc p) := ((Below.refl _ w).alloc (Nat.le_refl _) o).alloc (by simp) p
set_option maxRecDepth 100000 in
set_option maxHeartbeats 2000000 in
theorem refParse_early (s : ByteArray) (hs : s.size ≤ 100000) (a b c : Int) (w : World)
    (h : ¬ ((h : 2 < s.size) → (s[0].toNat : Int) = 80 ∧ (49 ≤ (s[1].toNat : Int) ∧ (s[1].toNat : Int) ≤ 54) ∧ (Tk.blank (s[2].toNat : Int) = true ∨ (s[2].toNat : Int) = 35)) ∨ s.size ≤ 2) :
    Calls Try.prog 12 #[.string s, .agg #[.int .i64 a, .int .i64 b, .int .i64 c]] w (RParR s (Hd.limits a b c) w) := by
  have BZ := Lib.hid (Hj.zero_bel w (.cells #[.int .i64 a, .int .i64 b, .int .i64 c] 23) (.cells #[.int .i64 0, .int .i64 0, .int .i64 0, .int .i64 0] 25))
  have Z0 := Lib.hid (Hj.zero_at w (.cells #[.int .i64 a, .int .i64 b, .int .i64 c] 23))
  generalize hL : Hd.limits a b c = L
  by_cases z0 : s.size = 0
  · have HV : Hid (Hd.parseV L (bytesOf s) = (Hd.none, ((s.size : Nat) : Int), 6)) := by
      show _ = _
      rw [show bytesOf s = [] from List.eq_nil_of_length_eq_zero (by rw [bytesOf_length]; exact z0), z0]; rfl
    have g1 : ¬ (0 : Int) < (s.size : Int) := by omega
    have g2 : ¬ (1 : Int) < (s.size : Int) := by omega
    have g3 : ¬ (2 : Int) < (s.size : Int) := by omega
    have g4 : (s.size : Int) < 3 := by omega
    clear h z0 hL
    go_enter Try.func12, Try.ntmps12
    go_wp2
    refine bodyPost_ret (Hj.ret3 Try.results12 _ _ _ _ rfl (load_rh Z0.out)) rfl ?_
    exact rpar_fin HV.out (by go_num) rfl BZ.out
  have p0 : 0 < s.size := by omega
  have q0 := bytes_at0 p0
  have g1 : (0 : Int) < (s.size : Int) := by omega
  by_cases z1 : ¬ (s[0].toNat : Int) = 80
  · have HV : Hid (Hd.parseV L (bytesOf s) = (Hd.none, 1, 2)) := by show _ = _; rw [q0, Hd.pv_first z1]
    have k1 : ((s[0].toNat : Int) != 80) = true := by simpa using z1
    clear h z0 hL q0 z1
    go_enter Try.func12, Try.ntmps12
    go_wp2
    refine bodyPost_ret (Hj.ret3 Try.results12 _ _ _ _ rfl (load_rh Z0.out)) rfl ?_
    exact rpar_fin HV.out (by go_num) rfl BZ.out
  replace z1 := Classical.not_not.1 z1
  have k1 : ((s[0].toNat : Int) != 80) = false := by simp [z1]
  by_cases z2 : s.size = 1
  · have HV : Hid (Hd.parseV L (bytesOf s) = (Hd.none, ((s.size : Nat) : Int), 6)) := by
      show _ = _
      rw [q0, z1, List.drop_eq_nil_of_le (by rw [bytesOf_length]; omega), Hd.pv_one, z2]; rfl
    have g2 : ¬ (1 : Int) < (s.size : Int) := by omega
    have g3 : ¬ (2 : Int) < (s.size : Int) := by omega
    have g4 : (s.size : Int) < 3 := by omega
    clear h z0 hL q0 z1 z2
    go_enter Try.func12, Try.ntmps12
    go_wp2
    refine bodyPost_ret (Hj.ret3 Try.results12 _ _ _ _ rfl (load_rh Z0.out)) rfl ?_
    exact rpar_fin HV.out (by go_num) rfl BZ.out
  have p1 : 1 < s.size := by omega
  have q1 := bytes_at1 p1
  have g2 : (1 : Int) < (s.size : Int) := by omega
  rw [q1, z1] at q0
  by_cases z3 : ¬ (49 ≤ (s[1].toNat : Int) ∧ (s[1].toNat : Int) ≤ 54)
  · have HV : Hid (Hd.parseV L (bytesOf s) = (Hd.none, 2, 2)) := by show _ = _; rw [q0, Hd.pv_second z3]
    by_cases y1 : (s[1].toNat : Int) < 49
    · clear h z0 hL q0 z1 q1 z3
      go_enter Try.func12, Try.ntmps12
      go_wp2
      refine bodyPost_ret (Hj.ret3 Try.results12 _ _ _ _ rfl (load_rh Z0.out)) rfl ?_
      exact rpar_fin HV.out (by go_num) rfl BZ.out
    · have y2 : 54 < (s[1].toNat : Int) := by omega
      clear h z0 hL q0 z1 q1 z3
      go_enter Try.func12, Try.ntmps12
      go_wp2
      refine bodyPost_ret (Hj.ret3 Try.results12 _ _ _ _ rfl (load_rh Z0.out)) rfl ?_
      exact rpar_fin HV.out (by go_num) rfl BZ.out
  replace z3 := Classical.not_not.1 z3
  have k2 : ¬ (s[1].toNat : Int) < 49 := by omega
  have k3 : ¬ 54 < (s[1].toNat : Int) := by omega
  by_cases z4 : s.size = 2
  · have HV : Hid (Hd.parseV L (bytesOf s) = (Hd.none, ((s.size : Nat) : Int), 6)) := by
      show _ = _
      rw [q0, List.drop_eq_nil_of_le (by rw [bytesOf_length]; omega), Hd.pv_two z3, z4]; rfl
    have g3 : ¬ (2 : Int) < (s.size : Int) := by omega
    have g4 : (s.size : Int) < 3 := by omega
    clear h z0 hL q0 z1 q1 z3 z4
    go_enter Try.func12, Try.ntmps12
    go_wp2
    refine bodyPost_ret (Hj.ret3 Try.results12 _ _ _ _ rfl (load_rh Z0.out)) rfl ?_
    exact rpar_fin HV.out (by go_num) rfl BZ.out
  have p2 : 2 < s.size := by omega
  have q2 := bytes_at2 p2
  have g3 : (2 : Int) < (s.size : Int) := by omega
  have hd : ¬ (Tk.blank (s[2].toNat : Int) = true ∨ (s[2].toNat : Int) = 35) := fun hd => by
    rcases h with h | h
    · exact h (fun _ => ⟨z1, z3, hd⟩)
    · omega
  rw [q2] at q0
  have HV : Hid (Hd.parseV L (bytesOf s) = (Hd.none, 3, 3)) := by show _ = _; rw [q0, Hd.pv_third z3 hd]
  have hb : Tk.blank (s[2].toNat : Int) = false := by
    cases hb : Tk.blank (s[2].toNat : Int) with
    | true => exact absurd (.inl hb) hd
    | false => rfl
  have h35 : ((s[2].toNat : Int) != 35) = true := by simp; intro e; exact hd (.inr (by omega))
  have HBL : Hid (∀ W, Calls Try.prog 21 #[.int .u8 (s[2].toNat : Int)] W fun e w' => e = .returned (.bool false) ∧ W = w') := fun W => by have := refBlank_any (s[2].toNat : Int) (by omega) (by have := s[2].toNat_lt; omega) W; rw [hb] at this; exact this
  clear h z0 hL q0 z1 q1 z3 z4 q2 hd hb
  go_enter Try.func12, Try.ntmps12
  go_wp2_with (go_at_call 21; refine (HBL.out _).mono ?_; rintro e w9 ⟨rfl, rfl⟩)
  refine bodyPost_ret (Hj.ret3 Try.results12 _ _ _ _ rfl (load_rh Z0.out)) rfl ?_
  exact rpar_fin HV.out (by go_num) rfl BZ.out
end Go.Proofs.Ytkphfpckkmendaa
