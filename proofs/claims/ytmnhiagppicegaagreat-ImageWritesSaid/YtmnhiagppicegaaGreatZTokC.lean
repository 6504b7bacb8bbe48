/- A reader of a number by the document, over any memory. Condition: its greatest number fits. -/
import Derived.Test.YtmnhiagppicegaaGreatZgAA
namespace Go.Proofs.YtmnhiagppicegaaGreat
open Go.RowKit
set_option linter.unusedVariables false

/-- a reader by the document, as a value -/
def agS (k n m e : Int) : Value := .agg #[.int .i64 k, .int .i64 n, .int .i64 m, .int .i64 e]
def RpR (w : World) (k n m er t : Int) (e : Ending) (w' : World) : Prop :=
  e = .returned (.tuple #[agS k n m er, .int .i64 t]) ∧ Below w.heap.size w w'
set_option maxHeartbeats 1000000 in
theorem rp_over (n m er : Int) (c : Int) (w : World) :
    Calls Tryz.prog 115 #[agS 4 n m er, .int .u8 c] w (RpR w 4 n m er 1) := by
  unfold agS
  go_enter Tryz.func115, Tryz.ntmps115
  go_wp2
  go_returns
  exact ⟨rfl, by go_grown⟩
set_option maxHeartbeats 1000000 in
theorem rp_wrong (n m er : Int) (c : Int) (w : World) :
    Calls Tryz.prog 115 #[agS 5 n m er, .int .u8 c] w (RpR w 5 n m er 2) := by
  unfold agS
  go_enter Tryz.func115, Tryz.ntmps115
  go_wp2
  go_returns
  exact ⟨rfl, by go_grown⟩
set_option maxHeartbeats 1000000 in
theorem rp_remA10 (n m er : Int) (w : World) :
    Calls Tryz.prog 115 #[agS 1 n m er, .int .u8 10] w (RpR w 0 n m er 0) := by
  unfold agS
  go_enter Tryz.func115, Tryz.ntmps115
  go_wp2
  go_returns
  exact ⟨rfl, by go_grown⟩
set_option maxHeartbeats 1000000 in
theorem rp_remA13 (n m er : Int) (w : World) :
    Calls Tryz.prog 115 #[agS 1 n m er, .int .u8 13] w (RpR w 0 n m er 0) := by
  unfold agS
  go_enter Tryz.func115, Tryz.ntmps115
  go_wp2
  go_returns
  exact ⟨rfl, by go_grown⟩
set_option maxHeartbeats 1000000 in
theorem rp_remA_not (n m er : Int) (c : Int) (c0 : 0 ≤ c) (c1 : c ≤ 255) (h10 : (c == 10) = false) (h13 : (c == 13) = false) (w : World) :
    Calls Tryz.prog 115 #[agS 1 n m er, .int .u8 c] w (RpR w 1 n m er 0) := by
  unfold agS
  go_enter Tryz.func115, Tryz.ntmps115
  go_wp2
  go_returns
  exact ⟨rfl, by go_grown⟩
set_option maxHeartbeats 1000000 in
theorem rp_remB10 (n m er : Int) (w : World) :
    Calls Tryz.prog 115 #[agS 3 n m er, .int .u8 10] w (RpR w 4 n m 0 1) := by
  unfold agS
  go_enter Tryz.func115, Tryz.ntmps115
  go_wp2
  go_returns
  exact ⟨rfl, by go_grown⟩
set_option maxHeartbeats 1000000 in
theorem rp_remB13 (n m er : Int) (w : World) :
    Calls Tryz.prog 115 #[agS 3 n m er, .int .u8 13] w (RpR w 4 n m 0 1) := by
  unfold agS
  go_enter Tryz.func115, Tryz.ntmps115
  go_wp2
  go_returns
  exact ⟨rfl, by go_grown⟩
set_option maxHeartbeats 1000000 in
theorem rp_remB_not (n m er : Int) (c : Int) (c0 : 0 ≤ c) (c1 : c ≤ 255) (h10 : (c == 10) = false) (h13 : (c == 13) = false) (w : World) :
    Calls Tryz.prog 115 #[agS 3 n m er, .int .u8 c] w (RpR w 3 n m er 0) := by
  unfold agS
  go_enter Tryz.func115, Tryz.ntmps115
  go_wp2
  go_returns
  exact ⟨rfl, by go_grown⟩
set_option maxHeartbeats 1000000 in
theorem rp_a35 (n m er : Int) (w : World) :
    Calls Tryz.prog 115 #[agS 0 n m er, .int .u8 35] w (RpR w 1 n m er 0) := by
  unfold agS
  go_enter Tryz.func115, Tryz.ntmps115
  go_wp2
  go_returns
  exact ⟨rfl, by go_grown⟩
set_option maxHeartbeats 1000000 in
theorem rp_a10 (n m er : Int) (w : World) :
    Calls Tryz.prog 115 #[agS 0 n m er, .int .u8 10] w (RpR w 0 n m er 0) := by
  unfold agS
  have hb : Tk.blank 10 = true := by decide
  have HB : Hid (∀ W, Calls Tryz.prog 68 #[.int .u8 10] W fun e w' => e = .returned (.bool true) ∧ W = w') := fun W => by have := refBlank_any 10 (by omega) (by omega) W; rw [hb] at this; exact this
  clear hb
  go_enter Tryz.func115, Tryz.ntmps115
  go_wp2_with (first | (go_at_call 68; refine (HB.out _).mono ?_; rintro e w1 ⟨rfl, rfl⟩))
  go_returns
  exact ⟨rfl, by go_grown⟩
set_option maxHeartbeats 1000000 in
theorem rp_a13 (n m er : Int) (w : World) :
    Calls Tryz.prog 115 #[agS 0 n m er, .int .u8 13] w (RpR w 0 n m er 0) := by
  unfold agS
  have hb : Tk.blank 13 = true := by decide
  have HB : Hid (∀ W, Calls Tryz.prog 68 #[.int .u8 13] W fun e w' => e = .returned (.bool true) ∧ W = w') := fun W => by have := refBlank_any 13 (by omega) (by omega) W; rw [hb] at this; exact this
  clear hb
  go_enter Tryz.func115, Tryz.ntmps115
  go_wp2_with (first | (go_at_call 68; refine (HB.out _).mono ?_; rintro e w1 ⟨rfl, rfl⟩))
  go_returns
  exact ⟨rfl, by go_grown⟩
set_option maxHeartbeats 1000000 in
theorem rp_a_blank (n m er : Int) (c : Int) (c0 : 0 ≤ c) (c1 : c ≤ 255) (h10 : (c == 10) = false) (h13 : (c == 13) = false) (h35 : (c == 35) = false) (hb : Tk.blank c = true) (w : World) :
    Calls Tryz.prog 115 #[agS 0 n m er, .int .u8 c] w (RpR w 0 n m er 0) := by
  unfold agS
  have HB : Hid (∀ W, Calls Tryz.prog 68 #[.int .u8 c] W fun e w' => e = .returned (.bool true) ∧ W = w') := fun W => by have := refBlank_any c (by omega) (by omega) W; rw [hb] at this; exact this
  clear hb
  go_enter Tryz.func115, Tryz.ntmps115
  go_wp2_with (first | (go_at_call 68; refine (HB.out _).mono ?_; rintro e w1 ⟨rfl, rfl⟩))
  go_returns
  exact ⟨rfl, by go_grown⟩
set_option maxHeartbeats 1000000 in
theorem rp_a_yes (n m er : Int) (c : Int) (c0 : 0 ≤ c) (c1 : c ≤ 255) (h10 : (c == 10) = false) (h13 : (c == 13) = false) (h35 : (c == 35) = false) (hb : Tk.blank c = false) (n0 : 0 ≤ n) (n1 : n ≤ m) (m1 : m ≤ 4611686018427387903) (v : Int) (hs : Nu.stepV n c m = (v, 0)) (w : World) :
    Calls Tryz.prog 115 #[agS 0 n m er, .int .u8 c] w (RpR w 2 v m er 0) := by
  unfold agS
  have HB : Hid (∀ W, Calls Tryz.prog 68 #[.int .u8 c] W fun e w' => e = .returned (.bool false) ∧ W = w') := fun W => by have := refBlank_any c (by omega) (by omega) W; rw [hb] at this; exact this
  have HS : Hid (∀ W, Calls Tryz.prog 155 #[.int .i64 n, .int .u8 c, .int .i64 m] W fun r w' => r = .returned (.tuple #[.int .i64 v, .int .i64 0]) ∧ W = w') := fun W => refStep_two n c m n0 n1 m1 c0 c1 v 0 hs W
  clear hb hs n0 n1 m1
  go_enter Tryz.func115, Tryz.ntmps115
  go_wp2_with (first | (go_at_call 68; refine (HB.out _).mono ?_; rintro e w1 ⟨rfl, rfl⟩) | (go_at_call 155; refine (HS.out _).mono ?_; rintro e w1 ⟨rfl, rfl⟩))
  go_returns
  exact ⟨rfl, by go_grown⟩
set_option maxHeartbeats 1000000 in
theorem rp_a_no (n m er : Int) (c : Int) (c0 : 0 ≤ c) (c1 : c ≤ 255) (h10 : (c == 10) = false) (h13 : (c == 13) = false) (h35 : (c == 35) = false) (hb : Tk.blank c = false) (n0 : 0 ≤ n) (n1 : n ≤ m) (m1 : m ≤ 4611686018427387903) (v f : Int) (hs : Nu.stepV n c m = (v, f)) (hf : f ≠ 0) (w : World) :
    Calls Tryz.prog 115 #[agS 0 n m er, .int .u8 c] w (RpR w 5 0 m f 2) := by
  unfold agS
  have HB : Hid (∀ W, Calls Tryz.prog 68 #[.int .u8 c] W fun e w' => e = .returned (.bool false) ∧ W = w') := fun W => by have := refBlank_any c (by omega) (by omega) W; rw [hb] at this; exact this
  have HS : Hid (∀ W, Calls Tryz.prog 155 #[.int .i64 n, .int .u8 c, .int .i64 m] W fun r w' => r = .returned (.tuple #[.int .i64 v, .int .i64 f]) ∧ W = w') := fun W => refStep_two n c m n0 n1 m1 c0 c1 v f hs W
  have kf : (f != 0) = true := by simpa using hf
  clear hb hs hf n0 n1 m1
  go_enter Tryz.func115, Tryz.ntmps115
  go_wp2_with (first | (go_at_call 68; refine (HB.out _).mono ?_; rintro e w1 ⟨rfl, rfl⟩) | (go_at_call 155; refine (HS.out _).mono ?_; rintro e w1 ⟨rfl, rfl⟩))
  go_returns
  exact ⟨rfl, by go_grown⟩
set_option maxHeartbeats 1000000 in
theorem rp_d35 (n m er : Int) (w : World) :
    Calls Tryz.prog 115 #[agS 2 n m er, .int .u8 35] w (RpR w 3 n m er 0) := by
  unfold agS
  go_enter Tryz.func115, Tryz.ntmps115
  go_wp2
  go_returns
  exact ⟨rfl, by go_grown⟩
set_option maxHeartbeats 1000000 in
theorem rp_d10 (n m er : Int) (w : World) :
    Calls Tryz.prog 115 #[agS 2 n m er, .int .u8 10] w (RpR w 4 n m 0 1) := by
  unfold agS
  have hb : Tk.blank 10 = true := by decide
  have HB : Hid (∀ W, Calls Tryz.prog 68 #[.int .u8 10] W fun e w' => e = .returned (.bool true) ∧ W = w') := fun W => by have := refBlank_any 10 (by omega) (by omega) W; rw [hb] at this; exact this
  clear hb
  go_enter Tryz.func115, Tryz.ntmps115
  go_wp2_with (first | (go_at_call 68; refine (HB.out _).mono ?_; rintro e w1 ⟨rfl, rfl⟩))
  go_returns
  exact ⟨rfl, by go_grown⟩
set_option maxHeartbeats 1000000 in
theorem rp_d13 (n m er : Int) (w : World) :
    Calls Tryz.prog 115 #[agS 2 n m er, .int .u8 13] w (RpR w 4 n m 0 1) := by
  unfold agS
  have hb : Tk.blank 13 = true := by decide
  have HB : Hid (∀ W, Calls Tryz.prog 68 #[.int .u8 13] W fun e w' => e = .returned (.bool true) ∧ W = w') := fun W => by have := refBlank_any 13 (by omega) (by omega) W; rw [hb] at this; exact this
  clear hb
  go_enter Tryz.func115, Tryz.ntmps115
  go_wp2_with (first | (go_at_call 68; refine (HB.out _).mono ?_; rintro e w1 ⟨rfl, rfl⟩))
  go_returns
  exact ⟨rfl, by go_grown⟩
set_option maxHeartbeats 1000000 in
theorem rp_d_blank (n m er : Int) (c : Int) (c0 : 0 ≤ c) (c1 : c ≤ 255) (h10 : (c == 10) = false) (h13 : (c == 13) = false) (h35 : (c == 35) = false) (hb : Tk.blank c = true) (w : World) :
    Calls Tryz.prog 115 #[agS 2 n m er, .int .u8 c] w (RpR w 4 n m 0 1) := by
  unfold agS
  have HB : Hid (∀ W, Calls Tryz.prog 68 #[.int .u8 c] W fun e w' => e = .returned (.bool true) ∧ W = w') := fun W => by have := refBlank_any c (by omega) (by omega) W; rw [hb] at this; exact this
  clear hb
  go_enter Tryz.func115, Tryz.ntmps115
  go_wp2_with (first | (go_at_call 68; refine (HB.out _).mono ?_; rintro e w1 ⟨rfl, rfl⟩))
  go_returns
  exact ⟨rfl, by go_grown⟩
set_option maxHeartbeats 1000000 in
theorem rp_d_yes (n m er : Int) (c : Int) (c0 : 0 ≤ c) (c1 : c ≤ 255) (h10 : (c == 10) = false) (h13 : (c == 13) = false) (h35 : (c == 35) = false) (hb : Tk.blank c = false) (n0 : 0 ≤ n) (n1 : n ≤ m) (m1 : m ≤ 4611686018427387903) (v : Int) (hs : Nu.stepV n c m = (v, 0)) (w : World) :
    Calls Tryz.prog 115 #[agS 2 n m er, .int .u8 c] w (RpR w 2 v m er 0) := by
  unfold agS
  have HB : Hid (∀ W, Calls Tryz.prog 68 #[.int .u8 c] W fun e w' => e = .returned (.bool false) ∧ W = w') := fun W => by have := refBlank_any c (by omega) (by omega) W; rw [hb] at this; exact this
  have HS : Hid (∀ W, Calls Tryz.prog 155 #[.int .i64 n, .int .u8 c, .int .i64 m] W fun r w' => r = .returned (.tuple #[.int .i64 v, .int .i64 0]) ∧ W = w') := fun W => refStep_two n c m n0 n1 m1 c0 c1 v 0 hs W
  clear hb hs n0 n1 m1
  go_enter Tryz.func115, Tryz.ntmps115
  go_wp2_with (first | (go_at_call 68; refine (HB.out _).mono ?_; rintro e w1 ⟨rfl, rfl⟩) | (go_at_call 155; refine (HS.out _).mono ?_; rintro e w1 ⟨rfl, rfl⟩))
  go_returns
  exact ⟨rfl, by go_grown⟩
set_option maxHeartbeats 1000000 in
theorem rp_d_no (n m er : Int) (c : Int) (c0 : 0 ≤ c) (c1 : c ≤ 255) (h10 : (c == 10) = false) (h13 : (c == 13) = false) (h35 : (c == 35) = false) (hb : Tk.blank c = false) (n0 : 0 ≤ n) (n1 : n ≤ m) (m1 : m ≤ 4611686018427387903) (v f : Int) (hs : Nu.stepV n c m = (v, f)) (hf : f ≠ 0) (w : World) :
    Calls Tryz.prog 115 #[agS 2 n m er, .int .u8 c] w (RpR w 5 0 m f 2) := by
  unfold agS
  have HB : Hid (∀ W, Calls Tryz.prog 68 #[.int .u8 c] W fun e w' => e = .returned (.bool false) ∧ W = w') := fun W => by have := refBlank_any c (by omega) (by omega) W; rw [hb] at this; exact this
  have HS : Hid (∀ W, Calls Tryz.prog 155 #[.int .i64 n, .int .u8 c, .int .i64 m] W fun r w' => r = .returned (.tuple #[.int .i64 v, .int .i64 f]) ∧ W = w') := fun W => refStep_two n c m n0 n1 m1 c0 c1 v f hs W
  have kf : (f != 0) = true := by simpa using hf
  clear hb hs hf n0 n1 m1
  go_enter Tryz.func115, Tryz.ntmps115
  go_wp2_with (first | (go_at_call 68; refine (HB.out _).mono ?_; rintro e w1 ⟨rfl, rfl⟩) | (go_at_call 155; refine (HS.out _).mono ?_; rintro e w1 ⟨rfl, rfl⟩))
  go_returns
  exact ⟨rfl, by go_grown⟩
end Go.Proofs.YtmnhiagppicegaaGreat
