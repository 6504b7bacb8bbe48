/- A reader of a number is told a byte, over any memory. Condition: its greatest number fits. -/
import Derived.Test.YtkphfpckkmendaaTokA
namespace Go.Proofs.Ytkphfpckkmendaa
open Go.RowKit
set_option linter.unusedVariables false

/-- what a part of a reader hands back, and what its block holds then -/
def PtR (w : World) (b : Nat) (m v : Int) (g : Bool) (f : Int) (x : Value) (t : Int) (e : Ending) (w' : World) : Prop :=
  e = .returned (.int .i64 t) ∧ RdC w' b m v g 0 f x ∧ w.grownBy w' (some b)
set_option maxHeartbeats 1000000 in
theorem ahead_blank (w : World) (b : Nat) (m v : Int) (g : Bool) (f : Int) (c : Int) (c0 : 0 ≤ c) (c1 : c ≤ 255) (hb : Tk.blank c = true) (h : RdC w b m v g 0 f (nxA b)) :
    Calls Try.prog 41 #[.pointer (some ⟨b, 0, none⟩), .int .u8 c] w (PtR w b m v g f (nxA b) 0) := by
  have HB : Hid (∀ W, Calls Try.prog 34 #[.int .u8 c] W fun e w' => e = .returned (.bool true) ∧ W = w') := fun W => by have := blank_any c c0 c1 W; rw [hb] at this; exact this
  clear hb
  go_enter Try.func41, Try.ntmps41
  go_wp2_with (go_at_call 34; refine (HB.out _).mono ?_; rintro e w1 ⟨rfl, rfl⟩)
  go_ret
  exact ⟨rfl, h, .refl _ _⟩
set_option maxHeartbeats 1000000 in
theorem ahead_rem (w : World) (b : Nat) (m v : Int) (g : Bool) (f : Int) (c : Int) (c0 : 0 ≤ c) (c1 : c ≤ 255) (hc : c = 35) (h : RdC w b m v g 0 f (nxA b)) :
    Calls Try.prog 41 #[.pointer (some ⟨b, 0, none⟩), .int .u8 c] w (PtR w b m v g f (nxR b) 0) := by
  subst hc
  have hb : Tk.blank 35 = false := by decide
  have HB : Hid (∀ W, Calls Try.prog 34 #[.int .u8 35] W fun e w' => e = .returned (.bool false) ∧ W = w') := fun W => by have := blank_any 35 c0 c1 W; rw [hb] at this; exact this
  have hc5 := h.c5
  have hf5 := h.fr 5
  clear hb
  go_enter Try.func41, Try.ntmps41
  go_wp2_with (go_at_call 34; refine (HB.out _).mono ?_; rintro e w1 ⟨rfl, rfl⟩)
  go_ret
  exact ⟨rfl, h.put5 _, grown_set _ _ _ _⟩
set_option maxHeartbeats 1000000 in
theorem ahead_yes (w : World) (b : Nat) (m v : Int) (g : Bool) (f : Int) (c : Int) (c0 : 0 ≤ c) (c1 : c ≤ 255) (hb : Tk.blank c = false) (hc : ¬ c = 35) (v0 : 0 ≤ v) (v1 : v ≤ m) (m1 : m ≤ 4611686018427387903) (n : Int) (hs : Nu.stepV v c m = (n, 0)) (h : RdC w b m v g 0 f (nxA b)) :
    Calls Try.prog 41 #[.pointer (some ⟨b, 0, none⟩), .int .u8 c] w (PtR w b m n true f (nxD b) 0) := by
  have HB : Hid (∀ W, Calls Try.prog 34 #[.int .u8 c] W fun e w' => e = .returned (.bool false) ∧ W = w') := fun W => by have := blank_any c c0 c1 W; rw [hb] at this; exact this
  have HT : Hid (∀ W, RdC W b m v g 0 f (nxD b) → Calls Try.prog 45 #[.pointer (some ⟨b, 0, none⟩), .int .u8 c] W (PtR W b m n true f (nxD b) 0)) := fun W hr => (take_yes W b m v g 0 f (nxD b) hr v0 v1 m1 c c0 c1 n hs).mono fun _ _ hh => hh
  have hk : (c == 35) = false := by simpa using hc
  have hc5 := h.c5
  have hf5 := h.fr 5
  clear hb hc v0 v1 m1 hs
  go_enter Try.func41, Try.ntmps41
  go_wp2_with (first | (go_at_call 34; refine (HB.out _).mono ?_; rintro e w1 ⟨rfl, rfl⟩) | (go_at_call 45; refine (HT.out _ (h.put5 _)).mono ?_; rintro e w2 ⟨rfl, h2, hg2⟩))
  go_ret
  exact ⟨rfl, h2, (grown_set _ _ _ _).trans hg2⟩
set_option maxHeartbeats 1000000 in
theorem digit_yes (w : World) (b : Nat) (m v : Int) (g : Bool) (f : Int) (c : Int) (c0 : 0 ≤ c) (c1 : c ≤ 255) (hb : Tk.blank c = false) (hc : ¬ c = 35) (v0 : 0 ≤ v) (v1 : v ≤ m) (m1 : m ≤ 4611686018427387903) (n : Int) (hs : Nu.stepV v c m = (n, 0)) (h : RdC w b m v g 0 f (nxD b)) :
    Calls Try.prog 44 #[.pointer (some ⟨b, 0, none⟩), .int .u8 c] w (PtR w b m n true f (nxD b) 0) := by
  have HB : Hid (∀ W, Calls Try.prog 34 #[.int .u8 c] W fun e w' => e = .returned (.bool false) ∧ W = w') := fun W => by have := blank_any c c0 c1 W; rw [hb] at this; exact this
  have HT : Hid (∀ W, RdC W b m v g 0 f (nxD b) → Calls Try.prog 45 #[.pointer (some ⟨b, 0, none⟩), .int .u8 c] W (PtR W b m n true f (nxD b) 0)) := fun W hr => (take_yes W b m v g 0 f (nxD b) hr v0 v1 m1 c c0 c1 n hs).mono fun _ _ hh => hh
  have hk : (c == 35) = false := by simpa using hc
  clear hb hc v0 v1 m1 hs
  go_enter Try.func44, Try.ntmps44
  go_wp2_with (first | (go_at_call 34; refine (HB.out _).mono ?_; rintro e w1 ⟨rfl, rfl⟩) | (go_at_call 45; refine (HT.out _ h).mono ?_; rintro e w2 ⟨rfl, h2, hg2⟩))
  go_ret
  exact ⟨rfl, h2, hg2⟩
set_option maxHeartbeats 1000000 in
theorem ahead_no (w : World) (b : Nat) (m v : Int) (g : Bool) (f : Int) (c : Int) (c0 : 0 ≤ c) (c1 : c ≤ 255) (hb : Tk.blank c = false) (hc : ¬ c = 35) (v0 : 0 ≤ v) (v1 : v ≤ m) (m1 : m ≤ 4611686018427387903) (n e : Int) (hs : Nu.stepV v c m = (n, e)) (he : e ≠ 0) (h : RdC w b m v g 0 f (nxA b)) :
    Calls Try.prog 41 #[.pointer (some ⟨b, 0, none⟩), .int .u8 c] w (PtR w b m v g e (nxD b) 2) := by
  have HB : Hid (∀ W, Calls Try.prog 34 #[.int .u8 c] W fun e w' => e = .returned (.bool false) ∧ W = w') := fun W => by have := blank_any c c0 c1 W; rw [hb] at this; exact this
  have HT : Hid (∀ W, RdC W b m v g 0 f (nxD b) → Calls Try.prog 45 #[.pointer (some ⟨b, 0, none⟩), .int .u8 c] W (PtR W b m v g e (nxD b) 2)) := fun W hr => (take_no W b m v g 0 f (nxD b) hr v0 v1 m1 c c0 c1 n e hs he).mono fun _ _ hh => hh
  have hk : (c == 35) = false := by simpa using hc
  have hc5 := h.c5
  have hf5 := h.fr 5
  clear hb hc v0 v1 m1 hs he
  go_enter Try.func41, Try.ntmps41
  go_wp2_with (first | (go_at_call 34; refine (HB.out _).mono ?_; rintro e w1 ⟨rfl, rfl⟩) | (go_at_call 45; refine (HT.out _ (h.put5 _)).mono ?_; rintro e w2 ⟨rfl, h2, hg2⟩))
  go_ret
  exact ⟨rfl, h2, (grown_set _ _ _ _).trans hg2⟩
set_option maxHeartbeats 1000000 in
theorem digit_no (w : World) (b : Nat) (m v : Int) (g : Bool) (f : Int) (c : Int) (c0 : 0 ≤ c) (c1 : c ≤ 255) (hb : Tk.blank c = false) (hc : ¬ c = 35) (v0 : 0 ≤ v) (v1 : v ≤ m) (m1 : m ≤ 4611686018427387903) (n e : Int) (hs : Nu.stepV v c m = (n, e)) (he : e ≠ 0) (h : RdC w b m v g 0 f (nxD b)) :
    Calls Try.prog 44 #[.pointer (some ⟨b, 0, none⟩), .int .u8 c] w (PtR w b m v g e (nxD b) 2) := by
  have HB : Hid (∀ W, Calls Try.prog 34 #[.int .u8 c] W fun e w' => e = .returned (.bool false) ∧ W = w') := fun W => by have := blank_any c c0 c1 W; rw [hb] at this; exact this
  have HT : Hid (∀ W, RdC W b m v g 0 f (nxD b) → Calls Try.prog 45 #[.pointer (some ⟨b, 0, none⟩), .int .u8 c] W (PtR W b m v g e (nxD b) 2)) := fun W hr => (take_no W b m v g 0 f (nxD b) hr v0 v1 m1 c c0 c1 n e hs he).mono fun _ _ hh => hh
  have hk : (c == 35) = false := by simpa using hc
  clear hb hc v0 v1 m1 hs he
  go_enter Try.func44, Try.ntmps44
  go_wp2_with (first | (go_at_call 34; refine (HB.out _).mono ?_; rintro e w1 ⟨rfl, rfl⟩) | (go_at_call 45; refine (HT.out _ h).mono ?_; rintro e w2 ⟨rfl, h2, hg2⟩))
  go_ret
  exact ⟨rfl, h2, hg2⟩
set_option maxHeartbeats 1000000 in
theorem digit_blank (w : World) (b : Nat) (m v : Int) (g : Bool) (f : Int) (c : Int) (c0 : 0 ≤ c) (c1 : c ≤ 255) (hb : Tk.blank c = true) (h : RdC w b m v g 0 f (nxD b)) :
    Calls Try.prog 44 #[.pointer (some ⟨b, 0, none⟩), .int .u8 c] w (PtR w b m v g f (nxD b) 1) := by
  have HB : Hid (∀ W, Calls Try.prog 34 #[.int .u8 c] W fun e w' => e = .returned (.bool true) ∧ W = w') := fun W => by have := blank_any c c0 c1 W; rw [hb] at this; exact this
  clear hb
  go_enter Try.func44, Try.ntmps44
  go_wp2_with (go_at_call 34; refine (HB.out _).mono ?_; rintro e w1 ⟨rfl, rfl⟩)
  go_ret
  exact ⟨rfl, h, .refl _ _⟩
set_option maxHeartbeats 1000000 in
theorem digit_rem (w : World) (b : Nat) (m v : Int) (g : Bool) (f : Int) (c : Int) (c0 : 0 ≤ c) (c1 : c ≤ 255) (hc : c = 35) (h : RdC w b m v g 0 f (nxD b)) :
    Calls Try.prog 44 #[.pointer (some ⟨b, 0, none⟩), .int .u8 c] w (PtR w b m v g f (nxB b) 0) := by
  subst hc
  have hb : Tk.blank 35 = false := by decide
  have HB : Hid (∀ W, Calls Try.prog 34 #[.int .u8 35] W fun e w' => e = .returned (.bool false) ∧ W = w') := fun W => by have := blank_any 35 c0 c1 W; rw [hb] at this; exact this
  have hc5 := h.c5
  have hf5 := h.fr 5
  clear hb
  go_enter Try.func44, Try.ntmps44
  go_wp2_with (go_at_call 34; refine (HB.out _).mono ?_; rintro e w1 ⟨rfl, rfl⟩)
  go_ret
  exact ⟨rfl, h.put5 _, grown_set _ _ _ _⟩
set_option maxHeartbeats 1000000 in
theorem remA_line (w : World) (b : Nat) (m v : Int) (g : Bool) (f : Int) (c : Int) (c0 : 0 ≤ c) (c1 : c ≤ 255) (hb : Tk.line c = true) (h : RdC w b m v g 0 f (nxR b)) :
    Calls Try.prog 43 #[.pointer (some ⟨b, 0, none⟩), .int .u8 c] w (PtR w b m v g f (nxA b) 0) := by
  have HB : Hid (∀ W, Calls Try.prog 46 #[.int .u8 c] W fun e w' => e = .returned (.bool true) ∧ W = w') := fun W => by have := ends_any c c0 c1 W; rw [hb] at this; exact this
  have hc5 := h.c5
  have hf5 := h.fr 5
  clear hb
  go_enter Try.func43, Try.ntmps43
  go_wp2_with (go_at_call 46; refine (HB.out _).mono ?_; rintro e w1 ⟨rfl, rfl⟩)
  go_ret
  exact ⟨rfl, h.put5 _, grown_set _ _ _ _⟩
set_option maxHeartbeats 1000000 in
theorem remA_not (w : World) (b : Nat) (m v : Int) (g : Bool) (f : Int) (c : Int) (c0 : 0 ≤ c) (c1 : c ≤ 255) (hb : Tk.line c = false) (h : RdC w b m v g 0 f (nxR b)) :
    Calls Try.prog 43 #[.pointer (some ⟨b, 0, none⟩), .int .u8 c] w (PtR w b m v g f (nxR b) 0) := by
  have HB : Hid (∀ W, Calls Try.prog 46 #[.int .u8 c] W fun e w' => e = .returned (.bool false) ∧ W = w') := fun W => by have := ends_any c c0 c1 W; rw [hb] at this; exact this
  clear hb
  go_enter Try.func43, Try.ntmps43
  go_wp2_with (go_at_call 46; refine (HB.out _).mono ?_; rintro e w1 ⟨rfl, rfl⟩)
  go_ret
  exact ⟨rfl, h, .refl _ _⟩
set_option maxHeartbeats 1000000 in
theorem remB_line (w : World) (b : Nat) (m v : Int) (g : Bool) (f : Int) (c : Int) (c0 : 0 ≤ c) (c1 : c ≤ 255) (hb : Tk.line c = true) (h : RdC w b m v g 0 f (nxB b)) :
    Calls Try.prog 47 #[.pointer (some ⟨b, 0, none⟩), .int .u8 c] w (PtR w b m v g f (nxB b) 1) := by
  have HB : Hid (∀ W, Calls Try.prog 46 #[.int .u8 c] W fun e w' => e = .returned (.bool true) ∧ W = w') := fun W => by have := ends_any c c0 c1 W; rw [hb] at this; exact this
  clear hb
  go_enter Try.func47, Try.ntmps47
  go_wp2_with (go_at_call 46; refine (HB.out _).mono ?_; rintro e w1 ⟨rfl, rfl⟩)
  go_ret
  exact ⟨rfl, h, .refl _ _⟩
set_option maxHeartbeats 1000000 in
theorem remB_not (w : World) (b : Nat) (m v : Int) (g : Bool) (f : Int) (c : Int) (c0 : 0 ≤ c) (c1 : c ≤ 255) (hb : Tk.line c = false) (h : RdC w b m v g 0 f (nxB b)) :
    Calls Try.prog 47 #[.pointer (some ⟨b, 0, none⟩), .int .u8 c] w (PtR w b m v g f (nxB b) 0) := by
  have HB : Hid (∀ W, Calls Try.prog 46 #[.int .u8 c] W fun e w' => e = .returned (.bool false) ∧ W = w') := fun W => by have := ends_any c c0 c1 W; rw [hb] at this; exact this
  clear hb
  go_enter Try.func47, Try.ntmps47
  go_wp2_with (go_at_call 46; refine (HB.out _).mono ?_; rintro e w1 ⟨rfl, rfl⟩)
  go_ret
  exact ⟨rfl, h, .refl _ _⟩
set_option maxHeartbeats 1000000 in
/-- the part that is told the byte stands in the sixth cell -/
theorem put_next (w : World) (b n : Nat) (m v : Int) (g : Bool) (f : Int) (c : Int) (m' v' : Int) (g' : Bool) (f' : Int) (x' : Value) (t' : Int) (hn : ∀ args w, (callFunc n args).run Try.prog w = .ok (.enter n args) w)
    (h : RdC w b m v g 0 f (.func (.func n) #[.pointer (some ⟨b, 0, none⟩)] #[])) (hcall : Calls Try.prog n #[.pointer (some ⟨b, 0, none⟩), .int .u8 c] w (PtR w b m v' g' f' x' t')) :
    Calls Try.prog 38 #[.pointer (some ⟨b, 0, none⟩), .int .u8 c] w fun e w' => e = .returned (.int .i64 t') ∧ RdC w' b m v' g' t' f' x' ∧ w.grownBy w' (some b) := by
  have hc3 := h.c3
  have hc5 := h.c5
  have HC := Lib.hid hcall
  clear hcall
  go_enter Try.func38, Try.ntmps38
  go_wp2_with (go_at_fn n; refine HC.out.mono ?_; rintro e w2 ⟨rfl, h2, hg2⟩; have hd3 := h2.c3; have hf3 := h2.fr 3)
  go_ret
  exact ⟨rfl, h2.put3 _, hg2.trans (grown_set _ _ _ _)⟩
set_option maxHeartbeats 1000000 in
/-- it is told nothing more -/
theorem put_done (w : World) (b : Nat) (m v : Int) (g : Bool) (f : Int) (c t : Int) (x : Value) (ht : t ≠ 0) (h : RdC w b m v g t f x) :
    Calls Try.prog 38 #[.pointer (some ⟨b, 0, none⟩), .int .u8 c] w fun e w' => e = .returned (.int .i64 t) ∧ w = w' := by
  have hc3 := h.c3
  have ht' : (t == 0) = false := by simpa using ht
  go_enter Try.func38, Try.ntmps38
  go_wp2
  go_ret
  exact ⟨rfl, rfl⟩
end Go.Proofs.Ytkphfpckkmendaa
