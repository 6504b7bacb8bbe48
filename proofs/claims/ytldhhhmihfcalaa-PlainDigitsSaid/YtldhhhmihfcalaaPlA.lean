/- A reader of digits in a block of its own, over any memory: what it is made of, and what its small parts do. Condition: its head may be. -/
import Derived.Test.YtldhhhmihfcalaaPlMath
import Derived.Test.YtldhhhmihfcalaaHedN
import Derived.BigQuiet
import Derived.Deep.QuietTactic
import Derived.Laws.EntriesVeiled
namespace Go.Proofs.Ytldhhhmihfcalaa
open Go.RowKit
set_option linter.unusedVariables false

/-- the eleven cells of a reader -/
def PlC (w : World) (b : Nat) (h : Hd.H) (n : Int) (sv rv : Value) (rows t f : Int) (x : Value) : Prop :=
  w.heap[b]? = some (.cells #[.int .i64 h.kd, .int .i64 h.w, .int .i64 h.h, .int .i64 h.m, .int .i64 n, sv, rv, .int .i64 rows, .int .i64 t, .int .i64 f, x] 128 (0, 0))
section
variable {w w' : World} {b : Nat} {h : Hd.H} {n : Int} {sv rv : Value} {rows t f : Int} {x : Value}
theorem PlC.lt (H : PlC w b h n sv rv rows t f x) : b < w.heap.size := (Array.getElem?_eq_some_iff.1 H).1
theorem PlC.later (H : PlC w b h n sv rv rows t f x) (hb : Below w.heap.size w w') : PlC w' b h n sv rv rows t f x := (hb.block b H.lt).trans H
theorem PlC.kept {row : Option Nat} (H : PlC w b h n sv rv rows t f x) (hg : w.grownBy w' row) (hne : some b ≠ row) : PlC w' b h n sv rv rows t f x := (hg.block b H.lt hne).trans H
theorem PlC.sep {Z : Nat → Prop} (H : PlC w b h n sv rv rows t f x) (hs : Sep Z w w') (hz : ¬ Z b) : PlC w' b h n sv rv rows t f x := (hs.block b H.lt hz).trans H
theorem PlC.drewN (H : PlC w b h n sv rv rows t f x) (k : Nat) : PlC (w.drewN k) b h n sv rv rows t f x := H
theorem PlC.drew (H : PlC w b h n sv rv rows t f x) : PlC w.drew b h n sv rv rows t f x := H
theorem PlC.alloc (H : PlC w b h n sv rv rows t f x) (o : Obj) : PlC (w.alloc o) b h n sv rv rows t f x := H.kept (World.grownBy_alloc w o none) (by simp)
theorem PlC.fr (H : PlC w b h n sv rv rows t f x) (o : Nat) : w.frozen? ⟨b, o, none⟩ = false := by have h' : w.heap[b]? = _ := H; simp [World.frozen?, h']
theorem PlC.c0 (H : PlC w b h n sv rv rows t f x) : w.cell? ⟨b, 0, none⟩ = some (.int .i64 h.kd) := by have h' : w.heap[b]? = _ := H; simp [World.cell?, h']
theorem PlC.c1 (H : PlC w b h n sv rv rows t f x) : w.cell? ⟨b, 1, none⟩ = some (.int .i64 h.w) := by have h' : w.heap[b]? = _ := H; simp [World.cell?, h']
theorem PlC.c2 (H : PlC w b h n sv rv rows t f x) : w.cell? ⟨b, 2, none⟩ = some (.int .i64 h.h) := by have h' : w.heap[b]? = _ := H; simp [World.cell?, h']
theorem PlC.c3 (H : PlC w b h n sv rv rows t f x) : w.cell? ⟨b, 3, none⟩ = some (.int .i64 h.m) := by have h' : w.heap[b]? = _ := H; simp [World.cell?, h']
theorem PlC.c4 (H : PlC w b h n sv rv rows t f x) : w.cell? ⟨b, 4, none⟩ = some (.int .i64 n) := by have h' : w.heap[b]? = _ := H; simp [World.cell?, h']
theorem PlC.c5 (H : PlC w b h n sv rv rows t f x) : w.cell? ⟨b, 5, none⟩ = some (sv) := by have h' : w.heap[b]? = _ := H; simp [World.cell?, h']
theorem PlC.c6 (H : PlC w b h n sv rv rows t f x) : w.cell? ⟨b, 6, none⟩ = some (rv) := by have h' : w.heap[b]? = _ := H; simp [World.cell?, h']
theorem PlC.c7 (H : PlC w b h n sv rv rows t f x) : w.cell? ⟨b, 7, none⟩ = some (.int .i64 rows) := by have h' : w.heap[b]? = _ := H; simp [World.cell?, h']
theorem PlC.c8 (H : PlC w b h n sv rv rows t f x) : w.cell? ⟨b, 8, none⟩ = some (.int .i64 t) := by have h' : w.heap[b]? = _ := H; simp [World.cell?, h']
theorem PlC.c9 (H : PlC w b h n sv rv rows t f x) : w.cell? ⟨b, 9, none⟩ = some (.int .i64 f) := by have h' : w.heap[b]? = _ := H; simp [World.cell?, h']
theorem PlC.c10 (H : PlC w b h n sv rv rows t f x) : w.cell? ⟨b, 10, none⟩ = some (x) := by have h' : w.heap[b]? = _ := H; simp [World.cell?, h']
theorem PlC.put4 (H : PlC w b h n sv rv rows t f x) (y : Int) : PlC (w.setCell ⟨b, 4, none⟩ (.int .i64 y)) b h y sv rv rows t f x := by
  have h' : w.heap[b]? = _ := H
  simpa [PlC] using Go.heap_setCell_same w b 4 _ _ (.int .i64 y) h'
theorem PlC.put5 (H : PlC w b h n sv rv rows t f x) (y : Value) : PlC (w.setCell ⟨b, 5, none⟩ y) b h n y rv rows t f x := by
  have h' : w.heap[b]? = _ := H
  simpa [PlC] using Go.heap_setCell_same w b 5 _ _ y h'
theorem PlC.put6 (H : PlC w b h n sv rv rows t f x) (y : Value) : PlC (w.setCell ⟨b, 6, none⟩ y) b h n sv y rows t f x := by
  have h' : w.heap[b]? = _ := H
  simpa [PlC] using Go.heap_setCell_same w b 6 _ _ y h'
theorem PlC.put7 (H : PlC w b h n sv rv rows t f x) (y : Int) : PlC (w.setCell ⟨b, 7, none⟩ (.int .i64 y)) b h n sv rv y t f x := by
  have h' : w.heap[b]? = _ := H
  simpa [PlC] using Go.heap_setCell_same w b 7 _ _ (.int .i64 y) h'
theorem PlC.put8 (H : PlC w b h n sv rv rows t f x) (y : Int) : PlC (w.setCell ⟨b, 8, none⟩ (.int .i64 y)) b h n sv rv rows y f x := by
  have h' : w.heap[b]? = _ := H
  simpa [PlC] using Go.heap_setCell_same w b 8 _ _ (.int .i64 y) h'
theorem PlC.put9 (H : PlC w b h n sv rv rows t f x) (y : Int) : PlC (w.setCell ⟨b, 9, none⟩ (.int .i64 y)) b h n sv rv rows t y x := by
  have h' : w.heap[b]? = _ := H
  simpa [PlC] using Go.heap_setCell_same w b 9 _ _ (.int .i64 y) h'
theorem PlC.put10 (H : PlC w b h n sv rv rows t f x) (y : Value) : PlC (w.setCell ⟨b, 10, none⟩ y) b h n sv rv rows t f y := by
  have h' : w.heap[b]? = _ := H
  simpa [PlC] using Go.heap_setCell_same w b 10 _ _ y h'
end
theorem plain_cells (w : World) (h : Hd.H) (sv rv : Value) (n rows t f : Int) (x : Value) : PlC (w.alloc (.cells #[.int .i64 h.kd, .int .i64 h.w, .int .i64 h.h, .int .i64 h.m, .int .i64 n, sv, rv, .int .i64 rows, .int .i64 t, .int .i64 f, x] 128)) w.heap.size h n sv rv rows t f x := World.alloc_heap_new w _
def stA : Value := .func (.func 76) #[] #[]
def stD : Value := .func (.func 109) #[] #[]
def stB : Value := .func (.func 77) #[] #[]
theorem enPA : ∀ args w, (callFunc 76 args).run Try.prog w = .ok (.enter 76 args) w := enters_of Try.func76 (by kernel_rfl) rfl
theorem enPD : ∀ args w, (callFunc 109 args).run Try.prog w = .ok (.enter 109 args) w := enters_of Try.func109 (by kernel_rfl) rfl
theorem enPB : ∀ args w, (callFunc 77 args).run Try.prog w = .ok (.enter 77 args) w := enters_of Try.func77 (by kernel_rfl) rfl
section
variable (w : World) (b : Nat) (h : Hd.H) (n : Int) (sv rv : Value) (rows t f : Int) (x : Value) (H : PlC w b h n sv rv rows t f x)
include H
set_option maxHeartbeats 1000000 in
/-- it is made wrong -/
theorem plWrong_any (er : Int) :
    Calls Try.prog 81 #[.pointer (some ⟨b, 0, none⟩), .int .i64 er] w fun e w' => e = .returned (.tuple #[]) ∧ PlC w' b h n sv rv rows 2 er x ∧ w.grownBy w' (some b) := by
  have hc8 := H.c8
  have hc9 := H.c9
  have f8 := H.fr 8
  have f9 := H.fr 9
  go_enter Try.func81, Try.ntmps81
  go_wp2
  go_end0
  exact ⟨rfl, (H.put8 _).put9 _, (grown_set _ _ _ _).trans (grown_set _ _ _ _)⟩
set_option maxHeartbeats 1000000 in
theorem plRows_any :
    Calls Try.prog 46 #[.pointer (some ⟨b, 0, none⟩)] w fun e w' => e = .returned (.int .i64 rows) ∧ w = w' := by
  have hc7 := H.c7
  go_enter Try.func46, Try.ntmps46
  go_wp2
  go_ret
  exact ⟨rfl, rfl⟩
set_option maxHeartbeats 1000000 in
theorem plError_any :
    Calls Try.prog 47 #[.pointer (some ⟨b, 0, none⟩)] w fun e w' => e = .returned (.int .i64 f) ∧ w = w' := by
  have hc9 := H.c9
  go_enter Try.func47, Try.ntmps47
  go_wp2
  go_ret
  exact ⟨rfl, rfl⟩
end
section
variable (w : World) (b : Nat) (h : Hd.H) (n : Int) (sv rv : Value) (rows t f : Int) (x : Value) (H : PlC w b h n sv rv rows t f x) (n0 : 0 ≤ n) (n1 : n ≤ h.m) (m1 : h.m ≤ 65535) (c : Int) (c0 : 0 ≤ c) (c1 : c ≤ 255) (k er : Int) (hs : Nu.stepV n c h.m = (k, er))
include H n0 n1 m1 c0 c1 hs
set_option maxHeartbeats 1000000 in
theorem plDigit_range (he : er = 4) :
    Calls Try.prog 110 #[.pointer (some ⟨b, 0, none⟩), .int .u8 c] w fun e w' => e = .returned (.int .i64 5) ∧ PlC w' b h n sv rv rows t f x ∧ w.grownBy w' (some b) := by
  have hc3 := H.c3
  have hc4 := H.c4
  have HS : Hid (∀ W, Calls Try.prog 125 #[.int .i64 n, .int .u8 c, .int .i64 h.m] W fun r w' => r = .returned (.tuple #[.int .i64 k, .int .i64 er]) ∧ W = w') := fun W => step_two n c h.m n0 n1 (by omega) c0 c1 k er hs W
  subst he
  clear hs
  go_enter Try.func110, Try.ntmps110
  go_wp2_with (go_quiet ((go_at_call 125; exact Calls.quiet_of_same ((HS.out _).mono fun e w' hh => ⟨hh.1, hh.2.symm⟩))))
  go_ret
  exact ⟨rfl, H.drewN _, grown_drew _ _ _⟩
set_option maxHeartbeats 1000000 in
theorem plDigit_any (he : er ≠ 4) :
    Calls Try.prog 110 #[.pointer (some ⟨b, 0, none⟩), .int .u8 c] w fun e w' => e = .returned (.int .i64 er) ∧ PlC w' b h k sv rv rows t f x ∧ w.grownBy w' (some b) := by
  have hc3 := H.c3
  have hc4 := H.c4
  have f4 := H.fr 4
  have HS : Hid (∀ W, Calls Try.prog 125 #[.int .i64 n, .int .u8 c, .int .i64 h.m] W fun r w' => r = .returned (.tuple #[.int .i64 k, .int .i64 er]) ∧ W = w') := fun W => step_two n c h.m n0 n1 (by omega) c0 c1 k er hs W
  have ke : (er == 4) = false := by simpa using he
  clear hs he
  go_enter Try.func110, Try.ntmps110
  go_wp2_with (go_quiet ((go_at_call 125; exact Calls.quiet_of_same ((HS.out _).mono fun e w' hh => ⟨hh.1, hh.2.symm⟩))))
  go_ret
  exact ⟨rfl, (H.drewN _).put4 _, (grown_drew _ _ _).trans (grown_set _ _ _ _)⟩
end
/-- what a part of a reader hands back, and what its block holds then -/
def StR (w : World) (b : Nat) (h : Hd.H) (k : Int) (sv rv : Value) (rows : Int) (x : Value) (d : Bool) (er : Int) (e : Ending) (w' : World) : Prop :=
  e = .returned (.tuple #[.bool d, .int .i64 er]) ∧ PlC w' b h k sv rv rows 0 0 x ∧ w.grownBy w' (some b)
section
variable (w : World) (b : Nat) (h : Hd.H) (n : Int) (sv rv : Value) (rows : Int) (c : Int) (c0 : 0 ≤ c) (c1 : c ≤ 255)
include c0 c1
set_option maxHeartbeats 1000000 in
theorem plAhead_blank (hb : Tk.blank c = true) (H : PlC w b h n sv rv rows 0 0 stA) :
    Calls Try.prog 76 #[.pointer (some ⟨b, 0, none⟩), .int .u8 c] w (StR w b h n sv rv rows stA false 0) := by
  have HB : Hid (∀ W, Calls Try.prog 108 #[.int .u8 c] W fun e w' => e = .returned (.bool true) ∧ W = w') := fun W => by have := blank_any c c0 c1 W; rw [hb] at this; exact this
  clear hb
  go_enter Try.func76, Try.ntmps76
  go_wp2_with (go_at_call 108; refine (HB.out _).mono ?_; rintro e w1 ⟨rfl, rfl⟩)
  go_ret2
  exact ⟨rfl, H, .refl _ _⟩
set_option maxHeartbeats 1000000 in
theorem plAhead_digit (hb : Tk.blank c = false) (H : PlC w b h n sv rv rows 0 0 stA) (k er : Int)
    (hd : ∀ W, PlC W b h n sv rv rows 0 0 stD → Calls Try.prog 110 #[.pointer (some ⟨b, 0, none⟩), .int .u8 c] W fun e w' => e = .returned (.int .i64 er) ∧ PlC w' b h k sv rv rows 0 0 stD ∧ W.grownBy w' (some b)) :
    Calls Try.prog 76 #[.pointer (some ⟨b, 0, none⟩), .int .u8 c] w (StR w b h k sv rv rows stD false er) := by
  have HB : Hid (∀ W, Calls Try.prog 108 #[.int .u8 c] W fun e w' => e = .returned (.bool false) ∧ W = w') := fun W => by have := blank_any c c0 c1 W; rw [hb] at this; exact this
  have HD := Lib.hid hd
  have hc10 := H.c10
  have f10 := H.fr 10
  clear hb hd
  go_enter Try.func76, Try.ntmps76
  go_wp2_with (first | (go_at_call 108; refine (HB.out _).mono ?_; rintro e w1 ⟨rfl, rfl⟩) | (go_at_call 110; refine (HD.out _ (H.put10 _)).mono ?_; rintro e w2 ⟨rfl, h2, hg2⟩))
  go_ret2
  exact ⟨rfl, h2, (grown_set _ _ _ _).trans hg2⟩
set_option maxHeartbeats 1000000 in
theorem plBehind_digit (hb : Tk.blank c = false) (H : PlC w b h n sv rv rows 0 0 stD) (k er : Int)
    (hd : ∀ W, PlC W b h n sv rv rows 0 0 stD → Calls Try.prog 110 #[.pointer (some ⟨b, 0, none⟩), .int .u8 c] W fun e w' => e = .returned (.int .i64 er) ∧ PlC w' b h k sv rv rows 0 0 stD ∧ W.grownBy w' (some b)) :
    Calls Try.prog 109 #[.pointer (some ⟨b, 0, none⟩), .int .u8 c] w (StR w b h k sv rv rows stD false er) := by
  have HB : Hid (∀ W, Calls Try.prog 108 #[.int .u8 c] W fun e w' => e = .returned (.bool false) ∧ W = w') := fun W => by have := blank_any c c0 c1 W; rw [hb] at this; exact this
  have HD := Lib.hid hd
  clear hb hd
  go_enter Try.func109, Try.ntmps109
  go_wp2_with (first | (go_at_call 108; refine (HB.out _).mono ?_; rintro e w1 ⟨rfl, rfl⟩) | (go_at_call 110; refine (HD.out _ H).mono ?_; rintro e w2 ⟨rfl, h2, hg2⟩))
  go_ret2
  exact ⟨rfl, h2, hg2⟩
set_option maxHeartbeats 1000000 in
theorem plBehind_blank (hb : Tk.blank c = true) (H : PlC w b h n sv rv rows 0 0 stD) :
    Calls Try.prog 109 #[.pointer (some ⟨b, 0, none⟩), .int .u8 c] w (StR w b h n sv rv rows stA true 0) := by
  have HB : Hid (∀ W, Calls Try.prog 108 #[.int .u8 c] W fun e w' => e = .returned (.bool true) ∧ W = w') := fun W => by have := blank_any c c0 c1 W; rw [hb] at this; exact this
  have hc10 := H.c10
  have f10 := H.fr 10
  clear hb
  go_enter Try.func109, Try.ntmps109
  go_wp2_with (go_at_call 108; refine (HB.out _).mono ?_; rintro e w1 ⟨rfl, rfl⟩)
  go_ret2
  exact ⟨rfl, H.put10 _, grown_set _ _ _ _⟩
set_option maxHeartbeats 1000000 in
theorem plBit_blank (hb : Tk.blank c = true) (H : PlC w b h n sv rv rows 0 0 stB) :
    Calls Try.prog 77 #[.pointer (some ⟨b, 0, none⟩), .int .u8 c] w (StR w b h n sv rv rows stB false 0) := by
  have HB : Hid (∀ W, Calls Try.prog 108 #[.int .u8 c] W fun e w' => e = .returned (.bool true) ∧ W = w') := fun W => by have := blank_any c c0 c1 W; rw [hb] at this; exact this
  clear hb
  go_enter Try.func77, Try.ntmps77
  go_wp2_with (go_at_call 108; refine (HB.out _).mono ?_; rintro e w1 ⟨rfl, rfl⟩)
  go_ret2
  exact ⟨rfl, H, .refl _ _⟩
set_option maxHeartbeats 1000000 in
theorem plBit_no (hb : Tk.blank c = false) (h48 : c ≠ 48) (h49 : c ≠ 49) (H : PlC w b h n sv rv rows 0 0 stB) :
    Calls Try.prog 77 #[.pointer (some ⟨b, 0, none⟩), .int .u8 c] w (StR w b h n sv rv rows stB false 3) := by
  have HB : Hid (∀ W, Calls Try.prog 108 #[.int .u8 c] W fun e w' => e = .returned (.bool false) ∧ W = w') := fun W => by have := blank_any c c0 c1 W; rw [hb] at this; exact this
  have k8 : (c != 48) = true := by simpa using h48
  have k9 : (c != 49) = true := by simpa using h49
  clear hb h48 h49
  go_enter Try.func77, Try.ntmps77
  go_wp2_with (go_at_call 108; refine (HB.out _).mono ?_; rintro e w1 ⟨rfl, rfl⟩)
  go_ret2
  exact ⟨rfl, H, .refl _ _⟩
end
set_option maxHeartbeats 1000000 in
theorem plBit_yes (w : World) (b : Nat) (h : Hd.H) (n : Int) (sv rv : Value) (rows : Int) (c : Int) (hc : c = 48 ∨ c = 49) (H : PlC w b h n sv rv rows 0 0 stB) :
    Calls Try.prog 77 #[.pointer (some ⟨b, 0, none⟩), .int .u8 c] w (StR w b h (c - 48) sv rv rows stB true 0) := by
  have hc4 := H.c4
  have f4 := H.fr 4
  rcases hc with rfl | rfl
  · have HB : Hid (∀ W, Calls Try.prog 108 #[.int .u8 48] W fun e w' => e = .returned (.bool false) ∧ W = w') := fun W => blank_any 48 (by decide) (by decide) W
    go_enter Try.func77, Try.ntmps77
    go_wp2_with (go_at_call 108; refine (HB.out _).mono ?_; rintro e w1 ⟨rfl, rfl⟩)
    go_ret2
    exact ⟨rfl, H.put4 _, grown_set _ _ _ _⟩
  · have HB : Hid (∀ W, Calls Try.prog 108 #[.int .u8 49] W fun e w' => e = .returned (.bool false) ∧ W = w') := fun W => blank_any 49 (by decide) (by decide) W
    go_enter Try.func77, Try.ntmps77
    go_wp2_with (go_at_call 108; refine (HB.out _).mono ?_; rintro e w1 ⟨rfl, rfl⟩)
    go_ret2
    exact ⟨rfl, H.put4 _, grown_set _ _ _ _⟩
end Go.Proofs.Ytldhhhmihfcalaa
