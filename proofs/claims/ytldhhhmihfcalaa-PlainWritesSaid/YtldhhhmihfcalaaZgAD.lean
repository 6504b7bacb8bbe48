/- A reader of digits in a block of its own, over any memory: what it is made of, and what its small parts do. Condition: its head may be. -/
import Derived.Test.YtldhhhmihfcalaaZgAC
import Derived.Test.YtldhhhmihfcalaaZHedN
import Derived.BigQuiet
import Derived.Deep.QuietTactic
import Derived.Laws.EntriesVeiled
import Derived.Test.YtldhhhmihfcalaaZHedB
import Derived.Deep.AppendLies
import Derived.Deep.RegionLaw
import Derived.Deep.RegionHeld3
namespace Go.Proofs.Ytldhhhmihfcalaa
open Go.RowKit
set_option linter.unusedVariables false

/-- the eleven cells of a reader -/
def PlC (w : World) (b : Nat) (h : Hd.H) (n : Int) (sv rv : Value) (rows t f : Int) (x : Value) : Prop :=
  w.heap[b]? = some (.cells #[.int .i64 h.kd, .int .i64 h.w, .int .i64 h.h, .int .i64 h.m, .int .i64 n, sv, rv, .int .i64 rows, .int .i64 t, .int .i64 f, x] 128 (0, 0))
section
variable {w w' : World} {b : Nat} {h : Hd.H} {n : Int} {sv rv : Value} {rows t f : Int} {x : Value}
theorem PlC.lt (H : PlC w b h n sv rv rows t f x) : b < w.heap.size := (Array.getElem?_eq_some_iff.1 H).1
theorem PlC.later (H : PlC w b h n sv rv rows t f x) (hb : Below w.heap.size w w') : PlC w' b h n sv rv rows t f x := (hb.block b H.lt).trans H
theorem PlC.kept {row : Option Nat} (H : PlC w b h n sv rv rows t f x) (hg : w.grownBy w' row) (hne : some b ≠ row) : PlC w' b h n sv rv rows t f x := (hg.block b H.lt hne).trans H
theorem PlC.sep {Z : Nat → Prop} (H : PlC w b h n sv rv rows t f x) (hs : Sep Z w w') (hz : ¬ Z b) : PlC w' b h n sv rv rows t f x := (hs.block b H.lt hz).trans H
theorem PlC.drewN (H : PlC w b h n sv rv rows t f x) (k : Nat) : PlC (w.drewN k) b h n sv rv rows t f x := H
theorem PlC.drew (H : PlC w b h n sv rv rows t f x) : PlC w.drew b h n sv rv rows t f x := H
theorem PlC.alloc (H : PlC w b h n sv rv rows t f x) (o : Obj) : PlC (w.alloc o) b h n sv rv rows t f x := H.kept (World.grownBy_alloc w o none) (by simp)
theorem PlC.fr (H : PlC w b h n sv rv rows t f x) (o : Nat) : w.frozen? ⟨b, o, none⟩ = false := by have h' : w.heap[b]? = _ := H; simp [World.frozen?, h']
theorem PlC.c0 (H : PlC w b h n sv rv rows t f x) : w.cell? ⟨b, 0, none⟩ = some (.int .i64 h.kd) := by have h' : w.heap[b]? = _ := H; simp [World.cell?, h']
theorem PlC.c1 (H : PlC w b h n sv rv rows t f x) : w.cell? ⟨b, 1, none⟩ = some (.int .i64 h.w) := by have h' : w.heap[b]? = _ := H; simp [World.cell?, h']
theorem PlC.c2 (H : PlC w b h n sv rv rows t f x) : w.cell? ⟨b, 2, none⟩ = some (.int .i64 h.h) := by have h' : w.heap[b]? = _ := H; simp [World.cell?, h']
theorem PlC.c3 (H : PlC w b h n sv rv rows t f x) : w.cell? ⟨b, 3, none⟩ = some (.int .i64 h.m) := by have h' : w.heap[b]? = _ := H; simp [World.cell?, h']
theorem PlC.c4 (H : PlC w b h n sv rv rows t f x) : w.cell? ⟨b, 4, none⟩ = some (.int .i64 n) := by have h' : w.heap[b]? = _ := H; simp [World.cell?, h']
theorem PlC.c5 (H : PlC w b h n sv rv rows t f x) : w.cell? ⟨b, 5, none⟩ = some (sv) := by have h' : w.heap[b]? = _ := H; simp [World.cell?, h']
theorem PlC.c6 (H : PlC w b h n sv rv rows t f x) : w.cell? ⟨b, 6, none⟩ = some (rv) := by have h' : w.heap[b]? = _ := H; simp [World.cell?, h']
theorem PlC.c7 (H : PlC w b h n sv rv rows t f x) : w.cell? ⟨b, 7, none⟩ = some (.int .i64 rows) := by have h' : w.heap[b]? = _ := H; simp [World.cell?, h']
theorem PlC.c8 (H : PlC w b h n sv rv rows t f x) : w.cell? ⟨b, 8, none⟩ = some (.int .i64 t) := by have h' : w.heap[b]? = _ := H; simp [World.cell?, h']
theorem PlC.c9 (H : PlC w b h n sv rv rows t f x) : w.cell? ⟨b, 9, none⟩ = some (.int .i64 f) := by have h' : w.heap[b]? = _ := H; simp [World.cell?, h']
theorem PlC.c10 (H : PlC w b h n sv rv rows t f x) : w.cell? ⟨b, 10, none⟩ = some (x) := by have h' : w.heap[b]? = _ := H; simp [World.cell?, h']
theorem PlC.put4 (H : PlC w b h n sv rv rows t f x) (y : Int) : PlC (w.setCell ⟨b, 4, none⟩ (.int .i64 y)) b h y sv rv rows t f x := by
  have h' : w.heap[b]? = _ := H
  simpa [PlC] using Go.heap_setCell_same w b 4 _ _ (.int .i64 y) h'
theorem PlC.put5 (H : PlC w b h n sv rv rows t f x) (y : Value) : PlC (w.setCell ⟨b, 5, none⟩ y) b h n y rv rows t f x := by
  have h' : w.heap[b]? = _ := H
  simpa [PlC] using Go.heap_setCell_same w b 5 _ _ y h'
theorem PlC.put6 (H : PlC w b h n sv rv rows t f x) (y : Value) : PlC (w.setCell ⟨b, 6, none⟩ y) b h n sv y rows t f x := by
  have h' : w.heap[b]? = _ := H
  simpa [PlC] using Go.heap_setCell_same w b 6 _ _ y h'
theorem PlC.put7 (H : PlC w b h n sv rv rows t f x) (y : Int) : PlC (w.setCell ⟨b, 7, none⟩ (.int .i64 y)) b h n sv rv y t f x := by
  have h' : w.heap[b]? = _ := H
  simpa [PlC] using Go.heap_setCell_same w b 7 _ _ (.int .i64 y) h'
theorem PlC.put8 (H : PlC w b h n sv rv rows t f x) (y : Int) : PlC (w.setCell ⟨b, 8, none⟩ (.int .i64 y)) b h n sv rv rows y f x := by
  have h' : w.heap[b]? = _ := H
  simpa [PlC] using Go.heap_setCell_same w b 8 _ _ (.int .i64 y) h'
theorem PlC.put9 (H : PlC w b h n sv rv rows t f x) (y : Int) : PlC (w.setCell ⟨b, 9, none⟩ (.int .i64 y)) b h n sv rv rows t y x := by
  have h' : w.heap[b]? = _ := H
  simpa [PlC] using Go.heap_setCell_same w b 9 _ _ (.int .i64 y) h'
theorem PlC.put10 (H : PlC w b h n sv rv rows t f x) (y : Value) : PlC (w.setCell ⟨b, 10, none⟩ y) b h n sv rv rows t f y := by
  have h' : w.heap[b]? = _ := H
  simpa [PlC] using Go.heap_setCell_same w b 10 _ _ y h'
end
theorem plain_cells (w : World) (h : Hd.H) (sv rv : Value) (n rows t f : Int) (x : Value) : PlC (w.alloc (.cells #[.int .i64 h.kd, .int .i64 h.w, .int .i64 h.h, .int .i64 h.m, .int .i64 n, sv, rv, .int .i64 rows, .int .i64 t, .int .i64 f, x] 128)) w.heap.size h n sv rv rows t f x := World.alloc_heap_new w _
def stA : Value := .func (.func 76) #[] #[]
def stD : Value := .func (.func 109) #[] #[]
def stB : Value := .func (.func 77) #[] #[]
theorem enPA : ∀ args w, (callFunc 76 args).run Try.prog w = .ok (.enter 76 args) w := enters_of Try.func76 (by kernel_rfl) rfl
theorem enPD : ∀ args w, (callFunc 109 args).run Try.prog w = .ok (.enter 109 args) w := enters_of Try.func109 (by kernel_rfl) rfl
theorem enPB : ∀ args w, (callFunc 77 args).run Try.prog w = .ok (.enter 77 args) w := enters_of Try.func77 (by kernel_rfl) rfl
section
variable (w : World) (b : Nat) (h : Hd.H) (n : Int) (sv rv : Value) (rows t f : Int) (x : Value) (H : PlC w b h n sv rv rows t f x)
include H
set_option maxHeartbeats 1000000 in
/-- it is made wrong -/
theorem plWrong_any (er : Int) :
    Calls Try.prog 81 #[.pointer (some ⟨b, 0, none⟩), .int .i64 er] w fun e w' => e = .returned (.tuple #[]) ∧ PlC w' b h n sv rv rows 2 er x ∧ w.grownBy w' (some b) := by
  have hc8 := H.c8
  have hc9 := H.c9
  have f8 := H.fr 8
  have f9 := H.fr 9
  go_enter Try.func81, Try.ntmps81
  go_wp2
  go_end0
  exact ⟨rfl, (H.put8 _).put9 _, (grown_set _ _ _ _).trans (grown_set _ _ _ _)⟩
set_option maxHeartbeats 1000000 in
theorem plRows_any :
    Calls Try.prog 46 #[.pointer (some ⟨b, 0, none⟩)] w fun e w' => e = .returned (.int .i64 rows) ∧ w = w' := by
  have hc7 := H.c7
  go_enter Try.func46, Try.ntmps46
  go_wp2
  go_ret
  exact ⟨rfl, rfl⟩
set_option maxHeartbeats 1000000 in
theorem plError_any :
    Calls Try.prog 47 #[.pointer (some ⟨b, 0, none⟩)] w fun e w' => e = .returned (.int .i64 f) ∧ w = w' := by
  have hc9 := H.c9
  go_enter Try.func47, Try.ntmps47
  go_wp2
  go_ret
  exact ⟨rfl, rfl⟩
end
section
variable (w : World) (b : Nat) (h : Hd.H) (n : Int) (sv rv : Value) (rows t f : Int) (x : Value) (H : PlC w b h n sv rv rows t f x) (n0 : 0 ≤ n) (n1 : n ≤ h.m) (m1 : h.m ≤ 65535) (c : Int) (c0 : 0 ≤ c) (c1 : c ≤ 255) (k er : Int) (hs : Nu.stepV n c h.m = (k, er))
include H n0 n1 m1 c0 c1 hs
set_option maxHeartbeats 1000000 in
theorem plDigit_range (he : er = 4) :
    Calls Try.prog 110 #[.pointer (some ⟨b, 0, none⟩), .int .u8 c] w fun e w' => e = .returned (.int .i64 5) ∧ PlC w' b h n sv rv rows t f x ∧ w.grownBy w' (some b) := by
  have hc3 := H.c3
  have hc4 := H.c4
  have HS : Hid (∀ W, Calls Try.prog 125 #[.int .i64 n, .int .u8 c, .int .i64 h.m] W fun r w' => r = .returned (.tuple #[.int .i64 k, .int .i64 er]) ∧ W = w') := fun W => step_two n c h.m n0 n1 (by omega) c0 c1 k er hs W
  subst he
  clear hs
  go_enter Try.func110, Try.ntmps110
  go_wp2_with (go_quiet ((go_at_call 125; exact Calls.quiet_of_same ((HS.out _).mono fun e w' hh => ⟨hh.1, hh.2.symm⟩))))
  go_ret
  exact ⟨rfl, H.drewN _, grown_drew _ _ _⟩
set_option maxHeartbeats 1000000 in
theorem plDigit_any (he : er ≠ 4) :
    Calls Try.prog 110 #[.pointer (some ⟨b, 0, none⟩), .int .u8 c] w fun e w' => e = .returned (.int .i64 er) ∧ PlC w' b h k sv rv rows t f x ∧ w.grownBy w' (some b) := by
  have hc3 := H.c3
  have hc4 := H.c4
  have f4 := H.fr 4
  have HS : Hid (∀ W, Calls Try.prog 125 #[.int .i64 n, .int .u8 c, .int .i64 h.m] W fun r w' => r = .returned (.tuple #[.int .i64 k, .int .i64 er]) ∧ W = w') := fun W => step_two n c h.m n0 n1 (by omega) c0 c1 k er hs W
  have ke : (er == 4) = false := by simpa using he
  clear hs he
  go_enter Try.func110, Try.ntmps110
  go_wp2_with (go_quiet ((go_at_call 125; exact Calls.quiet_of_same ((HS.out _).mono fun e w' hh => ⟨hh.1, hh.2.symm⟩))))
  go_ret
  exact ⟨rfl, (H.drewN _).put4 _, (grown_drew _ _ _).trans (grown_set _ _ _ _)⟩
end
/-- what a part of a reader hands back, and what its block holds then -/
def StR (w : World) (b : Nat) (h : Hd.H) (k : Int) (sv rv : Value) (rows : Int) (x : Value) (d : Bool) (er : Int) (e : Ending) (w' : World) : Prop :=
  e = .returned (.tuple #[.bool d, .int .i64 er]) ∧ PlC w' b h k sv rv rows 0 0 x ∧ w.grownBy w' (some b)
section
variable (w : World) (b : Nat) (h : Hd.H) (n : Int) (sv rv : Value) (rows : Int) (c : Int) (c0 : 0 ≤ c) (c1 : c ≤ 255)
include c0 c1
set_option maxHeartbeats 1000000 in
theorem plAhead_blank (hb : Tk.blank c = true) (H : PlC w b h n sv rv rows 0 0 stA) :
    Calls Try.prog 76 #[.pointer (some ⟨b, 0, none⟩), .int .u8 c] w (StR w b h n sv rv rows stA false 0) := by
  have HB : Hid (∀ W, Calls Try.prog 108 #[.int .u8 c] W fun e w' => e = .returned (.bool true) ∧ W = w') := fun W => by have := blank_any c c0 c1 W; rw [hb] at this; exact this
  clear hb
  go_enter Try.func76, Try.ntmps76
  go_wp2_with (go_at_call 108; refine (HB.out _).mono ?_; rintro e w1 ⟨rfl, rfl⟩)
  go_ret2
  exact ⟨rfl, H, .refl _ _⟩
set_option maxHeartbeats 1000000 in
theorem plAhead_digit (hb : Tk.blank c = false) (H : PlC w b h n sv rv rows 0 0 stA) (k er : Int)
    (hd : ∀ W, PlC W b h n sv rv rows 0 0 stD → Calls Try.prog 110 #[.pointer (some ⟨b, 0, none⟩), .int .u8 c] W fun e w' => e = .returned (.int .i64 er) ∧ PlC w' b h k sv rv rows 0 0 stD ∧ W.grownBy w' (some b)) :
    Calls Try.prog 76 #[.pointer (some ⟨b, 0, none⟩), .int .u8 c] w (StR w b h k sv rv rows stD false er) := by
  have HB : Hid (∀ W, Calls Try.prog 108 #[.int .u8 c] W fun e w' => e = .returned (.bool false) ∧ W = w') := fun W => by have := blank_any c c0 c1 W; rw [hb] at this; exact this
  have HD := Lib.hid hd
  have hc10 := H.c10
  have f10 := H.fr 10
  clear hb hd
  go_enter Try.func76, Try.ntmps76
  go_wp2_with (first | (go_at_call 108; refine (HB.out _).mono ?_; rintro e w1 ⟨rfl, rfl⟩) | (go_at_call 110; refine (HD.out _ (H.put10 _)).mono ?_; rintro e w2 ⟨rfl, h2, hg2⟩))
  go_ret2
  exact ⟨rfl, h2, (grown_set _ _ _ _).trans hg2⟩
set_option maxHeartbeats 1000000 in
theorem plBehind_digit (hb : Tk.blank c = false) (H : PlC w b h n sv rv rows 0 0 stD) (k er : Int)
    (hd : ∀ W, PlC W b h n sv rv rows 0 0 stD → Calls Try.prog 110 #[.pointer (some ⟨b, 0, none⟩), .int .u8 c] W fun e w' => e = .returned (.int .i64 er) ∧ PlC w' b h k sv rv rows 0 0 stD ∧ W.grownBy w' (some b)) :
    Calls Try.prog 109 #[.pointer (some ⟨b, 0, none⟩), .int .u8 c] w (StR w b h k sv rv rows stD false er) := by
  have HB : Hid (∀ W, Calls Try.prog 108 #[.int .u8 c] W fun e w' => e = .returned (.bool false) ∧ W = w') := fun W => by have := blank_any c c0 c1 W; rw [hb] at this; exact this
  have HD := Lib.hid hd
  clear hb hd
  go_enter Try.func109, Try.ntmps109
  go_wp2_with (first | (go_at_call 108; refine (HB.out _).mono ?_; rintro e w1 ⟨rfl, rfl⟩) | (go_at_call 110; refine (HD.out _ H).mono ?_; rintro e w2 ⟨rfl, h2, hg2⟩))
  go_ret2
  exact ⟨rfl, h2, hg2⟩
set_option maxHeartbeats 1000000 in
theorem plBehind_blank (hb : Tk.blank c = true) (H : PlC w b h n sv rv rows 0 0 stD) :
    Calls Try.prog 109 #[.pointer (some ⟨b, 0, none⟩), .int .u8 c] w (StR w b h n sv rv rows stA true 0) := by
  have HB : Hid (∀ W, Calls Try.prog 108 #[.int .u8 c] W fun e w' => e = .returned (.bool true) ∧ W = w') := fun W => by have := blank_any c c0 c1 W; rw [hb] at this; exact this
  have hc10 := H.c10
  have f10 := H.fr 10
  clear hb
  go_enter Try.func109, Try.ntmps109
  go_wp2_with (go_at_call 108; refine (HB.out _).mono ?_; rintro e w1 ⟨rfl, rfl⟩)
  go_ret2
  exact ⟨rfl, H.put10 _, grown_set _ _ _ _⟩
set_option maxHeartbeats 1000000 in
theorem plBit_blank (hb : Tk.blank c = true) (H : PlC w b h n sv rv rows 0 0 stB) :
    Calls Try.prog 77 #[.pointer (some ⟨b, 0, none⟩), .int .u8 c] w (StR w b h n sv rv rows stB false 0) := by
  have HB : Hid (∀ W, Calls Try.prog 108 #[.int .u8 c] W fun e w' => e = .returned (.bool true) ∧ W = w') := fun W => by have := blank_any c c0 c1 W; rw [hb] at this; exact this
  clear hb
  go_enter Try.func77, Try.ntmps77
  go_wp2_with (go_at_call 108; refine (HB.out _).mono ?_; rintro e w1 ⟨rfl, rfl⟩)
  go_ret2
  exact ⟨rfl, H, .refl _ _⟩
set_option maxHeartbeats 1000000 in
theorem plBit_no (hb : Tk.blank c = false) (h48 : c ≠ 48) (h49 : c ≠ 49) (H : PlC w b h n sv rv rows 0 0 stB) :
    Calls Try.prog 77 #[.pointer (some ⟨b, 0, none⟩), .int .u8 c] w (StR w b h n sv rv rows stB false 3) := by
  have HB : Hid (∀ W, Calls Try.prog 108 #[.int .u8 c] W fun e w' => e = .returned (.bool false) ∧ W = w') := fun W => by have := blank_any c c0 c1 W; rw [hb] at this; exact this
  have k8 : (c != 48) = true := by simpa using h48
  have k9 : (c != 49) = true := by simpa using h49
  clear hb h48 h49
  go_enter Try.func77, Try.ntmps77
  go_wp2_with (go_at_call 108; refine (HB.out _).mono ?_; rintro e w1 ⟨rfl, rfl⟩)
  go_ret2
  exact ⟨rfl, H, .refl _ _⟩
end
set_option maxHeartbeats 1000000 in
theorem plBit_yes (w : World) (b : Nat) (h : Hd.H) (n : Int) (sv rv : Value) (rows : Int) (c : Int) (hc : c = 48 ∨ c = 49) (H : PlC w b h n sv rv rows 0 0 stB) :
    Calls Try.prog 77 #[.pointer (some ⟨b, 0, none⟩), .int .u8 c] w (StR w b h (c - 48) sv rv rows stB true 0) := by
  have hc4 := H.c4
  have f4 := H.fr 4
  rcases hc with rfl | rfl
  · have HB : Hid (∀ W, Calls Try.prog 108 #[.int .u8 48] W fun e w' => e = .returned (.bool false) ∧ W = w') := fun W => blank_any 48 (by decide) (by decide) W
    go_enter Try.func77, Try.ntmps77
    go_wp2_with (go_at_call 108; refine (HB.out _).mono ?_; rintro e w1 ⟨rfl, rfl⟩)
    go_ret2
    exact ⟨rfl, H.put4 _, grown_set _ _ _ _⟩
  · have HB : Hid (∀ W, Calls Try.prog 108 #[.int .u8 49] W fun e w' => e = .returned (.bool false) ∧ W = w') := fun W => blank_any 49 (by decide) (by decide) W
    go_enter Try.func77, Try.ntmps77
    go_wp2_with (go_at_call 108; refine (HB.out _).mono ?_; rintro e w1 ⟨rfl, rfl⟩)
    go_ret2
    exact ⟨rfl, H.put4 _, grown_set _ _ _ _⟩
end Go.Proofs.Ytldhhhmihfcalaa

/- A reader of digits: its samples' and its pixels' rows in memory of the call's own, and how they grow. No condition. -/
namespace Go.Proofs.Ytldhhhmihfcalaa
open Go.RowKit
set_option linter.unusedVariables false

/-- the blocks that a reader may write into -/
def PlZ (b : Nat) (sv rv : Value) (k : Nat) : Prop := k = b ∨ sv.ownBlock = some k ∨ rv.ownBlock = some k
/-- a row lies where it lay, or in memory that was made since -/
def PlNew (W : World) (v v' : Value) : Prop := v'.ownBlock = v.ownBlock ∨ ∀ k, v'.ownBlock = some k → W.heap.size ≤ k
def ints (l : List Int) : List Value := l.map (Value.int .i64)
def pixs (l : List Int) : List Value := l.map (Value.int .u64)
theorem set_ownsRow {w : World} {base size n : Nat} {e : TypeId} {v : Value} {xs : List Value} (h : w.ownsRow base e size v n xs) {a : Addr} (ha : a.block < base) (y : Value) : (w.setCell a y).ownsRow base e size v n xs := by
  obtain ⟨h1, h2⟩ := h
  refine ⟨h1, ?_⟩
  rcases h2 with h2 | ⟨g, cap, cur, rfl, hbs, hg, r⟩
  · exact .inl h2
  · exact .inr ⟨g, cap, cur, rfl, hbs, (Below.heap_setCell w a y g (by omega)).trans hg, r⟩
theorem apart_rows {w : World} {b1 b2 s1 s2 k1 k2 : Nat} {e1 e2 : TypeId} (hne : e1 ≠ e2) {v1 v2 : Value} {x1 x2 : List Value} (h1 : w.ownsRow b1 e1 s1 v1 k1 x1) (h2 : w.ownsRow b2 e2 s2 v2 k2 x2) : v1.ownBlock = none ∨ v1.ownBlock ≠ v2.ownBlock := by
  rcases h1.2 with ⟨rfl, _⟩ | ⟨g, cap, cur, rfl, _, hg, _⟩
  · exact .inl rfl
  · right
    intro e
    rcases h2.2 with ⟨rfl, _⟩ | ⟨g2, cap2, cur2, rfl, _, hg2, _⟩
    · cases e
    · simp only [Value.ownBlock, Option.some.injEq] at e
      subst e
      rw [hg] at hg2
      simp only [Option.some.injEq, Obj.cells.injEq] at hg2
      exact hne hg2.2.1
theorem Sep.grownO {Z : Nat → Prop} {w w' : World} {r : Option Nat} (hg : w.grownBy w' r) (hz : ∀ k, r = some k → Z k) : Sep Z w w' :=
  ⟨hg.os, hg.tape, hg.output, hg.size, fun j hj hn => hg.block j hj (fun e => hn (hz j e.symm))⟩
/-- a reader that is neither wrong nor told its fault: its block and its rows, and what is so of them against the world W in which it was sv, rv -/
structure PlT (W : World) (b : Nat) (h : Hd.H) (sv0 rv0 : Value) (n : Int) (sv rv : Value) (one row : List Int) (rows t : Int) (x : Value) (w : World) : Prop where
  c : PlC w b h n sv rv rows t 0 x
  s : w.ownsRow (b + 1) 3 1 sv one.length (ints one)
  r : w.ownsRow (b + 1) 88 1 rv row.length (pixs row)
  f : Sep (PlZ b sv0 rv0) W w
  ns : PlNew W sv0 sv
  nr : PlNew W rv0 rv
theorem below_row {w w' : World} {base size k : Nat} {e : TypeId} {v : Value} {xs : List Value} (hr : w.ownsRow base e size v k xs) (hb : Below w.heap.size w w') : w'.ownsRow base e size v k xs :=
  hr.kept (row := none) ⟨hb.os, hb.tape, hb.output, hb.size, fun k hk _ => hb.block k hk⟩ (by cases hv : v.ownBlock <;> simp)
section
variable {W w : World} {b : Nat} {h : Hd.H} {sv0 rv0 : Value} {n : Int} {sv rv : Value} {one row : List Int} {rows t : Int} {x : Value}
theorem PlT.start (c : PlC w b h n sv rv rows t 0 x) (s : w.ownsRow (b + 1) 3 1 sv one.length (ints one)) (r : w.ownsRow (b + 1) 88 1 rv row.length (pixs row)) : PlT w b h sv rv n sv rv one row rows t x w :=
  ⟨c, s, r, .refl _ _, .inl rfl, .inl rfl⟩
theorem PlT.bls (T : PlT W b h sv0 rv0 n sv rv one row rows t x w) : ∀ k, sv.ownBlock = some k → b + 1 ≤ k := fun k hk => (T.s.lt k hk).1
theorem PlT.blr (T : PlT W b h sv0 rv0 n sv rv one row rows t x w) : ∀ k, rv.ownBlock = some k → b + 1 ≤ k := fun k hk => (T.r.lt k hk).1
theorem PlT.nes (T : PlT W b h sv0 rv0 n sv rv one row rows t x w) : some b ≠ sv.ownBlock := fun e => by have := T.bls b e.symm; omega
theorem PlT.ner (T : PlT W b h sv0 rv0 n sv rv one row rows t x w) : some b ≠ rv.ownBlock := fun e => by have := T.blr b e.symm; omega
theorem PlT.below (T : PlT W b h sv0 rv0 n sv rv one row rows t x w) {w' : World} (hb : Below w.heap.size w w') : PlT W b h sv0 rv0 n sv rv one row rows t x w' :=
  ⟨T.c.later hb, below_row T.s hb, below_row T.r hb, ⟨hb.os.trans T.f.os, hb.tape.trans T.f.tape, hb.output.trans T.f.output, Nat.le_trans T.f.size hb.size, fun k hk hz => (hb.block k (Nat.lt_of_lt_of_le hk T.f.size)).trans (T.f.block k hk hz)⟩, T.ns, T.nr⟩
theorem PlT.drew (T : PlT W b h sv0 rv0 n sv rv one row rows t x w) : PlT W b h sv0 rv0 n sv rv one row rows t x w.drew := ⟨T.c, T.s, T.r, T.f.trans (.drew _ _), T.ns, T.nr⟩
theorem PlT.set4 (T : PlT W b h sv0 rv0 n sv rv one row rows t x w) (y : Int) : PlT W b h sv0 rv0 y sv rv one row rows t x (w.setCell ⟨b, 4, none⟩ (.int .i64 y)) :=
  ⟨T.c.put4 y, set_ownsRow T.s (Nat.lt_succ_self b) _, set_ownsRow T.r (Nat.lt_succ_self b) _, T.f.trans (.setCell _ (.inl rfl) _), T.ns, T.nr⟩
theorem PlT.set7 (T : PlT W b h sv0 rv0 n sv rv one row rows t x w) (y : Int) : PlT W b h sv0 rv0 n sv rv one row y t x (w.setCell ⟨b, 7, none⟩ (.int .i64 y)) :=
  ⟨T.c.put7 y, set_ownsRow T.s (Nat.lt_succ_self b) _, set_ownsRow T.r (Nat.lt_succ_self b) _, T.f.trans (.setCell _ (.inl rfl) _), T.ns, T.nr⟩
theorem PlT.set8 (T : PlT W b h sv0 rv0 n sv rv one row rows t x w) (y : Int) : PlT W b h sv0 rv0 n sv rv one row rows y x (w.setCell ⟨b, 8, none⟩ (.int .i64 y)) :=
  ⟨T.c.put8 y, set_ownsRow T.s (Nat.lt_succ_self b) _, set_ownsRow T.r (Nat.lt_succ_self b) _, T.f.trans (.setCell _ (.inl rfl) _), T.ns, T.nr⟩
/-- the pixels' row is let go -/
theorem PlT.free (T : PlT W b h sv0 rv0 n sv rv one row rows t x w) : PlT W b h sv0 rv0 n sv (.slice none 0 0) one [] rows t x (w.setCell ⟨b, 6, none⟩ (.slice none 0 0)) :=
  ⟨T.c.put6 _, set_ownsRow T.s (Nat.lt_succ_self b) _, World.ownsRow_nil _ _ _ _, T.f.trans (.setCell _ (.inl rfl) _), T.ns, .inr fun k hk => by cases hk⟩
theorem ownsRow_zero {base : Nat} {e : TypeId} {size m c : Nat} {a : Option Addr} {xs : List Value} (hr : w.ownsRow base e size (.slice a m c) m xs) : w.ownsRow base e size (.slice a 0 c) 0 [] := by
  refine ⟨by simp, ?_⟩
  rcases hr.2 with ⟨hv, _⟩ | ⟨g, cap, cur, hv, hb, hg, hle, hm, hs, _⟩
  · cases hv; exact .inl ⟨rfl, rfl⟩
  · cases hv; exact .inr ⟨g, c, cur, rfl, hb, hg, Nat.zero_le _, hm, hs, by simp⟩
/-- the samples are let go, their memory is not -/
theorem PlT.clear {a : Option Addr} {m c : Nat} (T : PlT W b h sv0 rv0 n (.slice a m c) rv one row rows t x w) (hm : one.length = m) : PlT W b h sv0 rv0 n (.slice a 0 c) rv [] row rows t x (w.setCell ⟨b, 5, none⟩ (.slice a 0 c)) := by
  have hs := T.s
  rw [hm] at hs
  refine ⟨T.c.put5 _, set_ownsRow (ownsRow_zero hs) (Nat.lt_succ_self b) _, set_ownsRow T.r (Nat.lt_succ_self b) _, T.f.trans (.setCell _ (.inl rfl) _), ?_, T.nr⟩
  have e : (Value.slice a 0 c).ownBlock = (Value.slice a m c).ownBlock := by cases a <;> rfl
  unfold PlNew; rw [e]; exact T.ns
theorem new_at {W : World} {v0 v : Value} {k H : Nat} {n c : Nat} (hv : PlNew W v0 v) (hat : v.ownBlock = some k ∨ k = H) (hH : W.heap.size ≤ H) : PlNew W v0 (.slice (some ⟨k, 0, none⟩) n c) := by
  rcases hat with e | rfl
  · unfold PlNew; show some k = _ ∨ ∀ j, some k = some j → _
    rcases hv with hv | hv
    · left; rw [← hv, e]
    · right; intro j hj; cases hj; exact hv k e
  · right; intro j hj; cases hj; exact hH
theorem zone_of {W : World} {b : Nat} {v0 v z : Value} {k : Nat} (hv : PlNew W v0 v) (e : v.ownBlock = some k) (hk : k < W.heap.size) : v0.ownBlock = some k := by
  rcases hv with hv | hv
  · rw [← hv, e]
  · have := hv k e; omega
/-- a sample more -/
theorem PlT.pushS (T : PlT W b h sv0 rv0 n sv rv one row rows t x w) (hte : 3 ≠ 88) (o : Obj) (y : Int) {w5 : World} {g cc : Nat}
    (hown : w5.ownsRow (b + 1) 3 1 (.slice (some ⟨g, 0, none⟩) (one.length + 1) cc) (one.length + 1) (ints one ++ [.int .i64 y])) (hgrow : (w.alloc o).grownBy w5 sv.ownBlock) (hat : sv.ownBlock = some g ∨ g = (w.alloc o).heap.size) :
    PlC w5 b h n sv rv rows t 0 x ∧ PlT W b h sv0 rv0 n (.slice (some ⟨g, 0, none⟩) (one.length + 1) cc) rv (one ++ [y]) row rows t x (w5.setCell ⟨b, 5, none⟩ (.slice (some ⟨g, 0, none⟩) (one.length + 1) cc)) := by
  have c5 := (T.c.alloc o).kept hgrow T.nes
  have r5 := (T.r.alloc o).kept hgrow (apart_rows (Ne.symm hte) T.r T.s)
  refine ⟨c5, c5.put5 _, ?_, set_ownsRow r5 (Nat.lt_succ_self b) _, ⟨hgrow.os.trans T.f.os, hgrow.tape.trans T.f.tape, hgrow.output.trans T.f.output, ?_, ?_⟩, new_at T.ns hat (by have := T.f.size; simp; omega), T.nr⟩
  · have := set_ownsRow hown (a := ⟨b, 5, none⟩) (Nat.lt_succ_self b) (.slice (some ⟨g, 0, none⟩) (one.length + 1) cc)
    unfold ints at this ⊢
    rw [List.length_append, List.map_append]; exact this
  · have h1 := T.f.size; have h2 := hgrow.size; simp at h2 ⊢; omega
  · intro k hk hz
    have h1 := T.f.size
    rw [Below.heap_setCell _ _ _ _ (fun e => hz (.inl e)), hgrow.block k (by simp; omega) (fun e => hz (.inr (.inl (zone_of (b := b) (z := rv) T.ns e.symm hk))))]
    rw [Below.heap_alloc _ _ _ (by omega)]
    exact T.f.block k hk hz
/-- a pixel more -/
theorem PlT.pushR (T : PlT W b h sv0 rv0 n sv rv one row rows t x w) (hte : 3 ≠ 88) (o : Obj) (y : Int) {w5 : World} {g cc : Nat}
    (hown : w5.ownsRow (b + 1) 88 1 (.slice (some ⟨g, 0, none⟩) (row.length + 1) cc) (row.length + 1) (pixs row ++ [.int .u64 y])) (hgrow : (w.alloc o).grownBy w5 rv.ownBlock) (hat : rv.ownBlock = some g ∨ g = (w.alloc o).heap.size) :
    PlC w5 b h n sv rv rows t 0 x ∧ PlT W b h sv0 rv0 n sv (.slice (some ⟨g, 0, none⟩) (row.length + 1) cc) one (row ++ [y]) rows t x (w5.setCell ⟨b, 6, none⟩ (.slice (some ⟨g, 0, none⟩) (row.length + 1) cc)) := by
  have c5 := (T.c.alloc o).kept hgrow T.ner
  have s5 := (T.s.alloc o).kept hgrow (apart_rows hte T.s T.r)
  refine ⟨c5, c5.put6 _, set_ownsRow s5 (Nat.lt_succ_self b) _, ?_, ⟨hgrow.os.trans T.f.os, hgrow.tape.trans T.f.tape, hgrow.output.trans T.f.output, ?_, ?_⟩, T.ns, new_at T.nr hat (by have := T.f.size; simp; omega)⟩
  · have := set_ownsRow hown (a := ⟨b, 6, none⟩) (Nat.lt_succ_self b) (.slice (some ⟨g, 0, none⟩) (row.length + 1) cc)
    unfold pixs at this ⊢
    rw [List.length_append, List.map_append]; exact this
  · have h1 := T.f.size; have h2 := hgrow.size; simp at h2 ⊢; omega
  · intro k hk hz
    have h1 := T.f.size
    rw [Below.heap_setCell _ _ _ _ (fun e => hz (.inl e)), hgrow.block k (by simp; omega) (fun e => hz (.inr (.inr (zone_of (b := b) (z := rv) T.nr e.symm hk))))]
    rw [Below.heap_alloc _ _ _ (by omega)]
    exact T.f.block k hk hz
end
end Go.Proofs.Ytldhhhmihfcalaa
