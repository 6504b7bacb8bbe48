/- A reader of digits in a block of its own, over any memory: what it is made of, and what its small parts do. Condition: its head may be. -/
import Derived.Test.YtflpocnbmpdhiaaZgAA
import Derived.BigQuiet
import Derived.Deep.QuietTactic
import Derived.Laws.EntriesVeiled
import Derived.Deep.AppendLies
import Derived.Deep.RegionLaw
import Derived.Deep.RegionHeld3
import Derived.Test.YtflpocnbmpdhiaaProg
import Derived.WalkKit
import Derived.WalkSpells
import Derived.WalkLawsBesides
import Derived.Handy
import Derived.Lib.Hide
import Derived.Laws.CopyOwn
import Derived.Laws.MakeOwn
import Derived.Deep.OwnRows
import Derived.IntWalk
import Derived.LoopN
import Derived.Laws.BitsAllLaws
import Derived.Deep.DeepCutAuto
namespace Go.Proofs.Ytflpocnbmpdhiaa
open Go.RowKit
set_option linter.unusedVariables false

/-- the eleven cells of a reader -/
def PlC (w : World) (b : Nat) (h : Hd.H) (n : Int) (sv rv : Value) (rows t f : Int) (x : Value) : Prop :=
  w.heap[b]? = some (.cells #[.int .i64 h.kd, .int .i64 h.w, .int .i64 h.h, .int .i64 h.m, .int .i64 n, sv, rv, .int .i64 rows, .int .i64 t, .int .i64 f, x] 147 (0, 0))
section
variable {w w' : World} {b : Nat} {h : Hd.H} {n : Int} {sv rv : Value} {rows t f : Int} {x : Value}
theorem PlC.lt (H : PlC w b h n sv rv rows t f x) : b < w.heap.size := (Array.getElem?_eq_some_iff.1 H).1
theorem PlC.later (H : PlC w b h n sv rv rows t f x) (hb : Below w.heap.size w w') : PlC w' b h n sv rv rows t f x := (hb.block b H.lt).trans H
theorem PlC.kept {row : Option Nat} (H : PlC w b h n sv rv rows t f x) (hg : w.grownBy w' row) (hne : some b ≠ row) : PlC w' b h n sv rv rows t f x := (hg.block b H.lt hne).trans H
theorem PlC.sep {Z : Nat → Prop} (H : PlC w b h n sv rv rows t f x) (hs : Sep Z w w') (hz : ¬ Z b) : PlC w' b h n sv rv rows t f x := (hs.block b H.lt hz).trans H
theorem PlC.drewN (H : PlC w b h n sv rv rows t f x) (k : Nat) : PlC (w.drewN k) b h n sv rv rows t f x := H
theorem PlC.drew (H : PlC w b h n sv rv rows t f x) : PlC w.drew b h n sv rv rows t f x := H
theorem PlC.alloc (H : PlC w b h n sv rv rows t f x) (o : Obj) : PlC (w.alloc o) b h n sv rv rows t f x := H.kept (World.grownBy_alloc w o none) (by simp)
theorem PlC.fr (H : PlC w b h n sv rv rows t f x) (o : Nat) : w.frozen? ⟨b, o, none⟩ = false := by have h' : w.heap[b]? = _ := H; simp [World.frozen?, h']
theorem PlC.c0 (H : PlC w b h n sv rv rows t f x) : w.cell? ⟨b, 0, none⟩ = some (.int .i64 h.kd) := by have h' : w.heap[b]? = _ := H; simp [World.cell?, h']
theorem PlC.c1 (H : PlC w b h n sv rv rows t f x) : w.cell? ⟨b, 1, none⟩ = some (.int .i64 h.w) := by have h' : w.heap[b]? = _ := H; simp [World.cell?, h']
theorem PlC.c2 (H : PlC w b h n sv rv rows t f x) : w.cell? ⟨b, 2, none⟩ = some (.int .i64 h.h) := by have h' : w.heap[b]? = _ := H; simp [World.cell?, h']
theorem PlC.c3 (H : PlC w b h n sv rv rows t f x) : w.cell? ⟨b, 3, none⟩ = some (.int .i64 h.m) := by have h' : w.heap[b]? = _ := H; simp [World.cell?, h']
theorem PlC.c4 (H : PlC w b h n sv rv rows t f x) : w.cell? ⟨b, 4, none⟩ = some (.int .i64 n) := by have h' : w.heap[b]? = _ := H; simp [World.cell?, h']
theorem PlC.c5 (H : PlC w b h n sv rv rows t f x) : w.cell? ⟨b, 5, none⟩ = some (sv) := by have h' : w.heap[b]? = _ := H; simp [World.cell?, h']
theorem PlC.c6 (H : PlC w b h n sv rv rows t f x) : w.cell? ⟨b, 6, none⟩ = some (rv) := by have h' : w.heap[b]? = _ := H; simp [World.cell?, h']
theorem PlC.c7 (H : PlC w b h n sv rv rows t f x) : w.cell? ⟨b, 7, none⟩ = some (.int .i64 rows) := by have h' : w.heap[b]? = _ := H; simp [World.cell?, h']
theorem PlC.c8 (H : PlC w b h n sv rv rows t f x) : w.cell? ⟨b, 8, none⟩ = some (.int .i64 t) := by have h' : w.heap[b]? = _ := H; simp [World.cell?, h']
theorem PlC.c9 (H : PlC w b h n sv rv rows t f x) : w.cell? ⟨b, 9, none⟩ = some (.int .i64 f) := by have h' : w.heap[b]? = _ := H; simp [World.cell?, h']
theorem PlC.c10 (H : PlC w b h n sv rv rows t f x) : w.cell? ⟨b, 10, none⟩ = some (x) := by have h' : w.heap[b]? = _ := H; simp [World.cell?, h']
theorem PlC.put4 (H : PlC w b h n sv rv rows t f x) (y : Int) : PlC (w.setCell ⟨b, 4, none⟩ (.int .i64 y)) b h y sv rv rows t f x := by
  have h' : w.heap[b]? = _ := H
  simpa [PlC] using Go.heap_setCell_same w b 4 _ _ (.int .i64 y) h'
theorem PlC.put5 (H : PlC w b h n sv rv rows t f x) (y : Value) : PlC (w.setCell ⟨b, 5, none⟩ y) b h n y rv rows t f x := by
  have h' : w.heap[b]? = _ := H
  simpa [PlC] using Go.heap_setCell_same w b 5 _ _ y h'
theorem PlC.put6 (H : PlC w b h n sv rv rows t f x) (y : Value) : PlC (w.setCell ⟨b, 6, none⟩ y) b h n sv y rows t f x := by
  have h' : w.heap[b]? = _ := H
  simpa [PlC] using Go.heap_setCell_same w b 6 _ _ y h'
theorem PlC.put7 (H : PlC w b h n sv rv rows t f x) (y : Int) : PlC (w.setCell ⟨b, 7, none⟩ (.int .i64 y)) b h n sv rv y t f x := by
  have h' : w.heap[b]? = _ := H
  simpa [PlC] using Go.heap_setCell_same w b 7 _ _ (.int .i64 y) h'
theorem PlC.put8 (H : PlC w b h n sv rv rows t f x) (y : Int) : PlC (w.setCell ⟨b, 8, none⟩ (.int .i64 y)) b h n sv rv rows y f x := by
  have h' : w.heap[b]? = _ := H
  simpa [PlC] using Go.heap_setCell_same w b 8 _ _ (.int .i64 y) h'
theorem PlC.put9 (H : PlC w b h n sv rv rows t f x) (y : Int) : PlC (w.setCell ⟨b, 9, none⟩ (.int .i64 y)) b h n sv rv rows t y x := by
  have h' : w.heap[b]? = _ := H
  simpa [PlC] using Go.heap_setCell_same w b 9 _ _ (.int .i64 y) h'
theorem PlC.put10 (H : PlC w b h n sv rv rows t f x) (y : Value) : PlC (w.setCell ⟨b, 10, none⟩ y) b h n sv rv rows t f y := by
  have h' : w.heap[b]? = _ := H
  simpa [PlC] using Go.heap_setCell_same w b 10 _ _ y h'
end
theorem plain_cells (w : World) (h : Hd.H) (sv rv : Value) (n rows t f : Int) (x : Value) : PlC (w.alloc (.cells #[.int .i64 h.kd, .int .i64 h.w, .int .i64 h.h, .int .i64 h.m, .int .i64 n, sv, rv, .int .i64 rows, .int .i64 t, .int .i64 f, x] 147)) w.heap.size h n sv rv rows t f x := World.alloc_heap_new w _
def stA : Value := .func (.func 101) #[] #[]
def stD : Value := .func (.func 125) #[] #[]
def stB : Value := .func (.func 102) #[] #[]
theorem enPA : ∀ args w, (callFunc 101 args).run Try.prog w = .ok (.enter 101 args) w := enters_of Try.func101 (by kernel_rfl) rfl
theorem enPD : ∀ args w, (callFunc 125 args).run Try.prog w = .ok (.enter 125 args) w := enters_of Try.func125 (by kernel_rfl) rfl
theorem enPB : ∀ args w, (callFunc 102 args).run Try.prog w = .ok (.enter 102 args) w := enters_of Try.func102 (by kernel_rfl) rfl
section
variable (w : World) (b : Nat) (h : Hd.H) (n : Int) (sv rv : Value) (rows t f : Int) (x : Value) (H : PlC w b h n sv rv rows t f x)
include H
set_option maxHeartbeats 1000000 in
/-- it is made wrong -/
theorem plWrong_any (er : Int) :
    Calls Try.prog 103 #[.pointer (some ⟨b, 0, none⟩), .int .i64 er] w fun e w' => e = .returned (.tuple #[]) ∧ PlC w' b h n sv rv rows 2 er x ∧ w.grownBy w' (some b) := by
  have hc8 := H.c8
  have hc9 := H.c9
  have f8 := H.fr 8
  have f9 := H.fr 9
  go_enter Try.func103, Try.ntmps103
  go_wp2
  go_end0
  exact ⟨rfl, (H.put8 _).put9 _, (grown_set _ _ _ _).trans (grown_set _ _ _ _)⟩
set_option maxHeartbeats 1000000 in
theorem plError_any :
    Calls Try.prog 79 #[.pointer (some ⟨b, 0, none⟩)] w fun e w' => e = .returned (.int .i64 f) ∧ w = w' := by
  have hc9 := H.c9
  go_enter Try.func79, Try.ntmps79
  go_wp2
  go_ret
  exact ⟨rfl, rfl⟩
end
section
variable (w : World) (b : Nat) (h : Hd.H) (n : Int) (sv rv : Value) (rows t f : Int) (x : Value) (H : PlC w b h n sv rv rows t f x) (n0 : 0 ≤ n) (n1 : n ≤ h.m) (m1 : h.m ≤ 65535) (c : Int) (c0 : 0 ≤ c) (c1 : c ≤ 255) (k er : Int) (hs : Nu.stepV n c h.m = (k, er))
include H n0 n1 m1 c0 c1 hs
set_option maxHeartbeats 1000000 in
theorem plDigit_range (he : er = 4) :
    Calls Try.prog 126 #[.pointer (some ⟨b, 0, none⟩), .int .u8 c] w fun e w' => e = .returned (.int .i64 5) ∧ PlC w' b h n sv rv rows t f x ∧ w.grownBy w' (some b) := by
  have hc3 := H.c3
  have hc4 := H.c4
  have HS : Hid (∀ W, Calls Try.prog 138 #[.int .i64 n, .int .u8 c, .int .i64 h.m] W fun r w' => r = .returned (.tuple #[.int .i64 k, .int .i64 er]) ∧ W = w') := fun W => step_two n c h.m n0 n1 (by omega) c0 c1 k er hs W
  subst he
  clear hs
  go_enter Try.func126, Try.ntmps126
  go_wp2_with (go_quiet ((go_at_call 138; exact Calls.quiet_of_same ((HS.out _).mono fun e w' hh => ⟨hh.1, hh.2.symm⟩))))
  go_ret
  exact ⟨rfl, H.drewN _, grown_drew _ _ _⟩
set_option maxHeartbeats 1000000 in
theorem plDigit_any (he : er ≠ 4) :
    Calls Try.prog 126 #[.pointer (some ⟨b, 0, none⟩), .int .u8 c] w fun e w' => e = .returned (.int .i64 er) ∧ PlC w' b h k sv rv rows t f x ∧ w.grownBy w' (some b) := by
  have hc3 := H.c3
  have hc4 := H.c4
  have f4 := H.fr 4
  have HS : Hid (∀ W, Calls Try.prog 138 #[.int .i64 n, .int .u8 c, .int .i64 h.m] W fun r w' => r = .returned (.tuple #[.int .i64 k, .int .i64 er]) ∧ W = w') := fun W => step_two n c h.m n0 n1 (by omega) c0 c1 k er hs W
  have ke : (er == 4) = false := by simpa using he
  clear hs he
  go_enter Try.func126, Try.ntmps126
  go_wp2_with (go_quiet ((go_at_call 138; exact Calls.quiet_of_same ((HS.out _).mono fun e w' hh => ⟨hh.1, hh.2.symm⟩))))
  go_ret
  exact ⟨rfl, (H.drewN _).put4 _, (grown_drew _ _ _).trans (grown_set _ _ _ _)⟩
end
/-- what a part of a reader hands back, and what its block holds then -/
def StR (w : World) (b : Nat) (h : Hd.H) (k : Int) (sv rv : Value) (rows : Int) (x : Value) (d : Bool) (er : Int) (e : Ending) (w' : World) : Prop :=
  e = .returned (.tuple #[.bool d, .int .i64 er]) ∧ PlC w' b h k sv rv rows 0 0 x ∧ w.grownBy w' (some b)
section
variable (w : World) (b : Nat) (h : Hd.H) (n : Int) (sv rv : Value) (rows : Int) (c : Int) (c0 : 0 ≤ c) (c1 : c ≤ 255)
include c0 c1
set_option maxHeartbeats 1000000 in
theorem plAhead_blank (hb : Tk.blank c = true) (H : PlC w b h n sv rv rows 0 0 stA) :
    Calls Try.prog 101 #[.pointer (some ⟨b, 0, none⟩), .int .u8 c] w (StR w b h n sv rv rows stA false 0) := by
  have HB : Hid (∀ W, Calls Try.prog 124 #[.int .u8 c] W fun e w' => e = .returned (.bool true) ∧ W = w') := fun W => by have := blank_any c c0 c1 W; rw [hb] at this; exact this
  clear hb
  go_enter Try.func101, Try.ntmps101
  go_wp2_with (go_at_call 124; refine (HB.out _).mono ?_; rintro e w1 ⟨rfl, rfl⟩)
  go_ret2
  exact ⟨rfl, H, .refl _ _⟩
set_option maxHeartbeats 1000000 in
theorem plAhead_digit (hb : Tk.blank c = false) (H : PlC w b h n sv rv rows 0 0 stA) (k er : Int)
    (hd : ∀ W, PlC W b h n sv rv rows 0 0 stD → Calls Try.prog 126 #[.pointer (some ⟨b, 0, none⟩), .int .u8 c] W fun e w' => e = .returned (.int .i64 er) ∧ PlC w' b h k sv rv rows 0 0 stD ∧ W.grownBy w' (some b)) :
    Calls Try.prog 101 #[.pointer (some ⟨b, 0, none⟩), .int .u8 c] w (StR w b h k sv rv rows stD false er) := by
  have HB : Hid (∀ W, Calls Try.prog 124 #[.int .u8 c] W fun e w' => e = .returned (.bool false) ∧ W = w') := fun W => by have := blank_any c c0 c1 W; rw [hb] at this; exact this
  have HD := Lib.hid hd
  have hc10 := H.c10
  have f10 := H.fr 10
  clear hb hd
  go_enter Try.func101, Try.ntmps101
  go_wp2_with (first | (go_at_call 124; refine (HB.out _).mono ?_; rintro e w1 ⟨rfl, rfl⟩) | (go_at_call 126; refine (HD.out _ (H.put10 _)).mono ?_; rintro e w2 ⟨rfl, h2, hg2⟩))
  go_ret2
  exact ⟨rfl, h2, (grown_set _ _ _ _).trans hg2⟩
set_option maxHeartbeats 1000000 in
theorem plBehind_digit (hb : Tk.blank c = false) (H : PlC w b h n sv rv rows 0 0 stD) (k er : Int)
    (hd : ∀ W, PlC W b h n sv rv rows 0 0 stD → Calls Try.prog 126 #[.pointer (some ⟨b, 0, none⟩), .int .u8 c] W fun e w' => e = .returned (.int .i64 er) ∧ PlC w' b h k sv rv rows 0 0 stD ∧ W.grownBy w' (some b)) :
    Calls Try.prog 125 #[.pointer (some ⟨b, 0, none⟩), .int .u8 c] w (StR w b h k sv rv rows stD false er) := by
  have HB : Hid (∀ W, Calls Try.prog 124 #[.int .u8 c] W fun e w' => e = .returned (.bool false) ∧ W = w') := fun W => by have := blank_any c c0 c1 W; rw [hb] at this; exact this
  have HD := Lib.hid hd
  clear hb hd
  go_enter Try.func125, Try.ntmps125
  go_wp2_with (first | (go_at_call 124; refine (HB.out _).mono ?_; rintro e w1 ⟨rfl, rfl⟩) | (go_at_call 126; refine (HD.out _ H).mono ?_; rintro e w2 ⟨rfl, h2, hg2⟩))
  go_ret2
  exact ⟨rfl, h2, hg2⟩
set_option maxHeartbeats 1000000 in
theorem plBehind_blank (hb : Tk.blank c = true) (H : PlC w b h n sv rv rows 0 0 stD) :
    Calls Try.prog 125 #[.pointer (some ⟨b, 0, none⟩), .int .u8 c] w (StR w b h n sv rv rows stA true 0) := by
  have HB : Hid (∀ W, Calls Try.prog 124 #[.int .u8 c] W fun e w' => e = .returned (.bool true) ∧ W = w') := fun W => by have := blank_any c c0 c1 W; rw [hb] at this; exact this
  have hc10 := H.c10
  have f10 := H.fr 10
  clear hb
  go_enter Try.func125, Try.ntmps125
  go_wp2_with (go_at_call 124; refine (HB.out _).mono ?_; rintro e w1 ⟨rfl, rfl⟩)
  go_ret2
  exact ⟨rfl, H.put10 _, grown_set _ _ _ _⟩
set_option maxHeartbeats 1000000 in
theorem plBit_blank (hb : Tk.blank c = true) (H : PlC w b h n sv rv rows 0 0 stB) :
    Calls Try.prog 102 #[.pointer (some ⟨b, 0, none⟩), .int .u8 c] w (StR w b h n sv rv rows stB false 0) := by
  have HB : Hid (∀ W, Calls Try.prog 124 #[.int .u8 c] W fun e w' => e = .returned (.bool true) ∧ W = w') := fun W => by have := blank_any c c0 c1 W; rw [hb] at this; exact this
  clear hb
  go_enter Try.func102, Try.ntmps102
  go_wp2_with (go_at_call 124; refine (HB.out _).mono ?_; rintro e w1 ⟨rfl, rfl⟩)
  go_ret2
  exact ⟨rfl, H, .refl _ _⟩
set_option maxHeartbeats 1000000 in
theorem plBit_no (hb : Tk.blank c = false) (h48 : c ≠ 48) (h49 : c ≠ 49) (H : PlC w b h n sv rv rows 0 0 stB) :
    Calls Try.prog 102 #[.pointer (some ⟨b, 0, none⟩), .int .u8 c] w (StR w b h n sv rv rows stB false 3) := by
  have HB : Hid (∀ W, Calls Try.prog 124 #[.int .u8 c] W fun e w' => e = .returned (.bool false) ∧ W = w') := fun W => by have := blank_any c c0 c1 W; rw [hb] at this; exact this
  have k8 : (c != 48) = true := by simpa using h48
  have k9 : (c != 49) = true := by simpa using h49
  clear hb h48 h49
  go_enter Try.func102, Try.ntmps102
  go_wp2_with (go_at_call 124; refine (HB.out _).mono ?_; rintro e w1 ⟨rfl, rfl⟩)
  go_ret2
  exact ⟨rfl, H, .refl _ _⟩
end
set_option maxHeartbeats 1000000 in
theorem plBit_yes (w : World) (b : Nat) (h : Hd.H) (n : Int) (sv rv : Value) (rows : Int) (c : Int) (hc : c = 48 ∨ c = 49) (H : PlC w b h n sv rv rows 0 0 stB) :
    Calls Try.prog 102 #[.pointer (some ⟨b, 0, none⟩), .int .u8 c] w (StR w b h (c - 48) sv rv rows stB true 0) := by
  have hc4 := H.c4
  have f4 := H.fr 4
  rcases hc with rfl | rfl
  · have HB : Hid (∀ W, Calls Try.prog 124 #[.int .u8 48] W fun e w' => e = .returned (.bool false) ∧ W = w') := fun W => blank_any 48 (by decide) (by decide) W
    go_enter Try.func102, Try.ntmps102
    go_wp2_with (go_at_call 124; refine (HB.out _).mono ?_; rintro e w1 ⟨rfl, rfl⟩)
    go_ret2
    exact ⟨rfl, H.put4 _, grown_set _ _ _ _⟩
  · have HB : Hid (∀ W, Calls Try.prog 124 #[.int .u8 49] W fun e w' => e = .returned (.bool false) ∧ W = w') := fun W => blank_any 49 (by decide) (by decide) W
    go_enter Try.func102, Try.ntmps102
    go_wp2_with (go_at_call 124; refine (HB.out _).mono ?_; rintro e w1 ⟨rfl, rfl⟩)
    go_ret2
    exact ⟨rfl, H.put4 _, grown_set _ _ _ _⟩
end Go.Proofs.Ytflpocnbmpdhiaa

/- A reader of digits: its samples' and its pixels' rows in memory of the call's own, and how they grow. No condition. -/
namespace Go.Proofs.Ytflpocnbmpdhiaa
open Go.RowKit
set_option linter.unusedVariables false

/-- the blocks that a reader may write into -/
def PlZ (b : Nat) (sv rv : Value) (k : Nat) : Prop := k = b ∨ sv.ownBlock = some k ∨ rv.ownBlock = some k
/-- a row lies where it lay, or in memory that was made since -/
def PlNew (W : World) (v v' : Value) : Prop := v'.ownBlock = v.ownBlock ∨ ∀ k, v'.ownBlock = some k → W.heap.size ≤ k
def ints (l : List Int) : List Value := l.map (Value.int .i64)
def pixs (l : List Int) : List Value := l.map (Value.int .u64)
theorem set_ownsRow {w : World} {base size n : Nat} {e : TypeId} {v : Value} {xs : List Value} (h : w.ownsRow base e size v n xs) {a : Addr} (ha : a.block < base) (y : Value) : (w.setCell a y).ownsRow base e size v n xs := by
  obtain ⟨h1, h2⟩ := h
  refine ⟨h1, ?_⟩
  rcases h2 with h2 | ⟨g, cap, cur, rfl, hbs, hg, r⟩
  · exact .inl h2
  · exact .inr ⟨g, cap, cur, rfl, hbs, (Below.heap_setCell w a y g (by omega)).trans hg, r⟩
theorem apart_rows {w : World} {b1 b2 s1 s2 k1 k2 : Nat} {e1 e2 : TypeId} (hne : e1 ≠ e2) {v1 v2 : Value} {x1 x2 : List Value} (h1 : w.ownsRow b1 e1 s1 v1 k1 x1) (h2 : w.ownsRow b2 e2 s2 v2 k2 x2) : v1.ownBlock = none ∨ v1.ownBlock ≠ v2.ownBlock := by
  rcases h1.2 with ⟨rfl, _⟩ | ⟨g, cap, cur, rfl, _, hg, _⟩
  · exact .inl rfl
  · right
    intro e
    rcases h2.2 with ⟨rfl, _⟩ | ⟨g2, cap2, cur2, rfl, _, hg2, _⟩
    · cases e
    · simp only [Value.ownBlock, Option.some.injEq] at e
      subst e
      rw [hg] at hg2
      simp only [Option.some.injEq, Obj.cells.injEq] at hg2
      exact hne hg2.2.1
theorem Sep.grownO {Z : Nat → Prop} {w w' : World} {r : Option Nat} (hg : w.grownBy w' r) (hz : ∀ k, r = some k → Z k) : Sep Z w w' :=
  ⟨hg.os, hg.tape, hg.output, hg.size, fun j hj hn => hg.block j hj (fun e => hn (hz j e.symm))⟩
/-- a reader that is neither wrong nor told its fault: its block and its rows, and what is so of them against the world W in which it was sv, rv -/
structure PlT (W : World) (b : Nat) (h : Hd.H) (sv0 rv0 : Value) (n : Int) (sv rv : Value) (one row : List Int) (rows t : Int) (x : Value) (w : World) : Prop where
  c : PlC w b h n sv rv rows t 0 x
  s : w.ownsRow (b + 1) 3 1 sv one.length (ints one)
  r : w.ownsRow (b + 1) 71 1 rv row.length (pixs row)
  f : Sep (PlZ b sv0 rv0) W w
  ns : PlNew W sv0 sv
  nr : PlNew W rv0 rv
theorem below_row {w w' : World} {base size k : Nat} {e : TypeId} {v : Value} {xs : List Value} (hr : w.ownsRow base e size v k xs) (hb : Below w.heap.size w w') : w'.ownsRow base e size v k xs :=
  hr.kept (row := none) ⟨hb.os, hb.tape, hb.output, hb.size, fun k hk _ => hb.block k hk⟩ (by cases hv : v.ownBlock <;> simp)
section
variable {W w : World} {b : Nat} {h : Hd.H} {sv0 rv0 : Value} {n : Int} {sv rv : Value} {one row : List Int} {rows t : Int} {x : Value}
theorem PlT.start (c : PlC w b h n sv rv rows t 0 x) (s : w.ownsRow (b + 1) 3 1 sv one.length (ints one)) (r : w.ownsRow (b + 1) 71 1 rv row.length (pixs row)) : PlT w b h sv rv n sv rv one row rows t x w :=
  ⟨c, s, r, .refl _ _, .inl rfl, .inl rfl⟩
theorem PlT.bls (T : PlT W b h sv0 rv0 n sv rv one row rows t x w) : ∀ k, sv.ownBlock = some k → b + 1 ≤ k := fun k hk => (T.s.lt k hk).1
theorem PlT.blr (T : PlT W b h sv0 rv0 n sv rv one row rows t x w) : ∀ k, rv.ownBlock = some k → b + 1 ≤ k := fun k hk => (T.r.lt k hk).1
theorem PlT.nes (T : PlT W b h sv0 rv0 n sv rv one row rows t x w) : some b ≠ sv.ownBlock := fun e => by have := T.bls b e.symm; omega
theorem PlT.ner (T : PlT W b h sv0 rv0 n sv rv one row rows t x w) : some b ≠ rv.ownBlock := fun e => by have := T.blr b e.symm; omega
theorem PlT.below (T : PlT W b h sv0 rv0 n sv rv one row rows t x w) {w' : World} (hb : Below w.heap.size w w') : PlT W b h sv0 rv0 n sv rv one row rows t x w' :=
  ⟨T.c.later hb, below_row T.s hb, below_row T.r hb, ⟨hb.os.trans T.f.os, hb.tape.trans T.f.tape, hb.output.trans T.f.output, Nat.le_trans T.f.size hb.size, fun k hk hz => (hb.block k (Nat.lt_of_lt_of_le hk T.f.size)).trans (T.f.block k hk hz)⟩, T.ns, T.nr⟩
theorem PlT.drew (T : PlT W b h sv0 rv0 n sv rv one row rows t x w) : PlT W b h sv0 rv0 n sv rv one row rows t x w.drew := ⟨T.c, T.s, T.r, T.f.trans (.drew _ _), T.ns, T.nr⟩
theorem PlT.set4 (T : PlT W b h sv0 rv0 n sv rv one row rows t x w) (y : Int) : PlT W b h sv0 rv0 y sv rv one row rows t x (w.setCell ⟨b, 4, none⟩ (.int .i64 y)) :=
  ⟨T.c.put4 y, set_ownsRow T.s (Nat.lt_succ_self b) _, set_ownsRow T.r (Nat.lt_succ_self b) _, T.f.trans (.setCell _ (.inl rfl) _), T.ns, T.nr⟩
theorem PlT.set7 (T : PlT W b h sv0 rv0 n sv rv one row rows t x w) (y : Int) : PlT W b h sv0 rv0 n sv rv one row y t x (w.setCell ⟨b, 7, none⟩ (.int .i64 y)) :=
  ⟨T.c.put7 y, set_ownsRow T.s (Nat.lt_succ_self b) _, set_ownsRow T.r (Nat.lt_succ_self b) _, T.f.trans (.setCell _ (.inl rfl) _), T.ns, T.nr⟩
theorem PlT.set8 (T : PlT W b h sv0 rv0 n sv rv one row rows t x w) (y : Int) : PlT W b h sv0 rv0 n sv rv one row rows y x (w.setCell ⟨b, 8, none⟩ (.int .i64 y)) :=
  ⟨T.c.put8 y, set_ownsRow T.s (Nat.lt_succ_self b) _, set_ownsRow T.r (Nat.lt_succ_self b) _, T.f.trans (.setCell _ (.inl rfl) _), T.ns, T.nr⟩
/-- the pixels' row is let go -/
theorem PlT.free (T : PlT W b h sv0 rv0 n sv rv one row rows t x w) : PlT W b h sv0 rv0 n sv (.slice none 0 0) one [] rows t x (w.setCell ⟨b, 6, none⟩ (.slice none 0 0)) :=
  ⟨T.c.put6 _, set_ownsRow T.s (Nat.lt_succ_self b) _, World.ownsRow_nil _ _ _ _, T.f.trans (.setCell _ (.inl rfl) _), T.ns, .inr fun k hk => by cases hk⟩
theorem ownsRow_zero {base : Nat} {e : TypeId} {size m c : Nat} {a : Option Addr} {xs : List Value} (hr : w.ownsRow base e size (.slice a m c) m xs) : w.ownsRow base e size (.slice a 0 c) 0 [] := by
  refine ⟨by simp, ?_⟩
  rcases hr.2 with ⟨hv, _⟩ | ⟨g, cap, cur, hv, hb, hg, hle, hm, hs, _⟩
  · cases hv; exact .inl ⟨rfl, rfl⟩
  · cases hv; exact .inr ⟨g, c, cur, rfl, hb, hg, Nat.zero_le _, hm, hs, by simp⟩
/-- the samples are let go, their memory is not -/
theorem PlT.clear {a : Option Addr} {m c : Nat} (T : PlT W b h sv0 rv0 n (.slice a m c) rv one row rows t x w) (hm : one.length = m) : PlT W b h sv0 rv0 n (.slice a 0 c) rv [] row rows t x (w.setCell ⟨b, 5, none⟩ (.slice a 0 c)) := by
  have hs := T.s
  rw [hm] at hs
  refine ⟨T.c.put5 _, set_ownsRow (ownsRow_zero hs) (Nat.lt_succ_self b) _, set_ownsRow T.r (Nat.lt_succ_self b) _, T.f.trans (.setCell _ (.inl rfl) _), ?_, T.nr⟩
  have e : (Value.slice a 0 c).ownBlock = (Value.slice a m c).ownBlock := by cases a <;> rfl
  unfold PlNew; rw [e]; exact T.ns
theorem new_at {W : World} {v0 v : Value} {k H : Nat} {n c : Nat} (hv : PlNew W v0 v) (hat : v.ownBlock = some k ∨ k = H) (hH : W.heap.size ≤ H) : PlNew W v0 (.slice (some ⟨k, 0, none⟩) n c) := by
  rcases hat with e | rfl
  · unfold PlNew; show some k = _ ∨ ∀ j, some k = some j → _
    rcases hv with hv | hv
    · left; rw [← hv, e]
    · right; intro j hj; cases hj; exact hv k e
  · right; intro j hj; cases hj; exact hH
theorem zone_of {W : World} {b : Nat} {v0 v z : Value} {k : Nat} (hv : PlNew W v0 v) (e : v.ownBlock = some k) (hk : k < W.heap.size) : v0.ownBlock = some k := by
  rcases hv with hv | hv
  · rw [← hv, e]
  · have := hv k e; omega
/-- a sample more -/
theorem PlT.pushS (T : PlT W b h sv0 rv0 n sv rv one row rows t x w) (hte : 3 ≠ 71) (o : Obj) (y : Int) {w5 : World} {g cc : Nat}
    (hown : w5.ownsRow (b + 1) 3 1 (.slice (some ⟨g, 0, none⟩) (one.length + 1) cc) (one.length + 1) (ints one ++ [.int .i64 y])) (hgrow : (w.alloc o).grownBy w5 sv.ownBlock) (hat : sv.ownBlock = some g ∨ g = (w.alloc o).heap.size) :
    PlC w5 b h n sv rv rows t 0 x ∧ PlT W b h sv0 rv0 n (.slice (some ⟨g, 0, none⟩) (one.length + 1) cc) rv (one ++ [y]) row rows t x (w5.setCell ⟨b, 5, none⟩ (.slice (some ⟨g, 0, none⟩) (one.length + 1) cc)) := by
  have c5 := (T.c.alloc o).kept hgrow T.nes
  have r5 := (T.r.alloc o).kept hgrow (apart_rows (Ne.symm hte) T.r T.s)
  refine ⟨c5, c5.put5 _, ?_, set_ownsRow r5 (Nat.lt_succ_self b) _, ⟨hgrow.os.trans T.f.os, hgrow.tape.trans T.f.tape, hgrow.output.trans T.f.output, ?_, ?_⟩, new_at T.ns hat (by have := T.f.size; simp; omega), T.nr⟩
  · have := set_ownsRow hown (a := ⟨b, 5, none⟩) (Nat.lt_succ_self b) (.slice (some ⟨g, 0, none⟩) (one.length + 1) cc)
    unfold ints at this ⊢
    rw [List.length_append, List.map_append]; exact this
  · have h1 := T.f.size; have h2 := hgrow.size; simp at h2 ⊢; omega
  · intro k hk hz
    have h1 := T.f.size
    rw [Below.heap_setCell _ _ _ _ (fun e => hz (.inl e)), hgrow.block k (by simp; omega) (fun e => hz (.inr (.inl (zone_of (b := b) (z := rv) T.ns e.symm hk))))]
    rw [Below.heap_alloc _ _ _ (by omega)]
    exact T.f.block k hk hz
/-- a pixel more -/
theorem PlT.pushR (T : PlT W b h sv0 rv0 n sv rv one row rows t x w) (hte : 3 ≠ 71) (o : Obj) (y : Int) {w5 : World} {g cc : Nat}
    (hown : w5.ownsRow (b + 1) 71 1 (.slice (some ⟨g, 0, none⟩) (row.length + 1) cc) (row.length + 1) (pixs row ++ [.int .u64 y])) (hgrow : (w.alloc o).grownBy w5 rv.ownBlock) (hat : rv.ownBlock = some g ∨ g = (w.alloc o).heap.size) :
    PlC w5 b h n sv rv rows t 0 x ∧ PlT W b h sv0 rv0 n sv (.slice (some ⟨g, 0, none⟩) (row.length + 1) cc) one (row ++ [y]) rows t x (w5.setCell ⟨b, 6, none⟩ (.slice (some ⟨g, 0, none⟩) (row.length + 1) cc)) := by
  have c5 := (T.c.alloc o).kept hgrow T.ner
  have s5 := (T.s.alloc o).kept hgrow (apart_rows hte T.s T.r)
  refine ⟨c5, c5.put6 _, set_ownsRow s5 (Nat.lt_succ_self b) _, ?_, ⟨hgrow.os.trans T.f.os, hgrow.tape.trans T.f.tape, hgrow.output.trans T.f.output, ?_, ?_⟩, T.ns, new_at T.nr hat (by have := T.f.size; simp; omega)⟩
  · have := set_ownsRow hown (a := ⟨b, 6, none⟩) (Nat.lt_succ_self b) (.slice (some ⟨g, 0, none⟩) (row.length + 1) cc)
    unfold pixs at this ⊢
    rw [List.length_append, List.map_append]; exact this
  · have h1 := T.f.size; have h2 := hgrow.size; simp at h2 ⊢; omega
  · intro k hk hz
    have h1 := T.f.size
    rw [Below.heap_setCell _ _ _ _ (fun e => hz (.inl e)), hgrow.block k (by simp; omega) (fun e => hz (.inr (.inr (zone_of (b := b) (z := rv) T.nr e.symm hk))))]
    rw [Below.heap_alloc _ _ _ (by omega)]
    exact T.f.block k hk hz
end
end Go.Proofs.Ytflpocnbmpdhiaa

/- What the smallest functions of pix and of the document's own answer come to, over any memory. Condition: numbers fit their kinds. -/
namespace Go.Proofs.Ytflpocnbmpdhiaa
open Go.RowKit
set_option linter.unusedVariables false
namespace Pq
theorem ret_i {k : IntKind} {a b : Int} (h : a = b) : Ending.returned (.int k a) = .returned (.int k b) := by rw [h]
theorem ret_b {a b : Bool} (h : a = b) : Ending.returned (.bool a) = .returned (.bool b) := by rw [h]
theorem ret_split {a b c n a' b' c' : Int} (h1 : a = a') (h2 : b = b') (h3 : c = c') :
    Ending.returned (.tuple #[.agg #[.int .i64 a, .int .i64 b, .int .i64 c], .int .i64 n]) = .returned (.tuple #[.agg #[.int .i64 a', .int .i64 b', .int .i64 c'], .int .i64 n]) := by rw [h1, h2, h3]

set_option maxHeartbeats 400000 in
theorem split3 (p a b c : Int) (h : Px.Is3 p a b c) (w : World) :
    Calls Try.prog 110 #[.int .u64 p] w fun e w' => e = .returned (.tuple #[.agg #[.int .i64 a, .int .i64 b, .int .i64 c], .int .i64 3]) ∧ Below w.heap.size w w' := by
  have H := h
  obtain ⟨hp, ha0, ha1, hb0, hb1, hc0, hc1⟩ := h
  have h0 : 0 ≤ p := by omega
  have h1 : p ≤ 18446744073709551615 := by omega
  have hh : p / 281474976710656 = 3 := by omega
  have ht : ((p - 844424930131968) / 65536 / 65536 / 65536 != 0) = false := by rw [bne_eq_false_iff_eq]; omega
  have x1 : wrap64 (bits .and .u64 ((p - 844424930131968) / 65536 / 65536) 65535) = a := by rw [Px.and16 _ (by omega) (by omega), IntWalk.wrap64_in] <;> omega
  have x2 : wrap64 (bits .and .u64 ((p - 844424930131968) / 65536) 65535) = b := by rw [Px.and16 _ (by omega) (by omega), IntWalk.wrap64_in] <;> omega
  have x3 : wrap64 (bits .and .u64 (p - 844424930131968) 65535) = c := by rw [Px.and16 _ (by omega) (by omega), IntWalk.wrap64_in] <;> omega
  clear hp
  have X1 := Lib.hid x1; clear x1
  have X2 := Lib.hid x2; clear x2
  have X3 := Lib.hid x3; clear x3
  go_enter Try.func110, Try.ntmps110
  go_wp2
  go_rounds 4
  go_returns
  exact ⟨ret_split X1.out X2.out X3.out, by go_grown⟩

set_option maxHeartbeats 400000 in
theorem split1 (p a : Int) (h : Px.Is1 p a) (w : World) :
    Calls Try.prog 110 #[.int .u64 p] w fun e w' => e = .returned (.tuple #[.agg #[.int .i64 a, .int .i64 0, .int .i64 0], .int .i64 1]) ∧ Below w.heap.size w w' := by
  obtain ⟨hp, ha0, ha1⟩ := h
  have h0 : 0 ≤ p := by omega
  have h1 : p ≤ 18446744073709551615 := by omega
  have hh : p / 281474976710656 = 1 := by omega
  have ht : ((p - 281474976710656) / 65536 != 0) = false := by rw [bne_eq_false_iff_eq]; omega
  have x1 : wrap64 (bits .and .u64 (p - 281474976710656) 65535) = a := by rw [Px.and16 _ (by omega) (by omega), IntWalk.wrap64_in] <;> omega
  clear hp
  have X1 := Lib.hid x1; clear x1
  go_enter Try.func110, Try.ntmps110
  go_wp2
  go_rounds 2
  go_returns
  exact ⟨ret_split X1.out rfl rfl, by go_grown⟩

set_option maxHeartbeats 400000 in
theorem split0 (p : Int) (hU : Px.U p) (h : Px.Is0 p) (w : World) :
    Calls Try.prog 110 #[.int .u64 p] w fun e w' => e = .returned (.tuple #[.agg #[.int .i64 0, .int .i64 0, .int .i64 0], .int .i64 0]) ∧ Below w.heap.size w w' := by
  obtain ⟨h0, h1⟩ := hU
  obtain ⟨h3, h2⟩ := h
  unfold Px.hiP at h3 h2
  unfold Px.loP at h2
  by_cases hh : p / 281474976710656 = 1
  · have ht : ((p - 281474976710656) / 65536 != 0) = true := by rw [bne_iff_ne]; omega
    clear h3 h2
    go_enter Try.func110, Try.ntmps110
    go_wp2
    go_rounds 2
    go_returns
    exact ⟨rfl, by go_grown⟩
  · have k1 : (p / 281474976710656 != 1) = true := by rw [bne_iff_ne]; omega
    have k3 : (p / 281474976710656 != 3) = true := by rw [bne_iff_ne]; omega
    clear h3 h2 hh
    go_enter Try.func110, Try.ntmps110
    go_wp2
    go_returns
    exact ⟨rfl, by go_grown⟩

set_option maxHeartbeats 400000 in
theorem join3 (blk off cap : Nat) (a b c : Int) (ha0 : 0 ≤ a) (ha1 : a ≤ 65535) (hb0 : 0 ≤ b) (hb1 : b ≤ 65535) (hc0 : 0 ≤ c) (hc1 : c ≤ 65535) (w : World)
    (c0 : w.cell? ⟨blk, off, none⟩ = some (.int .i64 a)) (c1 : w.cell? ⟨blk, off + 1, none⟩ = some (.int .i64 b)) (c2 : w.cell? ⟨blk, off + 2, none⟩ = some (.int .i64 c)) :
    Calls Try.prog 132 #[.slice (some ⟨blk, off, none⟩) 3 cap] w fun e w' => e = .returned (.int .u64 (844424930131968 + a * 4294967296 + b * 65536 + c)) ∧ w = w' := by
  have X := Lib.hid (Px.join3v a b c ha0 ha1 hb0 hb1 hc0 hc1)
  go_enter Try.func132, Try.ntmps132
  go_wp2
  go_rounds 4
  go_ret
  exact ⟨ret_i X.out, rfl⟩

set_option maxHeartbeats 400000 in
theorem join1 (blk off cap : Nat) (a : Int) (ha0 : 0 ≤ a) (ha1 : a ≤ 65535) (w : World)
    (c0 : w.cell? ⟨blk, off, none⟩ = some (.int .i64 a)) :
    Calls Try.prog 132 #[.slice (some ⟨blk, off, none⟩) 1 cap] w fun e w' => e = .returned (.int .u64 (281474976710656 + a)) ∧ w = w' := by
  have X := Lib.hid (Px.join1v a ha0 ha1)
  go_enter Try.func132, Try.ntmps132
  go_wp2
  go_rounds 2
  go_ret
  exact ⟨ret_i X.out, rfl⟩

theorem mayMaxval_any (n : Int) (w : World) :
    Calls Try.prog 133 #[.int .i64 n] w fun e w' => e = .returned (.bool (Px.okM n)) ∧ w = w' := by
  by_cases h1 : 1 ≤ n
  · by_cases h2 : n ≤ 65535
    · have X := Lib.hid (show Px.okM n = true by simp [Px.okM, h1, h2])
      go_enter Try.func133, Try.ntmps133
      go_wp2
      go_ret
      exact ⟨ret_b X.out.symm, rfl⟩
    · have X := Lib.hid (show Px.okM n = false by simp [Px.okM, h2])
      go_enter Try.func133, Try.ntmps133
      go_wp2
      go_ret
      exact ⟨ret_b X.out.symm, rfl⟩
  · have X := Lib.hid (show Px.okM n = false by simp [Px.okM, h1])
    go_enter Try.func133, Try.ntmps133
    go_wp2
    go_ret
    exact ⟨ret_b X.out.symm, rfl⟩

theorem in_any (n : Int) (w : World) :
    Calls Try.prog 92 #[.int .i64 n] w fun e w' => e = .returned (.bool (Px.okS n)) ∧ w = w' := by
  by_cases h1 : 0 ≤ n
  · by_cases h2 : n ≤ 65535
    · have X := Lib.hid (show Px.okS n = true by simp [Px.okS, h1, h2])
      go_enter Try.func92, Try.ntmps92
      go_wp2
      go_ret
      exact ⟨ret_b X.out.symm, rfl⟩
    · have X := Lib.hid (show Px.okS n = false by simp [Px.okS, h2])
      go_enter Try.func92, Try.ntmps92
      go_wp2
      go_ret
      exact ⟨ret_b X.out.symm, rfl⟩
  · have X := Lib.hid (show Px.okS n = false by simp [Px.okS, h1])
    go_enter Try.func92, Try.ntmps92
    go_wp2
    go_ret
    exact ⟨ret_b X.out.symm, rfl⟩


theorem around_any (n m : Int) (hn : Px.I n) (hm : 0 < m) (hm' : m ≤ 9223372036854775807) (w : World) :
    Calls Try.prog 15 #[.int .i64 n, .int .i64 m] w fun e w' => e = .returned (.int .i64 (Px.aroundV n m)) ∧ w = w' := by
  obtain ⟨h1, h2⟩ := hn
  have hz : (m == 0) = false := by simp; omega
  by_cases h : n < 0
  · have X := Lib.hid (show -((n + 1).tmod m) = Px.aroundV n m by unfold Px.aroundV; rw [if_pos h, ← Int.neg_tmod, Int.tmod_eq_emod_of_nonneg (by omega)])
    have e1 : 0 ≤ -(n + 1) := by omega
    go_enter Try.func15, Try.ntmps15
    go_wp2
    go_ret
    exact ⟨ret_i X.out, rfl⟩
  · have X := Lib.hid (show n % m = Px.aroundV n m by unfold Px.aroundV; rw [if_neg h])
    go_enter Try.func15, Try.ntmps15
    go_wp2
    go_ret
    exact ⟨ret_i X.out, rfl⟩

theorem ret_pack {a b a' b' : Int} (h : (a, b) = (a', b')) : Ending.returned (.tuple #[.int .u64 a, .int .i64 b]) = .returned (.tuple #[.int .u64 a', .int .i64 b']) := by
  cases h; rfl

/-- WHAT IS KNOWN OF A SLICE OF INTEGERS: its length, and what its cells hold. -/
def Sl (w : World) (a : Option Addr) (len : Nat) (zs : List Int) : Prop :=
  zs.length = len ∧ (len = 0 ∨ ∃ blk off, a = some ⟨blk, off, none⟩ ∧ ∀ i, i < len → w.cell? ⟨blk, off + i, none⟩ = some (.int .i64 (zs.getD i 0)))
theorem Sl.below {w w' : World} {a : Option Addr} {n : Nat} {zs : List Int} (h : Sl w a n zs) (hb : Below w.heap.size w w') : Sl w' a n zs := by
  obtain ⟨h1, h2⟩ := h
  refine ⟨h1, ?_⟩
  rcases h2 with h2 | ⟨blk, off, ha, hc⟩
  · exact .inl h2
  · refine .inr ⟨blk, off, ha, fun i hi => ?_⟩
    exact cell_later hb (hc i hi)
theorem sl1 {w : World} {blk off : Nat} {a : Int} (h0 : w.cell? ⟨blk, off, none⟩ = some (.int .i64 a)) : Sl w (some ⟨blk, off, none⟩) 1 [a] :=
  ⟨rfl, .inr ⟨blk, off, rfl, fun i hi => by obtain rfl : i = 0 := by omega
                                            simpa using h0⟩⟩
theorem sl3 {w : World} {blk off : Nat} {a b c : Int} (h0 : w.cell? ⟨blk, off, none⟩ = some (.int .i64 a)) (h1 : w.cell? ⟨blk, off + 1, none⟩ = some (.int .i64 b)) (h2 : w.cell? ⟨blk, off + 2, none⟩ = some (.int .i64 c)) : Sl w (some ⟨blk, off, none⟩) 3 [a, b, c] :=
  ⟨rfl, .inr ⟨blk, off, rfl, fun i hi => by
    obtain rfl | rfl | rfl : i = 0 ∨ i = 1 ∨ i = 2 := by omega
    · simpa using h0
    · simpa using h1
    · simpa using h2⟩⟩

theorem sl_three {w : World} {a : Option Addr} {zs : List Int} (hs : Sl w a 3 zs) :
    ∃ blk off x y z, a = some ⟨blk, off, none⟩ ∧ zs = [x, y, z] ∧ w.cell? ⟨blk, off, none⟩ = some (.int .i64 x) ∧ w.cell? ⟨blk, off + 1, none⟩ = some (.int .i64 y) ∧ w.cell? ⟨blk, off + 2, none⟩ = some (.int .i64 z) := by
  obtain ⟨hz, hc⟩ := hs
  obtain ⟨x, y, z, rfl⟩ : ∃ x y z, zs = [x, y, z] := by
    match zs, hz with
    | [x, y, z], _ => exact ⟨x, y, z, rfl⟩
  rcases hc with hc | ⟨blk, off, rfl, hc⟩
  · omega
  exact ⟨blk, off, x, y, z, rfl, rfl, by simpa using hc 0 (by omega), by simpa using hc 1 (by omega), by simpa using hc 2 (by omega)⟩
theorem sl_one {w : World} {a : Option Addr} {zs : List Int} (hs : Sl w a 1 zs) :
    ∃ blk off x, a = some ⟨blk, off, none⟩ ∧ zs = [x] ∧ w.cell? ⟨blk, off, none⟩ = some (.int .i64 x) := by
  obtain ⟨hz, hc⟩ := hs
  obtain ⟨x, rfl⟩ : ∃ x, zs = [x] := by
    match zs, hz with
    | [x], _ => exact ⟨x, rfl⟩
  rcases hc with hc | ⟨blk, off, rfl, hc⟩
  · omega
  exact ⟨blk, off, x, rfl, rfl, by simpa using hc 0 (by omega)⟩

set_option maxHeartbeats 1000000 in
theorem pack_any (a : Option Addr) (len cap : Nat) (zs : List Int) (w : World) (hlen : len ≤ 9223372036854775807) (hs : Sl w a len zs) :
    Calls Try.prog 109 #[.slice a len cap] w fun e w' => e = .returned (.tuple #[.int .u64 (Px.packV zs).1, .int .i64 (Px.packV zs).2]) ∧ w = w' := by
  by_cases h3 : len = 3
  · subst h3
    obtain ⟨blk, off, x, y, z, rfl, rfl, c0, c1, c2⟩ := sl_three hs
    clear hs
    go_enter Try.func109, Try.ntmps109
    go_wp2
    refine wp_loop_rounds 4 ?_
    repeat any_goals (rw [rounds_succ]; go_wp2_with (go_at_call 132; go_call join3 _ _ _ x y z as e w' ⟨rfl, rfl⟩))
    all_goals go_ret2
    all_goals first | (refine ⟨ret_pack (Px.packV3_bad ?_).symm, rfl⟩; omega) | (refine ⟨ret_pack (Eq.trans ?_ (Px.packV3 ?_ ?_ ?_ ?_ ?_ ?_).symm), rfl⟩ <;> first | rfl | omega | (refine Prod.ext ?_ rfl; simp only []; omega))
  · by_cases h1 : len = 1
    · subst h1
      obtain ⟨blk, off, x, rfl, rfl, c0⟩ := sl_one hs
      clear hs
      go_enter Try.func109, Try.ntmps109
      go_wp2
      refine wp_loop_rounds 2 ?_
      repeat any_goals (rw [rounds_succ]; go_wp2_with (go_at_call 132; go_call join1 _ _ _ x as e w' ⟨rfl, rfl⟩))
      all_goals go_ret2
      all_goals first | (refine ⟨ret_pack (Px.packV1_bad ?_).symm, rfl⟩; omega) | (refine ⟨ret_pack (Eq.trans ?_ (Px.packV1 ?_ ?_).symm), rfl⟩ <;> first | rfl | omega | (refine Prod.ext ?_ rfl; simp only []; omega))
    · have X := Lib.hid (Px.packV_len (zs := zs) (by rw [hs.1]; exact h1) (by rw [hs.1]; exact h3))
      have k1 : ((len : Int) == 1) = false := by simp; omega
      have k3 : ((len : Int) == 3) = false := by simp; omega
      have m1 : ((len : Int) != 1) = true := by simp; omega
      have m3 : ((len : Int) != 3) = true := by simp; omega
      clear h1 h3
      go_enter Try.func109, Try.ntmps109
      go_wp2
      go_ret2
      exact ⟨ret_pack X.out.symm, rfl⟩

set_option maxHeartbeats 1000000 in
theorem refPack_any (a : Option Addr) (len cap : Nat) (zs : List Int) (w : World) (hlen : len ≤ 9223372036854775807) (hs : Sl w a len zs) :
    Calls Try.prog 62 #[.slice a len cap] w fun e w' => e = .returned (.tuple #[.int .u64 (Px.packV zs).1, .int .i64 (Px.packV zs).2]) ∧ w = w' := by
  by_cases h3 : len = 3
  · subst h3
    obtain ⟨blk, off, x, y, z, rfl, rfl, c0, c1, c2⟩ := sl_three hs
    clear hs
    cases hx : Px.okS x
    · have X := Lib.hid (Px.packV3_badS (x := x) (y := y) (z := z) (.inl hx))
      go_enter Try.func62, Try.ntmps62
      go_wp2
      refine wp_loop_rounds 4 ?_
      repeat any_goals (rw [rounds_succ]; go_wp2_with (go_at_call 92; refine (in_any _ _).mono ?_; rintro e w' ⟨rfl, rfl⟩))
      go_ret2
      exact ⟨ret_pack X.out.symm, rfl⟩
    obtain ⟨hx0, hx1⟩ := Px.okS_of hx
    cases hy : Px.okS y
    · have X := Lib.hid (Px.packV3_badS (x := x) (y := y) (z := z) (.inr (.inl hy)))
      go_enter Try.func62, Try.ntmps62
      go_wp2
      refine wp_loop_rounds 4 ?_
      repeat any_goals (rw [rounds_succ]; go_wp2_with (go_at_call 92; refine (in_any _ _).mono ?_; rintro e w' ⟨rfl, rfl⟩))
      go_ret2
      exact ⟨ret_pack X.out.symm, rfl⟩
    obtain ⟨hy0, hy1⟩ := Px.okS_of hy
    cases hz : Px.okS z
    · have X := Lib.hid (Px.packV3_badS (x := x) (y := y) (z := z) (.inr (.inr hz)))
      go_enter Try.func62, Try.ntmps62
      go_wp2
      refine wp_loop_rounds 4 ?_
      repeat any_goals (rw [rounds_succ]; go_wp2_with (go_at_call 92; refine (in_any _ _).mono ?_; rintro e w' ⟨rfl, rfl⟩))
      go_ret2
      exact ⟨ret_pack X.out.symm, rfl⟩
    obtain ⟨hz0, hz1⟩ := Px.okS_of hz
    have X := Lib.hid (show Px.packV [x, y, z] = ((x * 65536 + y) * 65536 + z + 844424930131968, 0) by rw [Px.packV3 hx0 hx1 hy0 hy1 hz0 hz1]; refine Prod.ext ?_ rfl; simp only []; omega)
    go_enter Try.func62, Try.ntmps62
    go_wp2
    refine wp_loop_rounds 4 ?_
    repeat any_goals (rw [rounds_succ]; go_wp2_with (go_at_call 92; refine (in_any _ _).mono ?_; rintro e w' ⟨rfl, rfl⟩))
    go_ret2
    exact ⟨ret_pack X.out.symm, rfl⟩
  · by_cases h1 : len = 1
    · subst h1
      obtain ⟨blk, off, x, rfl, rfl, c0⟩ := sl_one hs
      clear hs
      cases hx : Px.okS x
      · have X := Lib.hid (Px.packV1_badS (x := x) hx)
        go_enter Try.func62, Try.ntmps62
        go_wp2
        refine wp_loop_rounds 2 ?_
        repeat any_goals (rw [rounds_succ]; go_wp2_with (go_at_call 92; refine (in_any _ _).mono ?_; rintro e w' ⟨rfl, rfl⟩))
        go_ret2
        exact ⟨ret_pack X.out.symm, rfl⟩
      obtain ⟨hx0, hx1⟩ := Px.okS_of hx
      have X := Lib.hid (show Px.packV [x] = (x + 281474976710656, 0) by rw [Px.packV1 hx0 hx1]; refine Prod.ext ?_ rfl; simp only []; omega)
      go_enter Try.func62, Try.ntmps62
      go_wp2
      refine wp_loop_rounds 2 ?_
      repeat any_goals (rw [rounds_succ]; go_wp2_with (go_at_call 92; refine (in_any _ _).mono ?_; rintro e w' ⟨rfl, rfl⟩))
      go_ret2
      exact ⟨ret_pack X.out.symm, rfl⟩
    · have X := Lib.hid (Px.packV_len (zs := zs) (by rw [hs.1]; exact h1) (by rw [hs.1]; exact h3))
      have m1 : ((len : Int) != 1) = true := by simp; omega
      have m3 : ((len : Int) != 3) = true := by simp; omega
      clear h1 h3
      go_enter Try.func62, Try.ntmps62
      go_wp2
      go_ret2
      exact ⟨ret_pack X.out.symm, rfl⟩
end Pq
end Go.Proofs.Ytflpocnbmpdhiaa

/- A reader of digits takes a sample, over any memory. Condition: its head may be, its numbers are samples. -/
namespace Go.Proofs.Ytflpocnbmpdhiaa
open Go.RowKit
set_option linter.unusedVariables false

theorem Try.info_in8 : (Try.prog.info? 3).map (fun i => (i.zero, i.size, i.bytes)) = some (some (.int .i64 0), 1, 8) := by kernel_rfl
theorem Try.info_px8 : (Try.prog.info? 71).map (fun i => (i.zero, i.size, i.bytes)) = some (some (.int .u64 0), 1, 8) := by kernel_rfl
theorem one_new (w : World) (v : Value) (t : TypeId) : ∀ j u, ([v] : List Value)[j]? = some u → (w.alloc (.cells #[v] t)).cell? ((⟨w.heap.size, 0, none⟩ : Addr).add j) = some u := by
  intro j u hu
  cases j with
  | zero => simp at hu; subst hu; show (w.alloc _).cell? ⟨w.heap.size, 0, none⟩ = _; rw [World.cell?_alloc_at _ _ _ _ rfl]; rfl
  | succ j => simp at hu
theorem box1' (w : World) (o : Obj) : Below w.heap.size w (w.alloc o) := (Below.refl w.heap.size w).alloc (Nat.le_refl _) o
/-- what take hands back, and what its blocks hold then -/
def TakeR (W : World) (b : Nat) (h : Hd.H) (sv0 rv0 : Value) (x : Value) (one row : List Int) (rows t : Int) (out : List Int) (e : Ending) (w' : World) : Prop :=
  ∃ a c sv rv, e = .returned (.slice a out.length c) ∧ PlT W b h sv0 rv0 0 sv rv one row rows t x w' ∧ SlK .u64 w' a out.length out ∧ ∀ y, a = some y → y.block ≠ b
theorem sl_of_row {w : World} {base k : Nat} {v : Value} {l : List Int} {z : Int} (hz : l ++ [z] = l ++ [z]) (hr : w.ownsRow base 3 1 v k (ints l)) (hk : l.length = k) :
    ∃ a c, v = .slice a k c ∧ Pq.Sl w a k l := by
  rcases hr.2 with ⟨rfl, rfl⟩ | ⟨g, cap, cur, rfl, hb, hg, hle, hm, hs, ht⟩
  · exact ⟨none, 0, rfl, hk, .inl rfl⟩
  · refine ⟨_, cap, rfl, hk, .inr ⟨g, 0, rfl, fun i hi => ?_⟩⟩
    have hc := hr.cells (g := g) rfl i (.int .i64 (l.getD i 0)) (by simp [ints, List.getD_eq_getElem?_getD, List.getElem?_eq_getElem (show i < l.length by omega)])
    simpa [addrK_add] using hc
theorem slk_of_row {w : World} {base k : Nat} {a : Option Addr} {c : Nat} {l : List Int} (hr : w.ownsRow base 71 1 (.slice a k c) k (pixs l)) (hk : l.length = k) : SlK .u64 w a k l := by
  rcases hr.2 with ⟨hv, rfl⟩ | ⟨g, cap, cur, hv, hb, hg, hle, hm, hs, ht⟩
  · exact ⟨hk, .inl rfl⟩
  · cases hv
    refine ⟨hk, .inr ⟨g, 0, rfl, fun i hi => ?_⟩⟩
    have hc := hr.cells (g := g) rfl i (.int .u64 (l.getD i 0)) (by simp [pixs, List.getD_eq_getElem?_getD, List.getElem?_eq_getElem (show i < l.length by omega)])
    simpa [addrK_add] using hc

set_option maxRecDepth 100000 in
set_option maxHeartbeats 2000000 in
theorem take_more {b : Nat} {h : Hd.H} (hm : Pl.May h) {sv rv : Value} {n : Int} {one row : List Int} {rows : Int} {x : Value} {w : World} (T : PlT w b h sv rv n sv rv one row rows 0 x w) (ho4 : one.length ≤ 3) (hr4 : row.length ≤ 4096) (rows0 : 0 ≤ rows) (rows1 : rows < h.h) (hone : (one.length : Int) + 1 < Hj.chan h) :
    Calls Try.prog 104 #[.pointer (some ⟨b, 0, none⟩)] w (TakeR w b h sv rv x (one ++ [n]) row rows 0 []) := by
  have hmm := hm.m
  have hF := hformat_any h hm.1
  unfold Hj.fm agH at hF
  obtain ⟨C, hC⟩ : ∃ C, Hj.chan h = C := ⟨_, rfl⟩
  rw [hC] at hF hone
  have HF := Lib.hid hF
  have hfd := field0_run C h.m
  obtain ⟨i0, hi, hz0, hz1, hz2⟩ : ∃ i, Try.prog.info? 3 = some i ∧ i.zero = some (.int .i64 0) ∧ i.size = 1 ∧ i.bytes = 8 := (by have h := Try.info_in8; cases hh : Try.prog.info? 3 with | none => rw [hh] at h; cases h | some i => rw [hh] at h; simp at h; exact ⟨i, rfl, h.1, h.2.1, h.2.2⟩)
  obtain ⟨p0, pi, pz0, pz1, pz2⟩ : ∃ i, Try.prog.info? 71 = some i ∧ i.zero = some (.int .u64 0) ∧ i.size = 1 ∧ i.bytes = 8 := (by have h := Try.info_px8; cases hh : Try.prog.info? 71 with | none => rw [hh] at h; cases h | some i => rw [hh] at h; simp at h; exact ⟨i, rfl, h.1, h.2.1, h.2.2⟩)
  have hte : 3 ≠ 71 := by decide
  have HT := Lib.hid T
  have hc5 := T.c.c5
  have hc4 := T.c.c4
  obtain ⟨k, hk⟩ : ∃ k, one.length = k := ⟨_, rfl⟩
  have HK := Lib.hid hk
  have HS : Hid (w.ownsRow (b + 1) 3 1 sv k (ints one)) := by show w.ownsRow _ _ _ _ _ _; have := T.s; rw [hk] at this; exact this
  have hbw : b + 1 ≤ w.heap.size := T.c.lt
  have hk3 : k ≤ 3 := by omega
  have hblt : b < w.heap.size := hbw
  have hbne : ¬ b = w.heap.size := Nat.ne_of_lt hblt
  have m5 := cell_later (box1' w (.cells #[.int .i64 n] 3)) hc5
  have HONE := Lib.hid hone
  have HC := Lib.hid hC
  have HM := Lib.hid hm
  clear hF hone hC hk T hmm ho4 hm
  go_enter Try.func104, Try.ntmps104
  go_wp2_with fail
  go_cut [] from 7 to 19 (fun wx => ∃ g cc, PlT w b h sv rv n (.slice (some ⟨g, 0, none⟩) (k + 1) cc) rv (one ++ [n]) row rows 0 x wx)
  case first =>
    go_region_law (refine step_append_lies _ rfl _ _ 69 rfl (b + 1) 3 i0 (.int .i64 0) 1 8 Try.underlying69 hi hz0 hz1 hz2 rfl (by decide) sv k _ rfl (HS.out.alloc _) ⟨w.heap.size, 0, none⟩ 1 1 [.int .i64 n] rfl rfl (one_new _ _ _) (by simp [Value.oneCell']) (by omega) (by unfold maxLen; omega) (by omega) (by simp; omega) _ rfl ?_; intro gg cc w5 hown' hgrow' hat _; obtain ⟨q1, q2⟩ := HT.out.drew.pushS hte _ n (by have h := hown'; rw [HK.out]; exact h) hgrow' hat; have hd5 := q1.c5; have hf5 := q1.fr 5)
    all_goals
      have Q2 : Hid (PlT w b h sv rv n (.slice (some ⟨gg, 0, none⟩) (k + 1) cc) rv (one ++ [n]) row rows 0 x (w5.setCell ⟨b, 5, none⟩ (.slice (some ⟨gg, 0, none⟩) (k + 1) cc))) := by have h := q2; rw [HK.out] at h; exact h
      clear q1 q2 hown' hgrow' hat
      go_wp2_with fail
      go_meet
      case rel => exact ⟨gg, cc, Q2.out⟩
  case rest =>
    obtain ⟨g, cc, T1⟩ := hcut
    have HT1 := Lib.hid T1
    have hd4 := T1.c.c4
    have hd5 := T1.c.c5
    have hf4 := T1.c.fr 4
    clear hc5 hc4 m5 HS HT T1
    go_upto_region 3 with fail
    generalize hW : wc.setCell ⟨b, 4, none⟩ (.int .i64 0) = w2
    have HT2 : Hid (PlT w b h sv rv 0 (.slice (some ⟨g, 0, none⟩) (k + 1) cc) rv (one ++ [n]) row rows 0 x w2) := by show PlT _ _ _ _ _ _ _ _ _ _ _ _ _ _; rw [← hW]; exact HT1.out.set4 0
    clear HT1 hd4 hd5 hf4 hW
    have T2 := HT2.out
    have e0 := T2.c.c0
    have e1 := T2.c.c1
    have e2 := T2.c.c2
    have e3 := T2.c.c3
    have e5 := T2.c.c5
    clear T2
    have hBr : Below w2.heap.size w2 w2 := .refl _ _
    go_cut [34] from 23 to 34 (fun s34 wx => s34 = .bool (decide ((k : Int) + 1 < C)) ∧ Below w2.heap.size w2 wx)
    case first =>
      go_region_held3 (fun w' => w'.cell? ⟨b, 0, none⟩ = some (.int .i64 h.kd) ∧ w'.cell? ⟨b, 1, none⟩ = some (.int .i64 h.w) ∧ w'.cell? ⟨b, 2, none⟩ = some (.int .i64 h.h) ∧ w'.cell? ⟨b, 3, none⟩ = some (.int .i64 h.m) ∧ w'.cell? ⟨b, 5, none⟩ = some (.slice (some ⟨g, 0, none⟩) (k + 1) cc))
        (first | exact ⟨e0, e1, e2, e3, e5⟩ | exact ⟨cell_later hBr e0, cell_later hBr e1, cell_later hBr e2, cell_later hBr e3, cell_later hBr e5⟩)
        (first | (go_at_call 66; refine (HF.out _).mono ?_; rintro e w8 ⟨rfl, hb8⟩; replace hBr := bel_step (w := w2) (by first | exact hBr | exact hBr.drew) hb8))
      all_goals
        go_wp2_with fail
        go_meet
        case rel => exact ⟨by rfl, hBr⟩
    case rest =>
      obtain ⟨rfl, hBx⟩ := hcut
      have HT3 := Lib.hid (HT2.out.below hBx)
      have htp : (k : Int) + 1 < C := by have := HONE.out; have := HK.out; omega
      have ht : decide ((k : Int) + 1 < C) = true := decide_eq_true htp
      clear hBr e0 e1 e2 e3 e5 hBx
      go_wp2
      go_ret
      exact ⟨none, 0, _, _, rfl, HT3.out, ⟨rfl, .inl rfl⟩, (fun y hy => by cases hy)⟩
set_option maxRecDepth 100000 in
set_option maxHeartbeats 2000000 in
theorem take_pixel {b : Nat} {h : Hd.H} (hm : Pl.May h) {sv rv : Value} {n : Int} {one row : List Int} {rows : Int} {x : Value} {w : World} (T : PlT w b h sv rv n sv rv one row rows 0 x w) (ho4 : one.length ≤ 3) (hr4 : row.length ≤ 4096) (rows0 : 0 ≤ rows) (rows1 : rows < h.h) (hone : ¬ (one.length : Int) + 1 < Hj.chan h) (ho : (one.length : Int) < Hj.chan h) (hrow : (row.length : Int) + 1 < h.w) :
    Calls Try.prog 104 #[.pointer (some ⟨b, 0, none⟩)] w (TakeR w b h sv rv x [] (row ++ [(Pq.Px.packV (one ++ [n])).1]) rows 0 []) := by
  have hmm := hm.m
  have hF := hformat_any h hm.1
  unfold Hj.fm agH at hF
  obtain ⟨C, hC⟩ : ∃ C, Hj.chan h = C := ⟨_, rfl⟩
  rw [hC] at hF hone
  have HF := Lib.hid hF
  have hfd := field0_run C h.m
  obtain ⟨i0, hi, hz0, hz1, hz2⟩ : ∃ i, Try.prog.info? 3 = some i ∧ i.zero = some (.int .i64 0) ∧ i.size = 1 ∧ i.bytes = 8 := (by have h := Try.info_in8; cases hh : Try.prog.info? 3 with | none => rw [hh] at h; cases h | some i => rw [hh] at h; simp at h; exact ⟨i, rfl, h.1, h.2.1, h.2.2⟩)
  obtain ⟨p0, pi, pz0, pz1, pz2⟩ : ∃ i, Try.prog.info? 71 = some i ∧ i.zero = some (.int .u64 0) ∧ i.size = 1 ∧ i.bytes = 8 := (by have h := Try.info_px8; cases hh : Try.prog.info? 71 with | none => rw [hh] at h; cases h | some i => rw [hh] at h; simp at h; exact ⟨i, rfl, h.1, h.2.1, h.2.2⟩)
  have hte : 3 ≠ 71 := by decide
  have HT := Lib.hid T
  have hc5 := T.c.c5
  have hc4 := T.c.c4
  obtain ⟨k, hk⟩ : ∃ k, one.length = k := ⟨_, rfl⟩
  have HK := Lib.hid hk
  have HS : Hid (w.ownsRow (b + 1) 3 1 sv k (ints one)) := by show w.ownsRow _ _ _ _ _ _; have := T.s; rw [hk] at this; exact this
  have hbw : b + 1 ≤ w.heap.size := T.c.lt
  have hk3 : k ≤ 3 := by omega
  have hblt : b < w.heap.size := hbw
  have hbne : ¬ b = w.heap.size := Nat.ne_of_lt hblt
  have m5 := cell_later (box1' w (.cells #[.int .i64 n] 3)) hc5
  have HONE := Lib.hid hone
  have HC := Lib.hid hC
  have HM := Lib.hid hm
  clear hF hone hC hk T hmm ho4 hm
  have HO := Lib.hid ho
  clear ho
  have HRW := Lib.hid hrow
  clear hrow
  go_enter Try.func104, Try.ntmps104
  go_wp2_with fail
  go_cut [] from 7 to 19 (fun wx => ∃ g cc, PlT w b h sv rv n (.slice (some ⟨g, 0, none⟩) (k + 1) cc) rv (one ++ [n]) row rows 0 x wx)
  case first =>
    go_region_law (refine step_append_lies _ rfl _ _ 69 rfl (b + 1) 3 i0 (.int .i64 0) 1 8 Try.underlying69 hi hz0 hz1 hz2 rfl (by decide) sv k _ rfl (HS.out.alloc _) ⟨w.heap.size, 0, none⟩ 1 1 [.int .i64 n] rfl rfl (one_new _ _ _) (by simp [Value.oneCell']) (by omega) (by unfold maxLen; omega) (by omega) (by simp; omega) _ rfl ?_; intro gg cc w5 hown' hgrow' hat _; obtain ⟨q1, q2⟩ := HT.out.drew.pushS hte _ n (by have h := hown'; rw [HK.out]; exact h) hgrow' hat; have hd5 := q1.c5; have hf5 := q1.fr 5)
    all_goals
      have Q2 : Hid (PlT w b h sv rv n (.slice (some ⟨gg, 0, none⟩) (k + 1) cc) rv (one ++ [n]) row rows 0 x (w5.setCell ⟨b, 5, none⟩ (.slice (some ⟨gg, 0, none⟩) (k + 1) cc))) := by have h := q2; rw [HK.out] at h; exact h
      clear q1 q2 hown' hgrow' hat
      go_wp2_with fail
      go_meet
      case rel => exact ⟨gg, cc, Q2.out⟩
  case rest =>
    obtain ⟨g, cc, T1⟩ := hcut
    have HT1 := Lib.hid T1
    have hd4 := T1.c.c4
    have hd5 := T1.c.c5
    have hf4 := T1.c.fr 4
    clear hc5 hc4 m5 HS HT T1
    go_upto_region 3 with fail
    generalize hW : wc.setCell ⟨b, 4, none⟩ (.int .i64 0) = w2
    have HT2 : Hid (PlT w b h sv rv 0 (.slice (some ⟨g, 0, none⟩) (k + 1) cc) rv (one ++ [n]) row rows 0 x w2) := by show PlT _ _ _ _ _ _ _ _ _ _ _ _ _ _; rw [← hW]; exact HT1.out.set4 0
    clear HT1 hd4 hd5 hf4 hW
    have T2 := HT2.out
    have e0 := T2.c.c0
    have e1 := T2.c.c1
    have e2 := T2.c.c2
    have e3 := T2.c.c3
    have e5 := T2.c.c5
    clear T2
    have hBr : Below w2.heap.size w2 w2 := .refl _ _
    go_cut [34] from 23 to 34 (fun s34 wx => s34 = .bool (decide ((k : Int) + 1 < C)) ∧ Below w2.heap.size w2 wx)
    case first =>
      go_region_held3 (fun w' => w'.cell? ⟨b, 0, none⟩ = some (.int .i64 h.kd) ∧ w'.cell? ⟨b, 1, none⟩ = some (.int .i64 h.w) ∧ w'.cell? ⟨b, 2, none⟩ = some (.int .i64 h.h) ∧ w'.cell? ⟨b, 3, none⟩ = some (.int .i64 h.m) ∧ w'.cell? ⟨b, 5, none⟩ = some (.slice (some ⟨g, 0, none⟩) (k + 1) cc))
        (first | exact ⟨e0, e1, e2, e3, e5⟩ | exact ⟨cell_later hBr e0, cell_later hBr e1, cell_later hBr e2, cell_later hBr e3, cell_later hBr e5⟩)
        (first | (go_at_call 66; refine (HF.out _).mono ?_; rintro e w8 ⟨rfl, hb8⟩; replace hBr := bel_step (w := w2) (by first | exact hBr | exact hBr.drew) hb8))
      all_goals
        go_wp2_with fail
        go_meet
        case rel => exact ⟨by rfl, hBr⟩
    case rest =>
      obtain ⟨rfl, hBx⟩ := hcut
      have T3 := HT2.out.below hBx
      have htp : ¬ (k : Int) + 1 < C := by have := HONE.out; have := HK.out; omega
      have ht : decide ((k : Int) + 1 < C) = false := decide_eq_false htp
      obtain ⟨p, hp⟩ : ∃ p, Pq.Px.packV (one ++ [n]) = p := ⟨_, rfl⟩
      have HP := Lib.hid hp
      have HSL : Hid (Pq.Sl wc (some ⟨g, 0, none⟩) (k + 1) (one ++ [n])) := by
        have hk := HK.out
        have hs := T3.s
        rw [List.length_append, List.length_singleton, hk] at hs
        obtain ⟨a', c', hv, hs'⟩ := sl_of_row (z := 0) rfl hs (by rw [List.length_append, List.length_singleton, hk])
        cases hv; exact hs'
      have HPK : Hid (∀ W, Pq.Sl W (some ⟨g, 0, none⟩) (k + 1) (one ++ [n]) → Calls Try.prog 109 #[.slice (some ⟨g, 0, none⟩) (k + 1) cc] W fun e w' => e = .returned (.tuple #[.int .u64 p.1, .int .i64 p.2]) ∧ W = w') := fun W hs => by
        have h := Pq.pack_any (some ⟨g, 0, none⟩) (k + 1) cc (one ++ [n]) W (by omega) hs
        rw [hp] at h; exact h
      have HT3 := Lib.hid T3
      have e5 := T3.c.c5
      have f5 := T3.c.fr 5
      clear hBr hBx hp T3
      go_wp2_with fail
      refine (HPK.out _ HSL.out).mono ?_
      rintro e w9 ⟨rfl, rfl⟩
      go_upto_region 7 with fail
      generalize hW : wc.setCell ⟨b, 5, none⟩ (.slice (some ⟨g, 0, none⟩) 0 cc) = w4
      have HT4 : Hid (PlT w b h sv rv 0 (.slice (some ⟨g, 0, none⟩) 0 cc) rv [] row rows 0 x w4) := by show PlT _ _ _ _ _ _ _ _ _ _ _ _ _ _; rw [← hW]; exact HT3.out.clear (by rw [List.length_append, List.length_singleton, HK.out])
      clear HT3 e5 f5 hW HSL HPK
      have T4 := HT4.out
      have hbw4 : b + 1 ≤ w4.heap.size := T4.c.lt
      obtain ⟨r, hr⟩ : ∃ r, row.length = r := ⟨_, rfl⟩
      have HRL := Lib.hid hr
      have HR4 : Hid (w4.ownsRow (b + 1) 71 1 rv r (pixs row)) := by show World.ownsRow _ _ _ _ _ _ _; have h := T4.r; rw [hr] at h; exact h
      have hr4' : r ≤ 4096 := by omega
      have e6 := T4.c.c6
      have m6 := cell_later (box1' w4 (.cells #[.int .u64 p.1] 71)) e6
      have hb4 : b < w4.heap.size := hbw4
      have hbn4 : ¬ b = w4.heap.size := Nat.ne_of_lt hb4
      clear T4 hr hr4
      go_cut [] from 51 to 60 (fun wx => ∃ g6 c6, PlT w b h sv rv 0 (.slice (some ⟨g, 0, none⟩) 0 cc) (.slice (some ⟨g6, 0, none⟩) (r + 1) c6) [] (row ++ [p.1]) rows 0 x wx)
      case first =>
        go_wp2_with (at_builtin; refine wpList_append_lies _ rfl _ _ 52 rfl (b + 1) 71 p0 (.int .u64 0) 1 8 Try.underlying52 pi pz0 pz1 pz2 rfl (by decide) rv r _ rfl (HR4.out.alloc _) ⟨w4.heap.size, 0, none⟩ 1 1 [.int .u64 p.1] rfl rfl (one_new _ _ _) (by simp [Value.oneCell']) (by omega) (by unfold maxLen; omega) (by omega) (by simp; omega) _ rfl ?_; intro gg c6 w5 hown' hgrow' hat _; obtain ⟨q1, q2⟩ := HT4.out.pushR hte _ p.1 (by have h := hown'; rw [HRL.out]; exact h) hgrow' hat; have hd6 := q1.c6; have hf6 := q1.fr 6; have Q2 : Hid (PlT w b h sv rv 0 (.slice (some ⟨g, 0, none⟩) 0 cc) (.slice (some ⟨gg, 0, none⟩) (r + 1) c6) [] (row ++ [p.1]) rows 0 x (w5.setCell ⟨b, 6, none⟩ (.slice (some ⟨gg, 0, none⟩) (r + 1) c6))) := (by have h := q2; rw [HRL.out] at h; exact h); clear q1 q2 hown' hgrow' hat)
        go_meet
        case rel => exact ⟨gg, c6, Q2.out⟩
      case rest =>
        obtain ⟨g6, c6, T5⟩ := hcut
        clear m6 e6
        have HT5 := Lib.hid T5
        have e1 := T5.c.c1
        have e6 := T5.c.c6
        have hrw : ((r + 1 : Nat) : Int) < h.w := by have := HRW.out; have := HRL.out; omega
        have hrd : decide (((r + 1 : Nat) : Int) < h.w) = true := decide_eq_true hrw
        have hrd' : decide ((r : Int) + 1 < h.w) = true := decide_eq_true (by omega)
        have HRE : Hid (TakeR w b h sv rv x [] (row ++ [(Pq.Px.packV (one ++ [n])).1]) rows 0 [] (.returned (.slice none 0 0)) wc) := by rw [HP.out]; exact ⟨none, 0, _, _, rfl, HT5.out, ⟨rfl, .inl rfl⟩, (fun y hy => by cases hy)⟩
        clear T5 HT4 HR4 hrw
        go_wp2
        go_ret
        exact HRE.out
set_option maxRecDepth 100000 in
set_option maxHeartbeats 2000000 in
theorem take_row {b : Nat} {h : Hd.H} (hm : Pl.May h) {sv rv : Value} {n : Int} {one row : List Int} {rows : Int} {x : Value} {w : World} (T : PlT w b h sv rv n sv rv one row rows 0 x w) (ho4 : one.length ≤ 3) (hr4 : row.length ≤ 4096) (rows0 : 0 ≤ rows) (rows1 : rows < h.h) (hone : ¬ (one.length : Int) + 1 < Hj.chan h) (ho : (one.length : Int) < Hj.chan h) (hrow : ¬ (row.length : Int) + 1 < h.w) (hr : (row.length : Int) < h.w) (hrows : ¬ rows + 1 = h.h) :
    Calls Try.prog 104 #[.pointer (some ⟨b, 0, none⟩)] w (TakeR w b h sv rv x [] [] (rows + 1) 0 (row ++ [(Pq.Px.packV (one ++ [n])).1])) := by
  have hmm := hm.m
  have hF := hformat_any h hm.1
  unfold Hj.fm agH at hF
  obtain ⟨C, hC⟩ : ∃ C, Hj.chan h = C := ⟨_, rfl⟩
  rw [hC] at hF hone
  have HF := Lib.hid hF
  have hfd := field0_run C h.m
  obtain ⟨i0, hi, hz0, hz1, hz2⟩ : ∃ i, Try.prog.info? 3 = some i ∧ i.zero = some (.int .i64 0) ∧ i.size = 1 ∧ i.bytes = 8 := (by have h := Try.info_in8; cases hh : Try.prog.info? 3 with | none => rw [hh] at h; cases h | some i => rw [hh] at h; simp at h; exact ⟨i, rfl, h.1, h.2.1, h.2.2⟩)
  obtain ⟨p0, pi, pz0, pz1, pz2⟩ : ∃ i, Try.prog.info? 71 = some i ∧ i.zero = some (.int .u64 0) ∧ i.size = 1 ∧ i.bytes = 8 := (by have h := Try.info_px8; cases hh : Try.prog.info? 71 with | none => rw [hh] at h; cases h | some i => rw [hh] at h; simp at h; exact ⟨i, rfl, h.1, h.2.1, h.2.2⟩)
  have hte : 3 ≠ 71 := by decide
  have HT := Lib.hid T
  have hc5 := T.c.c5
  have hc4 := T.c.c4
  obtain ⟨k, hk⟩ : ∃ k, one.length = k := ⟨_, rfl⟩
  have HK := Lib.hid hk
  have HS : Hid (w.ownsRow (b + 1) 3 1 sv k (ints one)) := by show w.ownsRow _ _ _ _ _ _; have := T.s; rw [hk] at this; exact this
  have hbw : b + 1 ≤ w.heap.size := T.c.lt
  have hk3 : k ≤ 3 := by omega
  have hblt : b < w.heap.size := hbw
  have hbne : ¬ b = w.heap.size := Nat.ne_of_lt hblt
  have m5 := cell_later (box1' w (.cells #[.int .i64 n] 3)) hc5
  have HONE := Lib.hid hone
  have HC := Lib.hid hC
  have HM := Lib.hid hm
  clear hF hone hC hk T hmm ho4 hm
  have HO := Lib.hid ho
  clear ho
  have HR := Lib.hid hr
  have HRS := Lib.hid hrows
  clear hr hrows
  have HRW := Lib.hid hrow
  clear hrow
  go_enter Try.func104, Try.ntmps104
  go_wp2_with fail
  go_cut [] from 7 to 19 (fun wx => ∃ g cc, PlT w b h sv rv n (.slice (some ⟨g, 0, none⟩) (k + 1) cc) rv (one ++ [n]) row rows 0 x wx)
  case first =>
    go_region_law (refine step_append_lies _ rfl _ _ 69 rfl (b + 1) 3 i0 (.int .i64 0) 1 8 Try.underlying69 hi hz0 hz1 hz2 rfl (by decide) sv k _ rfl (HS.out.alloc _) ⟨w.heap.size, 0, none⟩ 1 1 [.int .i64 n] rfl rfl (one_new _ _ _) (by simp [Value.oneCell']) (by omega) (by unfold maxLen; omega) (by omega) (by simp; omega) _ rfl ?_; intro gg cc w5 hown' hgrow' hat _; obtain ⟨q1, q2⟩ := HT.out.drew.pushS hte _ n (by have h := hown'; rw [HK.out]; exact h) hgrow' hat; have hd5 := q1.c5; have hf5 := q1.fr 5)
    all_goals
      have Q2 : Hid (PlT w b h sv rv n (.slice (some ⟨gg, 0, none⟩) (k + 1) cc) rv (one ++ [n]) row rows 0 x (w5.setCell ⟨b, 5, none⟩ (.slice (some ⟨gg, 0, none⟩) (k + 1) cc))) := by have h := q2; rw [HK.out] at h; exact h
      clear q1 q2 hown' hgrow' hat
      go_wp2_with fail
      go_meet
      case rel => exact ⟨gg, cc, Q2.out⟩
  case rest =>
    obtain ⟨g, cc, T1⟩ := hcut
    have HT1 := Lib.hid T1
    have hd4 := T1.c.c4
    have hd5 := T1.c.c5
    have hf4 := T1.c.fr 4
    clear hc5 hc4 m5 HS HT T1
    go_upto_region 3 with fail
    generalize hW : wc.setCell ⟨b, 4, none⟩ (.int .i64 0) = w2
    have HT2 : Hid (PlT w b h sv rv 0 (.slice (some ⟨g, 0, none⟩) (k + 1) cc) rv (one ++ [n]) row rows 0 x w2) := by show PlT _ _ _ _ _ _ _ _ _ _ _ _ _ _; rw [← hW]; exact HT1.out.set4 0
    clear HT1 hd4 hd5 hf4 hW
    have T2 := HT2.out
    have e0 := T2.c.c0
    have e1 := T2.c.c1
    have e2 := T2.c.c2
    have e3 := T2.c.c3
    have e5 := T2.c.c5
    clear T2
    have hBr : Below w2.heap.size w2 w2 := .refl _ _
    go_cut [34] from 23 to 34 (fun s34 wx => s34 = .bool (decide ((k : Int) + 1 < C)) ∧ Below w2.heap.size w2 wx)
    case first =>
      go_region_held3 (fun w' => w'.cell? ⟨b, 0, none⟩ = some (.int .i64 h.kd) ∧ w'.cell? ⟨b, 1, none⟩ = some (.int .i64 h.w) ∧ w'.cell? ⟨b, 2, none⟩ = some (.int .i64 h.h) ∧ w'.cell? ⟨b, 3, none⟩ = some (.int .i64 h.m) ∧ w'.cell? ⟨b, 5, none⟩ = some (.slice (some ⟨g, 0, none⟩) (k + 1) cc))
        (first | exact ⟨e0, e1, e2, e3, e5⟩ | exact ⟨cell_later hBr e0, cell_later hBr e1, cell_later hBr e2, cell_later hBr e3, cell_later hBr e5⟩)
        (first | (go_at_call 66; refine (HF.out _).mono ?_; rintro e w8 ⟨rfl, hb8⟩; replace hBr := bel_step (w := w2) (by first | exact hBr | exact hBr.drew) hb8))
      all_goals
        go_wp2_with fail
        go_meet
        case rel => exact ⟨by rfl, hBr⟩
    case rest =>
      obtain ⟨rfl, hBx⟩ := hcut
      have T3 := HT2.out.below hBx
      have htp : ¬ (k : Int) + 1 < C := by have := HONE.out; have := HK.out; omega
      have ht : decide ((k : Int) + 1 < C) = false := decide_eq_false htp
      obtain ⟨p, hp⟩ : ∃ p, Pq.Px.packV (one ++ [n]) = p := ⟨_, rfl⟩
      have HP := Lib.hid hp
      have HSL : Hid (Pq.Sl wc (some ⟨g, 0, none⟩) (k + 1) (one ++ [n])) := by
        have hk := HK.out
        have hs := T3.s
        rw [List.length_append, List.length_singleton, hk] at hs
        obtain ⟨a', c', hv, hs'⟩ := sl_of_row (z := 0) rfl hs (by rw [List.length_append, List.length_singleton, hk])
        cases hv; exact hs'
      have HPK : Hid (∀ W, Pq.Sl W (some ⟨g, 0, none⟩) (k + 1) (one ++ [n]) → Calls Try.prog 109 #[.slice (some ⟨g, 0, none⟩) (k + 1) cc] W fun e w' => e = .returned (.tuple #[.int .u64 p.1, .int .i64 p.2]) ∧ W = w') := fun W hs => by
        have h := Pq.pack_any (some ⟨g, 0, none⟩) (k + 1) cc (one ++ [n]) W (by omega) hs
        rw [hp] at h; exact h
      have HT3 := Lib.hid T3
      have e5 := T3.c.c5
      have f5 := T3.c.fr 5
      clear hBr hBx hp T3
      go_wp2_with fail
      refine (HPK.out _ HSL.out).mono ?_
      rintro e w9 ⟨rfl, rfl⟩
      go_upto_region 7 with fail
      generalize hW : wc.setCell ⟨b, 5, none⟩ (.slice (some ⟨g, 0, none⟩) 0 cc) = w4
      have HT4 : Hid (PlT w b h sv rv 0 (.slice (some ⟨g, 0, none⟩) 0 cc) rv [] row rows 0 x w4) := by show PlT _ _ _ _ _ _ _ _ _ _ _ _ _ _; rw [← hW]; exact HT3.out.clear (by rw [List.length_append, List.length_singleton, HK.out])
      clear HT3 e5 f5 hW HSL HPK
      have T4 := HT4.out
      have hbw4 : b + 1 ≤ w4.heap.size := T4.c.lt
      obtain ⟨r, hr⟩ : ∃ r, row.length = r := ⟨_, rfl⟩
      have HRL := Lib.hid hr
      have HR4 : Hid (w4.ownsRow (b + 1) 71 1 rv r (pixs row)) := by show World.ownsRow _ _ _ _ _ _ _; have h := T4.r; rw [hr] at h; exact h
      have hr4' : r ≤ 4096 := by omega
      have e6 := T4.c.c6
      have m6 := cell_later (box1' w4 (.cells #[.int .u64 p.1] 71)) e6
      have hb4 : b < w4.heap.size := hbw4
      have hbn4 : ¬ b = w4.heap.size := Nat.ne_of_lt hb4
      clear T4 hr hr4
      go_cut [] from 51 to 60 (fun wx => ∃ g6 c6, PlT w b h sv rv 0 (.slice (some ⟨g, 0, none⟩) 0 cc) (.slice (some ⟨g6, 0, none⟩) (r + 1) c6) [] (row ++ [p.1]) rows 0 x wx)
      case first =>
        go_wp2_with (at_builtin; refine wpList_append_lies _ rfl _ _ 52 rfl (b + 1) 71 p0 (.int .u64 0) 1 8 Try.underlying52 pi pz0 pz1 pz2 rfl (by decide) rv r _ rfl (HR4.out.alloc _) ⟨w4.heap.size, 0, none⟩ 1 1 [.int .u64 p.1] rfl rfl (one_new _ _ _) (by simp [Value.oneCell']) (by omega) (by unfold maxLen; omega) (by omega) (by simp; omega) _ rfl ?_; intro gg c6 w5 hown' hgrow' hat _; obtain ⟨q1, q2⟩ := HT4.out.pushR hte _ p.1 (by have h := hown'; rw [HRL.out]; exact h) hgrow' hat; have hd6 := q1.c6; have hf6 := q1.fr 6; have Q2 : Hid (PlT w b h sv rv 0 (.slice (some ⟨g, 0, none⟩) 0 cc) (.slice (some ⟨gg, 0, none⟩) (r + 1) c6) [] (row ++ [p.1]) rows 0 x (w5.setCell ⟨b, 6, none⟩ (.slice (some ⟨gg, 0, none⟩) (r + 1) c6))) := (by have h := q2; rw [HRL.out] at h; exact h); clear q1 q2 hown' hgrow' hat)
        go_meet
        case rel => exact ⟨gg, c6, Q2.out⟩
      case rest =>
        obtain ⟨g6, c6, T5⟩ := hcut
        clear m6 e6
        have HT5 := Lib.hid T5
        have e1 := T5.c.c1
        have e6 := T5.c.c6
        have hrw : ((r + 1 : Nat) : Int) = h.w := by have := HRW.out; have := HR.out; have := HRL.out; omega
        have hm := HM.out.m
        have HRWW := Lib.hid hrw
        have e2 := T5.c.c2
        have e7 := T5.c.c7
        have f6 := T5.c.fr 6
        have f7 := T5.c.fr 7
        have f8 := T5.c.fr 8
        have e8 := T5.c.c8
        have hrc : r + 1 ≤ c6 := by
          have h := T5.r
          rw [List.length_append, List.length_singleton, HRL.out] at h
          exact ownsRow_cap h
        have hcm : c6 ≤ 9223372036854775807 := by
          have h := T5.r
          rw [List.length_append, List.length_singleton, HRL.out] at h
          rcases h.2 with ⟨hv, _⟩ | ⟨_, _, _, hv, _, _, _, hx, _⟩
          · cases hv
          · cases hv; unfold maxLen at hx; exact hx
        obtain ⟨hw, hhw⟩ : ∃ hw, h.w = hw := ⟨_, rfl⟩
        rw [← hrw] at e1
        have hrd : decide (((r + 1 : Nat) : Int) < ((r + 1 : Nat) : Int)) = false := decide_eq_false (by omega)
        have hrd' : decide ((r : Int) + 1 < (r : Int) + 1) = false := decide_eq_false (by omega)
        obtain ⟨hh, hhh⟩ : ∃ hh, h.h = hh := ⟨_, rfl⟩
        rw [hhh] at e2 rows1
        have hh9 : hh ≤ 65536 := by omega
        have g1 : wrap64 (rows + 1) = rows + 1 := by rw [IntWalk.wrap64_in] <;> omega
        have hq : (rows + 1 == hh) = false := by have := HRS.out; simp; omega
        clear hrw hm hhw T5
        go_wp2_with fail
        have HRE : Hid (∀ wf, PlT w b h sv rv 0 (.slice (some ⟨g, 0, none⟩) 0 cc) (.slice none 0 0) [] [] (rows + 1) 0 x wf → SlK .u64 wf (some ⟨g6, 0, none⟩) (r + 1) (row ++ [p.1]) → TakeR w b h sv rv x [] [] (rows + 1) 0 (row ++ [(Pq.Px.packV (one ++ [n])).1]) (.returned (.slice (some ⟨g6, 0, none⟩) (r + 1) (r + 1))) wf) := by
          intro wf hT hS
          have hl : (row ++ [(Pq.Px.packV (one ++ [n])).1]).length = r + 1 := by rw [List.length_append, List.length_singleton, HRL.out]
          have hgb : b + 1 ≤ g6 := (HT5.out.r.lt g6 rfl).1
          refine ⟨some ⟨g6, 0, none⟩, r + 1, _, _, by rw [hl], hT, ?_, fun y hy => by cases hy; show g6 ≠ b; omega⟩
          rw [hl, HP.out]; exact hS
        generalize hW : (wc.setCell ⟨b, 6, none⟩ (.slice none 0 0)).setCell ⟨b, 7, none⟩ (.int .i64 (rows + 1)) = w6
        have T6 : PlT w b h sv rv 0 (.slice (some ⟨g, 0, none⟩) 0 cc) (.slice none 0 0) [] [] (rows + 1) 0 x w6 := by rw [← hW]; exact HT5.out.free.set7 (rows + 1)
        have HSR : Hid (w6.ownsRow (b + 1) 71 1 (.slice (some ⟨g6, 0, none⟩) (r + 1) c6) (r + 1) (pixs (row ++ [p.1]))) := by
          show World.ownsRow _ _ _ _ _ _ _
          have h := HT5.out.r
          rw [List.length_append, List.length_singleton, HRL.out] at h
          rw [← hW]; exact set_ownsRow (set_ownsRow h (Nat.lt_succ_self b) _) (Nat.lt_succ_self b) _
        have HT6 := Lib.hid T6
        have a2 := T6.c.c2
        have a7 := T6.c.c7
        have a8 := T6.c.c8
        have fa := T6.c.fr 8
        rw [hhh] at a2
        clear e1 e2 e6 e7 e8 f6 f7 f8 hW T6 HT5 hhh e0 e3 e5
        go_quiet (fail)
        go_wp2
        go_ret
        exact HRE.out _ ⟨HT6.out.c.drewN _, HT6.out.s, HT6.out.r, HT6.out.f.trans (.drewN _ _ _), HT6.out.ns, HT6.out.nr⟩ (slk_of_row (w := w6) (base := b + 1) (c := c6) HSR.out (by rw [List.length_append, List.length_singleton, HRL.out]))
set_option maxRecDepth 100000 in
set_option maxHeartbeats 2000000 in
theorem take_over {b : Nat} {h : Hd.H} (hm : Pl.May h) {sv rv : Value} {n : Int} {one row : List Int} {rows : Int} {x : Value} {w : World} (T : PlT w b h sv rv n sv rv one row rows 0 x w) (ho4 : one.length ≤ 3) (hr4 : row.length ≤ 4096) (rows0 : 0 ≤ rows) (rows1 : rows < h.h) (hone : ¬ (one.length : Int) + 1 < Hj.chan h) (ho : (one.length : Int) < Hj.chan h) (hrow : ¬ (row.length : Int) + 1 < h.w) (hr : (row.length : Int) < h.w) (hrows : rows + 1 = h.h) :
    Calls Try.prog 104 #[.pointer (some ⟨b, 0, none⟩)] w (TakeR w b h sv rv x [] [] (rows + 1) 1 (row ++ [(Pq.Px.packV (one ++ [n])).1])) := by
  have hmm := hm.m
  have hF := hformat_any h hm.1
  unfold Hj.fm agH at hF
  obtain ⟨C, hC⟩ : ∃ C, Hj.chan h = C := ⟨_, rfl⟩
  rw [hC] at hF hone
  have HF := Lib.hid hF
  have hfd := field0_run C h.m
  obtain ⟨i0, hi, hz0, hz1, hz2⟩ : ∃ i, Try.prog.info? 3 = some i ∧ i.zero = some (.int .i64 0) ∧ i.size = 1 ∧ i.bytes = 8 := (by have h := Try.info_in8; cases hh : Try.prog.info? 3 with | none => rw [hh] at h; cases h | some i => rw [hh] at h; simp at h; exact ⟨i, rfl, h.1, h.2.1, h.2.2⟩)
  obtain ⟨p0, pi, pz0, pz1, pz2⟩ : ∃ i, Try.prog.info? 71 = some i ∧ i.zero = some (.int .u64 0) ∧ i.size = 1 ∧ i.bytes = 8 := (by have h := Try.info_px8; cases hh : Try.prog.info? 71 with | none => rw [hh] at h; cases h | some i => rw [hh] at h; simp at h; exact ⟨i, rfl, h.1, h.2.1, h.2.2⟩)
  have hte : 3 ≠ 71 := by decide
  have HT := Lib.hid T
  have hc5 := T.c.c5
  have hc4 := T.c.c4
  obtain ⟨k, hk⟩ : ∃ k, one.length = k := ⟨_, rfl⟩
  have HK := Lib.hid hk
  have HS : Hid (w.ownsRow (b + 1) 3 1 sv k (ints one)) := by show w.ownsRow _ _ _ _ _ _; have := T.s; rw [hk] at this; exact this
  have hbw : b + 1 ≤ w.heap.size := T.c.lt
  have hk3 : k ≤ 3 := by omega
  have hblt : b < w.heap.size := hbw
  have hbne : ¬ b = w.heap.size := Nat.ne_of_lt hblt
  have m5 := cell_later (box1' w (.cells #[.int .i64 n] 3)) hc5
  have HONE := Lib.hid hone
  have HC := Lib.hid hC
  have HM := Lib.hid hm
  clear hF hone hC hk T hmm ho4 hm
  have HO := Lib.hid ho
  clear ho
  have HR := Lib.hid hr
  have HRS := Lib.hid hrows
  clear hr hrows
  have HRW := Lib.hid hrow
  clear hrow
  go_enter Try.func104, Try.ntmps104
  go_wp2_with fail
  go_cut [] from 7 to 19 (fun wx => ∃ g cc, PlT w b h sv rv n (.slice (some ⟨g, 0, none⟩) (k + 1) cc) rv (one ++ [n]) row rows 0 x wx)
  case first =>
    go_region_law (refine step_append_lies _ rfl _ _ 69 rfl (b + 1) 3 i0 (.int .i64 0) 1 8 Try.underlying69 hi hz0 hz1 hz2 rfl (by decide) sv k _ rfl (HS.out.alloc _) ⟨w.heap.size, 0, none⟩ 1 1 [.int .i64 n] rfl rfl (one_new _ _ _) (by simp [Value.oneCell']) (by omega) (by unfold maxLen; omega) (by omega) (by simp; omega) _ rfl ?_; intro gg cc w5 hown' hgrow' hat _; obtain ⟨q1, q2⟩ := HT.out.drew.pushS hte _ n (by have h := hown'; rw [HK.out]; exact h) hgrow' hat; have hd5 := q1.c5; have hf5 := q1.fr 5)
    all_goals
      have Q2 : Hid (PlT w b h sv rv n (.slice (some ⟨gg, 0, none⟩) (k + 1) cc) rv (one ++ [n]) row rows 0 x (w5.setCell ⟨b, 5, none⟩ (.slice (some ⟨gg, 0, none⟩) (k + 1) cc))) := by have h := q2; rw [HK.out] at h; exact h
      clear q1 q2 hown' hgrow' hat
      go_wp2_with fail
      go_meet
      case rel => exact ⟨gg, cc, Q2.out⟩
  case rest =>
    obtain ⟨g, cc, T1⟩ := hcut
    have HT1 := Lib.hid T1
    have hd4 := T1.c.c4
    have hd5 := T1.c.c5
    have hf4 := T1.c.fr 4
    clear hc5 hc4 m5 HS HT T1
    go_upto_region 3 with fail
    generalize hW : wc.setCell ⟨b, 4, none⟩ (.int .i64 0) = w2
    have HT2 : Hid (PlT w b h sv rv 0 (.slice (some ⟨g, 0, none⟩) (k + 1) cc) rv (one ++ [n]) row rows 0 x w2) := by show PlT _ _ _ _ _ _ _ _ _ _ _ _ _ _; rw [← hW]; exact HT1.out.set4 0
    clear HT1 hd4 hd5 hf4 hW
    have T2 := HT2.out
    have e0 := T2.c.c0
    have e1 := T2.c.c1
    have e2 := T2.c.c2
    have e3 := T2.c.c3
    have e5 := T2.c.c5
    clear T2
    have hBr : Below w2.heap.size w2 w2 := .refl _ _
    go_cut [34] from 23 to 34 (fun s34 wx => s34 = .bool (decide ((k : Int) + 1 < C)) ∧ Below w2.heap.size w2 wx)
    case first =>
      go_region_held3 (fun w' => w'.cell? ⟨b, 0, none⟩ = some (.int .i64 h.kd) ∧ w'.cell? ⟨b, 1, none⟩ = some (.int .i64 h.w) ∧ w'.cell? ⟨b, 2, none⟩ = some (.int .i64 h.h) ∧ w'.cell? ⟨b, 3, none⟩ = some (.int .i64 h.m) ∧ w'.cell? ⟨b, 5, none⟩ = some (.slice (some ⟨g, 0, none⟩) (k + 1) cc))
        (first | exact ⟨e0, e1, e2, e3, e5⟩ | exact ⟨cell_later hBr e0, cell_later hBr e1, cell_later hBr e2, cell_later hBr e3, cell_later hBr e5⟩)
        (first | (go_at_call 66; refine (HF.out _).mono ?_; rintro e w8 ⟨rfl, hb8⟩; replace hBr := bel_step (w := w2) (by first | exact hBr | exact hBr.drew) hb8))
      all_goals
        go_wp2_with fail
        go_meet
        case rel => exact ⟨by rfl, hBr⟩
    case rest =>
      obtain ⟨rfl, hBx⟩ := hcut
      have T3 := HT2.out.below hBx
      have htp : ¬ (k : Int) + 1 < C := by have := HONE.out; have := HK.out; omega
      have ht : decide ((k : Int) + 1 < C) = false := decide_eq_false htp
      obtain ⟨p, hp⟩ : ∃ p, Pq.Px.packV (one ++ [n]) = p := ⟨_, rfl⟩
      have HP := Lib.hid hp
      have HSL : Hid (Pq.Sl wc (some ⟨g, 0, none⟩) (k + 1) (one ++ [n])) := by
        have hk := HK.out
        have hs := T3.s
        rw [List.length_append, List.length_singleton, hk] at hs
        obtain ⟨a', c', hv, hs'⟩ := sl_of_row (z := 0) rfl hs (by rw [List.length_append, List.length_singleton, hk])
        cases hv; exact hs'
      have HPK : Hid (∀ W, Pq.Sl W (some ⟨g, 0, none⟩) (k + 1) (one ++ [n]) → Calls Try.prog 109 #[.slice (some ⟨g, 0, none⟩) (k + 1) cc] W fun e w' => e = .returned (.tuple #[.int .u64 p.1, .int .i64 p.2]) ∧ W = w') := fun W hs => by
        have h := Pq.pack_any (some ⟨g, 0, none⟩) (k + 1) cc (one ++ [n]) W (by omega) hs
        rw [hp] at h; exact h
      have HT3 := Lib.hid T3
      have e5 := T3.c.c5
      have f5 := T3.c.fr 5
      clear hBr hBx hp T3
      go_wp2_with fail
      refine (HPK.out _ HSL.out).mono ?_
      rintro e w9 ⟨rfl, rfl⟩
      go_upto_region 7 with fail
      generalize hW : wc.setCell ⟨b, 5, none⟩ (.slice (some ⟨g, 0, none⟩) 0 cc) = w4
      have HT4 : Hid (PlT w b h sv rv 0 (.slice (some ⟨g, 0, none⟩) 0 cc) rv [] row rows 0 x w4) := by show PlT _ _ _ _ _ _ _ _ _ _ _ _ _ _; rw [← hW]; exact HT3.out.clear (by rw [List.length_append, List.length_singleton, HK.out])
      clear HT3 e5 f5 hW HSL HPK
      have T4 := HT4.out
      have hbw4 : b + 1 ≤ w4.heap.size := T4.c.lt
      obtain ⟨r, hr⟩ : ∃ r, row.length = r := ⟨_, rfl⟩
      have HRL := Lib.hid hr
      have HR4 : Hid (w4.ownsRow (b + 1) 71 1 rv r (pixs row)) := by show World.ownsRow _ _ _ _ _ _ _; have h := T4.r; rw [hr] at h; exact h
      have hr4' : r ≤ 4096 := by omega
      have e6 := T4.c.c6
      have m6 := cell_later (box1' w4 (.cells #[.int .u64 p.1] 71)) e6
      have hb4 : b < w4.heap.size := hbw4
      have hbn4 : ¬ b = w4.heap.size := Nat.ne_of_lt hb4
      clear T4 hr hr4
      go_cut [] from 51 to 60 (fun wx => ∃ g6 c6, PlT w b h sv rv 0 (.slice (some ⟨g, 0, none⟩) 0 cc) (.slice (some ⟨g6, 0, none⟩) (r + 1) c6) [] (row ++ [p.1]) rows 0 x wx)
      case first =>
        go_wp2_with (at_builtin; refine wpList_append_lies _ rfl _ _ 52 rfl (b + 1) 71 p0 (.int .u64 0) 1 8 Try.underlying52 pi pz0 pz1 pz2 rfl (by decide) rv r _ rfl (HR4.out.alloc _) ⟨w4.heap.size, 0, none⟩ 1 1 [.int .u64 p.1] rfl rfl (one_new _ _ _) (by simp [Value.oneCell']) (by omega) (by unfold maxLen; omega) (by omega) (by simp; omega) _ rfl ?_; intro gg c6 w5 hown' hgrow' hat _; obtain ⟨q1, q2⟩ := HT4.out.pushR hte _ p.1 (by have h := hown'; rw [HRL.out]; exact h) hgrow' hat; have hd6 := q1.c6; have hf6 := q1.fr 6; have Q2 : Hid (PlT w b h sv rv 0 (.slice (some ⟨g, 0, none⟩) 0 cc) (.slice (some ⟨gg, 0, none⟩) (r + 1) c6) [] (row ++ [p.1]) rows 0 x (w5.setCell ⟨b, 6, none⟩ (.slice (some ⟨gg, 0, none⟩) (r + 1) c6))) := (by have h := q2; rw [HRL.out] at h; exact h); clear q1 q2 hown' hgrow' hat)
        go_meet
        case rel => exact ⟨gg, c6, Q2.out⟩
      case rest =>
        obtain ⟨g6, c6, T5⟩ := hcut
        clear m6 e6
        have HT5 := Lib.hid T5
        have e1 := T5.c.c1
        have e6 := T5.c.c6
        have hrw : ((r + 1 : Nat) : Int) = h.w := by have := HRW.out; have := HR.out; have := HRL.out; omega
        have hm := HM.out.m
        have HRWW := Lib.hid hrw
        have e2 := T5.c.c2
        have e7 := T5.c.c7
        have f6 := T5.c.fr 6
        have f7 := T5.c.fr 7
        have f8 := T5.c.fr 8
        have e8 := T5.c.c8
        have hrc : r + 1 ≤ c6 := by
          have h := T5.r
          rw [List.length_append, List.length_singleton, HRL.out] at h
          exact ownsRow_cap h
        have hcm : c6 ≤ 9223372036854775807 := by
          have h := T5.r
          rw [List.length_append, List.length_singleton, HRL.out] at h
          rcases h.2 with ⟨hv, _⟩ | ⟨_, _, _, hv, _, _, _, hx, _⟩
          · cases hv
          · cases hv; unfold maxLen at hx; exact hx
        obtain ⟨hw, hhw⟩ : ∃ hw, h.w = hw := ⟨_, rfl⟩
        rw [← hrw] at e1
        have hrd : decide (((r + 1 : Nat) : Int) < ((r + 1 : Nat) : Int)) = false := decide_eq_false (by omega)
        have hrd' : decide ((r : Int) + 1 < (r : Int) + 1) = false := decide_eq_false (by omega)
        obtain ⟨hh, hhh⟩ : ∃ hh, h.h = hh := ⟨_, rfl⟩
        rw [hhh] at e2 rows1
        have hh9 : hh ≤ 65536 := by omega
        have g1 : wrap64 (rows + 1) = rows + 1 := by rw [IntWalk.wrap64_in] <;> omega
        have hq : (rows + 1 == hh) = true := by have := HRS.out; simp; omega
        clear hrw hm hhw T5
        go_wp2_with fail
        have HRE : Hid (∀ wf, PlT w b h sv rv 0 (.slice (some ⟨g, 0, none⟩) 0 cc) (.slice none 0 0) [] [] (rows + 1) 1 x wf → SlK .u64 wf (some ⟨g6, 0, none⟩) (r + 1) (row ++ [p.1]) → TakeR w b h sv rv x [] [] (rows + 1) 1 (row ++ [(Pq.Px.packV (one ++ [n])).1]) (.returned (.slice (some ⟨g6, 0, none⟩) (r + 1) (r + 1))) wf) := by
          intro wf hT hS
          have hl : (row ++ [(Pq.Px.packV (one ++ [n])).1]).length = r + 1 := by rw [List.length_append, List.length_singleton, HRL.out]
          have hgb : b + 1 ≤ g6 := (HT5.out.r.lt g6 rfl).1
          refine ⟨some ⟨g6, 0, none⟩, r + 1, _, _, by rw [hl], hT, ?_, fun y hy => by cases hy; show g6 ≠ b; omega⟩
          rw [hl, HP.out]; exact hS
        generalize hW : (wc.setCell ⟨b, 6, none⟩ (.slice none 0 0)).setCell ⟨b, 7, none⟩ (.int .i64 (rows + 1)) = w6
        have T6 : PlT w b h sv rv 0 (.slice (some ⟨g, 0, none⟩) 0 cc) (.slice none 0 0) [] [] (rows + 1) 0 x w6 := by rw [← hW]; exact HT5.out.free.set7 (rows + 1)
        have HSR : Hid (w6.ownsRow (b + 1) 71 1 (.slice (some ⟨g6, 0, none⟩) (r + 1) c6) (r + 1) (pixs (row ++ [p.1]))) := by
          show World.ownsRow _ _ _ _ _ _ _
          have h := HT5.out.r
          rw [List.length_append, List.length_singleton, HRL.out] at h
          rw [← hW]; exact set_ownsRow (set_ownsRow h (Nat.lt_succ_self b) _) (Nat.lt_succ_self b) _
        have HT6 := Lib.hid T6
        have a2 := T6.c.c2
        have a7 := T6.c.c7
        have a8 := T6.c.c8
        have fa := T6.c.fr 8
        rw [hhh] at a2
        clear e1 e2 e6 e7 e8 f6 f7 f8 hW T6 HT5 hhh e0 e3 e5
        go_quiet (fail)
        go_wp2
        go_ret
        exact HRE.out _ (PlT.set8 ⟨HT6.out.c.drewN _, HT6.out.s, HT6.out.r, HT6.out.f.trans (.drewN _ _ _), HT6.out.ns, HT6.out.nr⟩ 1) (slk_of_row (base := b + 1) (c := c6) (set_ownsRow (w := w6.drewN _) HSR.out (Nat.lt_succ_self b) _) (by rw [List.length_append, List.length_singleton, HRL.out]))
end Go.Proofs.Ytflpocnbmpdhiaa

/- What a reader of digits makes of a sample, over any memory. Condition: its head may be, its numbers are samples. -/
namespace Go.Proofs.Ytflpocnbmpdhiaa
open Go.RowKit
set_option linter.unusedVariables false

/-- what take comes to -/
theorem plTake_any {s : Pl.S} (hG : Pl.Good s) (h0 : s.last = 0) (n : Int) {b : Nat} {sv rv x : Value} {w : World} (T : PlT w b s.h sv rv n sv rv s.one s.row s.rows 0 x w) :
    Calls Try.prog 104 #[.pointer (some ⟨b, 0, none⟩)] w (TakeR w b s.h sv rv x (Pl.sample s n).1.one (Pl.sample s n).1.row (Pl.sample s n).1.rows (Pl.sample s n).1.last (Pl.sample s n).2) := by
  have hm := hG.may.m
  have hc := Hj.chan_at s.h
  have ho := hG.one
  have hr := hG.row
  have l1 : s.one.length ≤ 3 := by omega
  have l2 : s.row.length ≤ 4096 := by omega
  unfold Pl.sample
  by_cases h1 : (s.one.length : Int) + 1 < Hj.chan s.h
  · rw [if_pos h1]
    exact take_more hG.may T l1 l2 hG.rows0 (hG.rows1 h0) h1
  rw [if_neg h1]
  by_cases h2 : (s.row.length : Int) + 1 < s.h.w
  · rw [if_pos h2]
    exact take_pixel hG.may T l1 l2 hG.rows0 (hG.rows1 h0) h1 ho h2
  rw [if_neg h2]
  by_cases h3 : s.rows + 1 = s.h.h
  · have e : (Pl.line s n).last = 1 := if_pos h3
    show Calls _ _ _ _ (TakeR w b s.h sv rv x [] [] (s.rows + 1) (Pl.line s n).last (s.row ++ [Pl.pix s n]))
    rw [e]
    exact take_over hG.may T l1 l2 hG.rows0 (hG.rows1 h0) h1 ho h2 hr h3
  · have e : (Pl.line s n).last = 0 := if_neg h3
    show Calls _ _ _ _ (TakeR w b s.h sv rv x [] [] (s.rows + 1) (Pl.line s n).last (s.row ++ [Pl.pix s n]))
    rw [e]
    exact take_row hG.may T l1 l2 hG.rows0 (hG.rows1 h0) h1 ho h2 hr h3
end Go.Proofs.Ytflpocnbmpdhiaa

/- A reader of digits is told a byte, and the end, over any memory. Condition: its head may be. -/
namespace Go.Proofs.Ytflpocnbmpdhiaa
open Go.RowKit
set_option linter.unusedVariables false

section
variable (c : Int) (w : World) (b : Nat) (h : Hd.H) (n : Int) (sv rv : Value) (rows : Int)
set_option maxHeartbeats 1000000 in
theorem plPut_done (t f : Int) (x : Value) (ht : t ≠ 0) (H : PlC w b h n sv rv rows t f x) :
    Calls Try.prog 78 #[.pointer (some ⟨b, 0, none⟩), .int .u8 c] w fun e w' => e = .returned (.tuple #[.slice none 0 0, .int .i64 t]) ∧ ∃ j, w' = w.drewN j := by
  have hc8 := H.c8
  have ht' : (t != 0) = true := by simpa using ht
  go_enter Try.func78, Try.ntmps78
  go_wp2_with (go_quiet (fail))
  go_ret2
  exact ⟨rfl, _, rfl⟩
variable (fn : Nat) (hn : ∀ args w, (callFunc fn args).run Try.prog w = .ok (.enter fn args) w) (H : PlC w b h n sv rv rows 0 0 (.func (.func fn) #[] #[])) (k : Int) (x : Value)
include hn H
set_option maxHeartbeats 1000000 in
theorem plPut_open (hcall : Calls Try.prog fn #[.pointer (some ⟨b, 0, none⟩), .int .u8 c] w (StR w b h k sv rv rows x false 0)) :
    Calls Try.prog 78 #[.pointer (some ⟨b, 0, none⟩), .int .u8 c] w fun e w' => e = .returned (.tuple #[.slice none 0 0, .int .i64 0]) ∧ PlC w' b h k sv rv rows 0 0 x ∧ w.grownBy w' (some b) := by
  have hc8 := H.c8
  have hc10 := H.c10
  have HC := Lib.hid hcall
  clear hcall
  go_enter Try.func78, Try.ntmps78
  go_wp2_with (go_at_fn fn; refine HC.out.mono ?_; rintro e w2 ⟨rfl, h2, hg2⟩; have HH2 := Lib.hid h2; have HG2 := Lib.hid hg2; clear h2 hg2)
  go_ret2
  exact ⟨rfl, HH2.out, HG2.out⟩
set_option maxHeartbeats 1000000 in
theorem plPut_err (d : Bool) (er : Int) (he : er ≠ 0) (hcall : Calls Try.prog fn #[.pointer (some ⟨b, 0, none⟩), .int .u8 c] w (StR w b h k sv rv rows x d er)) :
    Calls Try.prog 78 #[.pointer (some ⟨b, 0, none⟩), .int .u8 c] w fun e w' => e = .returned (.tuple #[.slice none 0 0, .int .i64 2]) ∧ PlC w' b h k sv rv rows 2 er x ∧ w.grownBy w' (some b) := by
  have hc8 := H.c8
  have hc10 := H.c10
  have HC := Lib.hid hcall
  have ke : (er != 0) = true := by simpa using he
  clear hcall he
  go_enter Try.func78, Try.ntmps78
  go_wp2_with (first | (go_at_fn fn; refine HC.out.mono ?_; rintro e w2 ⟨rfl, h2, hg2⟩; have HH2 := Lib.hid h2; have HG2 := Lib.hid hg2; clear h2 hg2) | (go_at_call 103; refine (plWrong_any w2 b h k sv rv rows 0 0 x HH2.out er).mono ?_; rintro e w3 ⟨rfl, h3, hg3⟩; have hd8 := h3.c8; have HH3 := Lib.hid h3; have HG3 := Lib.hid hg3; clear h3 hg3) | go_quiet (fail))
  go_ret2
  exact ⟨rfl, HH3.out.drewN _, (HG2.out.trans HG3.out).trans (grown_drew _ _ _)⟩
set_option maxHeartbeats 1000000 in
theorem plPut_take (n' rows' t' : Int) (out : List Int) (R : World → World → Option Addr → Value → Value → Prop) (hcall : Calls Try.prog fn #[.pointer (some ⟨b, 0, none⟩), .int .u8 c] w (StR w b h k sv rv rows x true 0))
    (htk : ∀ W, PlC W b h k sv rv rows 0 0 x → w.grownBy W (some b) → Calls Try.prog 104 #[.pointer (some ⟨b, 0, none⟩)] W fun e w' => ∃ a c sv' rv', e = .returned (.slice a out.length c) ∧ PlC w' b h n' sv' rv' rows' t' 0 x ∧ R W w' a sv' rv') :
    Calls Try.prog 78 #[.pointer (some ⟨b, 0, none⟩), .int .u8 c] w fun e w' => ∃ a c sv' rv' W1 W2 j, e = .returned (.tuple #[.slice a out.length c, .int .i64 t']) ∧ w.grownBy W1 (some b) ∧ R W1 W2 a sv' rv' ∧ w' = W2.drewN j := by
  have hc8 := H.c8
  have hc10 := H.c10
  have HC := Lib.hid hcall
  have HT := Lib.hid htk
  obtain ⟨ol, hol⟩ : ∃ ol, out.length = ol := ⟨_, rfl⟩
  rw [hol] at HT ⊢
  clear hcall htk hol
  go_enter Try.func78, Try.ntmps78
  go_wp2_with (first | (go_at_fn fn; refine HC.out.mono ?_; rintro e w2 ⟨rfl, h2, hg2⟩; have HH2 := Lib.hid h2; have HG2 := Lib.hid hg2; clear h2 hg2) | (go_at_call 104; refine (HT.out w2 HH2.out HG2.out).mono ?_; rintro e w3 ⟨a3, c3, sv3, rv3, rfl, h3, hr3⟩; have hd8 := h3.c8; have HR3 := Lib.hid hr3; clear h3 hr3) | go_quiet (fail))
  go_ret2
  exact ⟨a3, c3, sv3, rv3, w2, w3, _, rfl, HG2.out, HR3.out, rfl⟩
end
end Go.Proofs.Ytflpocnbmpdhiaa

/- A reader of digits is told a byte, and the end: what it comes to, over any memory. Condition: its head may be. -/
namespace Go.Proofs.Ytflpocnbmpdhiaa
open Go.RowKit
set_option linter.unusedVariables false

theorem Pl.sample_h (s : Pl.S) (k : Int) : (Pl.sample s k).1.h = s.h := by
  unfold Pl.sample
  split
  · rfl
  · split <;> rfl
theorem Pl.sample_d (s : Pl.S) (k : Int) : (Pl.sample s k).1.d = false := by
  unfold Pl.sample
  split
  · rfl
  · split <;> rfl
theorem Pl.sample_e (s : Pl.S) (k : Int) : (Pl.sample s k).1.e = 0 := by
  unfold Pl.sample
  split
  · rfl
  · split <;> rfl
def stOf (s : Pl.S) : Value := if s.h.kd = 1 then stB else if s.d = true then stD else stA
/-- a reader in the block b is where s says -/
structure PlX (w : World) (b : Nat) (sv rv : Value) (s : Pl.S) : Prop where
  g : Pl.Good s
  z : ∀ k, PlZ b sv rv k → b ≤ k ∧ k < w.heap.size
  ex : ∃ n x, PlC w b s.h n sv rv s.rows s.last s.e x ∧ (s.last = 0 → n = s.n ∧ x = stOf s ∧ w.ownsRow (b + 1) 3 1 sv s.one.length (ints s.one) ∧ w.ownsRow (b + 1) 71 1 rv s.row.length (pixs s.row))
/-- what a reader hands back of a byte, and what its blocks hold then -/
def PlPutR (w : World) (b : Nat) (sv rv : Value) (q : Pl.S × List Int) (e : Ending) (w' : World) : Prop :=
  ∃ a c sv' rv', e = .returned (.tuple #[.slice a q.2.length c, .int .i64 q.1.last]) ∧ PlX w' b sv' rv' q.1 ∧ SlK .u64 w' a q.2.length q.2 ∧ (∀ y, a = some y → y.block ≠ b) ∧ Sep (PlZ b sv rv) w w' ∧ PlNew w sv sv' ∧ PlNew w rv rv'
theorem slk_nil {w : World} : SlK .u64 w none ([] : List Int).length [] := ⟨rfl, .inl rfl⟩
theorem slk_kept {q : IntKind} {w w' : World} {a : Option Addr} {n b : Nat} {l : List Int} (h : SlK q w a n l) (ha : ∀ y, a = some y → y.block ≠ b) (hg : w.grownBy w' (some b)) : SlK q w' a n l := by
  obtain ⟨h1, h2⟩ := h
  refine ⟨h1, ?_⟩
  rcases h2 with h2 | ⟨g, o, rfl, hc⟩
  · exact .inl h2
  · refine .inr ⟨g, o, rfl, fun i hi => ?_⟩
    have hne := ha _ rfl
    exact hg.cell (hc i hi) (by intro e; injection e with e; exact hne e)
theorem PlX.own0 {w : World} {b : Nat} {sv rv : Value} {s : Pl.S} (X : PlX w b sv rv s) (h0 : s.last = 0) : PlT w b s.h sv rv s.n sv rv s.one s.row s.rows 0 (stOf s) w := by
  obtain ⟨n, x, hC, hx⟩ := X.ex
  obtain ⟨rfl, rfl, h1, h2⟩ := hx h0
  have e0 := X.g.e0 (by omega)
  rw [h0, e0] at hC
  exact .start hC h1 h2
theorem PlT.z {W w : World} {b : Nat} {h : Hd.H} {sv0 rv0 : Value} {n : Int} {sv rv : Value} {one row : List Int} {rows t : Int} {x : Value} (T : PlT W b h sv0 rv0 n sv rv one row rows t x w) {w' : World} (hs : w.heap.size ≤ w'.heap.size) : ∀ k, PlZ b sv rv k → b ≤ k ∧ k < w'.heap.size := by
  intro k hk
  have hb := T.c.lt
  rcases hk with rfl | hk | hk
  · exact ⟨Nat.le_refl _, Nat.lt_of_lt_of_le hb hs⟩
  · have := T.s.lt k hk; omega
  · have := T.r.lt k hk; omega
theorem z_up {w w' : World} {b : Nat} {sv rv : Value} (h : ∀ k, PlZ b sv rv k → b ≤ k ∧ k < w.heap.size) (hs : w.heap.size ≤ w'.heap.size) : ∀ k, PlZ b sv rv k → b ≤ k ∧ k < w'.heap.size := fun k hk => ⟨(h k hk).1, Nat.lt_of_lt_of_le (h k hk).2 hs⟩
theorem put_open {w : World} {b : Nat} {sv rv : Value} {s t : Pl.S} (hG : Pl.Good t) (ht : t.last = 0) (T : PlT w b s.h sv rv s.n sv rv s.one s.row s.rows 0 (stOf s) w) (hs : t.h = s.h ∧ t.one = s.one ∧ t.row = s.row ∧ t.rows = s.rows)
    {e : Ending} {w' : World} (he : e = .returned (.tuple #[.slice none 0 0, .int .i64 0])) (hC : PlC w' b s.h t.n sv rv s.rows 0 0 (stOf t)) (hg : w.grownBy w' (some b)) : PlPutR w b sv rv (t, []) e w' := by
  obtain ⟨a1, a2, a3, a4⟩ := hs
  have e0 := hG.e0 (by omega)
  refine ⟨none, 0, sv, rv, by rw [he]; show _ = Ending.returned (.tuple #[.slice none 0 0, .int .i64 t.last]); rw [ht], ⟨hG, T.z hg.size, t.n, stOf t, by rw [a1, a4, ht, e0]; exact hC, fun _ => ⟨rfl, rfl, ?_, ?_⟩⟩, slk_nil, (fun y hy => by cases hy), .grown hg (.inl rfl), .inl rfl, .inl rfl⟩
  · rw [a2]; exact T.s.kept hg (.inr fun e => T.nes e.symm)
  · rw [a3]; exact T.r.kept hg (.inr fun e => T.ner e.symm)
theorem put_wrong {w : World} {b : Nat} {sv rv : Value} {s : Pl.S} (hG : Pl.Good s) (T : PlT w b s.h sv rv s.n sv rv s.one s.row s.rows 0 (stOf s) w) {er : Int} (her : er = 3 ∨ er = 5 ∨ er = 6)
    {e : Ending} {w' : World} {k : Int} {x : Value} (he : e = .returned (.tuple #[.slice none 0 0, .int .i64 2])) (hC : PlC w' b s.h k sv rv s.rows 2 er x) (hg : w.grownBy w' (some b)) : PlPutR w b sv rv (Pl.wrong s er, []) e w' :=
  ⟨none, 0, sv, rv, he, ⟨Pl.good_wrong hG her, T.z hg.size, k, x, hC, fun h => absurd h (show ¬ (2 : Int) = 0 by decide)⟩, slk_nil, (fun y hy => by cases hy), .grown hg (.inl rfl), .inl rfl, .inl rfl⟩
theorem put_sample {w : World} {b : Nat} {sv rv : Value} {s : Pl.S} (hG : Pl.Good s) (h0 : s.last = 0) (T : PlT w b s.h sv rv s.n sv rv s.one s.row s.rows 0 (stOf s) w) (c k : Int) (k0 : 0 ≤ k) (k1 : k ≤ s.h.m) (fn : Nat)
    (hn : ∀ args w, (callFunc fn args).run Try.prog w = .ok (.enter fn args) w) (hfn : stOf s = .func (.func fn) #[] #[]) (x : Value) (hx : x = if s.h.kd = 1 then stB else stA)
    (hcall : Calls Try.prog fn #[.pointer (some ⟨b, 0, none⟩), .int .u8 c] w (StR w b s.h k sv rv s.rows x true 0)) :
    Calls Try.prog 78 #[.pointer (some ⟨b, 0, none⟩), .int .u8 c] w (PlPutR w b sv rv (Pl.sample s k)) := by
  have H := T.c
  rw [hfn] at H
  refine (plPut_take c w b s.h s.n sv rv s.rows fn hn H k x 0 (Pl.sample s k).1.rows (Pl.sample s k).1.last (Pl.sample s k).2 (fun W1 W2 a sv' rv' => PlT W1 b s.h sv rv 0 sv' rv' (Pl.sample s k).1.one (Pl.sample s k).1.row (Pl.sample s k).1.rows (Pl.sample s k).1.last x W2 ∧ SlK .u64 W2 a (Pl.sample s k).2.length (Pl.sample s k).2 ∧ ∀ y, a = some y → y.block ≠ b) hcall ?_).mono ?_
  · intro W hC hg
    refine (plTake_any hG h0 k (.start hC (T.s.kept hg (.inr fun e => T.nes e.symm)) (T.r.kept hg (.inr fun e => T.ner e.symm)))).mono ?_
    rintro e w' ⟨a, c', sv', rv', he, hT, hS⟩
    exact ⟨a, c', sv', rv', he, hT.c, hT, hS⟩
  · rintro e w' ⟨a, c', sv', rv', W1, W2, j, he, hg1, ⟨hT, hS, hA⟩, rfl⟩
    have hGq := Pl.good_sample hG h0 k k0 k1
    have hh := Pl.sample_h s k
    have hd := Pl.sample_d s k
    have hz : (Pl.sample s k).1.n = 0 := hGq.nd hd
    have he2 := Pl.sample_e s k
    have hst : stOf (Pl.sample s k).1 = x := by unfold stOf; rw [hh, hd, hx]; rfl
    refine ⟨a, c', sv', rv', he, ⟨hGq, hT.z (Nat.le_refl _), 0, x, ?_, fun _ => ⟨hz.symm, hst.symm, hT.s, hT.r⟩⟩, hS, hA, ((Sep.grown hg1 (.inl rfl)).trans hT.f).trans (.drewN _ _ _), ?_, ?_⟩
    · rw [hh, he2]; exact hT.c
    · rcases hT.ns with h | h
      · exact .inl h
      · exact .inr fun i hi => Nat.le_trans hg1.size (h i hi)
    · rcases hT.nr with h | h
      · exact .inl h
      · exact .inr fun i hi => Nat.le_trans hg1.size (h i hi)
theorem plPut_any {s : Pl.S} (c : Int) (c0 : 0 ≤ c) (c1 : c ≤ 255) (w : World) (b : Nat) (sv rv : Value) (X : PlX w b sv rv s) :
    Calls Try.prog 78 #[.pointer (some ⟨b, 0, none⟩), .int .u8 c] w (PlPutR w b sv rv (Pl.put s c)) := by
  have hG := X.g
  have hm := hG.may.m
  by_cases h0 : s.last = 0
  · have T := X.own0 h0
    have H := T.c
    unfold Pl.put
    rw [if_neg (by omega)]
    cases hb : Tk.blank c with
    | true =>
      rw [if_pos rfl]
      by_cases hd : s.d = true
      · rw [if_pos hd]
        have hk : s.h.kd ≠ 1 := fun e => by rw [hG.kd e] at hd; cases hd
        have hst : stOf s = stD := by unfold stOf; rw [if_neg hk, if_pos hd]
        rw [hst] at H
        exact put_sample hG h0 T c s.n hG.n0 hG.n1 _ enPD hst stA (by rw [if_neg hk]) (plBehind_blank w b s.h s.n sv rv s.rows c c0 c1 hb H)
      · rw [if_neg hd]
        by_cases hk : s.h.kd = 1
        · have hst : stOf s = stB := by unfold stOf; rw [if_pos hk]
          rw [hst] at H
          refine (plPut_open c w b s.h s.n sv rv s.rows _ enPB H s.n stB (plBit_blank w b s.h s.n sv rv s.rows c c0 c1 hb H)).mono ?_
          rintro e w' ⟨he, hC, hg⟩
          exact put_open hG h0 T ⟨rfl, rfl, rfl, rfl⟩ he (by rw [hst]; exact hC) hg
        · have hst : stOf s = stA := by unfold stOf; rw [if_neg hk, if_neg hd]
          rw [hst] at H
          refine (plPut_open c w b s.h s.n sv rv s.rows _ enPA H s.n stA (plAhead_blank w b s.h s.n sv rv s.rows c c0 c1 hb H)).mono ?_
          rintro e w' ⟨he, hC, hg⟩
          exact put_open hG h0 T ⟨rfl, rfl, rfl, rfl⟩ he (by rw [hst]; exact hC) hg
    | false =>
      rw [if_neg (by decide)]
      by_cases hk : s.h.kd = 1
      · rw [if_pos hk]
        have hst : stOf s = stB := by unfold stOf; rw [if_pos hk]
        rw [hst] at H
        by_cases hc : c = 48 ∨ c = 49
        · rw [if_pos hc]
          exact put_sample hG h0 T c (c - 48) (by omega) (by omega) _ enPB hst stB (by rw [if_pos hk]) (plBit_yes w b s.h s.n sv rv s.rows c hc H)
        · rw [if_neg hc]
          refine (plPut_err c w b s.h s.n sv rv s.rows _ enPB H s.n stB false 3 (by decide) (plBit_no w b s.h s.n sv rv s.rows c c0 c1 hb (by omega) (by omega) H)).mono ?_
          rintro e w' ⟨he, hC, hg⟩
          exact put_wrong hG T (.inl rfl) he hC hg
      · rw [if_neg hk]
        obtain ⟨k, er, hs⟩ : ∃ k er, Nu.stepV s.n c s.h.m = (k, er) := ⟨_, _, rfl⟩
        have hse := Tk.stepV_e s.n c s.h.m
        have hsl := Nu.stepV_le s.n c s.h.m hG.n0 hG.n1
        rw [hs] at hse hsl ⊢
        simp only at hse hsl ⊢
        -- the step
        have hstep : ∀ (k' er' : Int), (∀ W, PlC W b s.h s.n sv rv s.rows 0 0 stD → Calls Try.prog 126 #[.pointer (some ⟨b, 0, none⟩), .int .u8 c] W fun e w' => e = .returned (.int .i64 er') ∧ PlC w' b s.h k' sv rv s.rows 0 0 stD ∧ W.grownBy w' (some b)) →
            ∃ fn, (∀ args w, (callFunc fn args).run Try.prog w = .ok (.enter fn args) w) ∧ stOf s = .func (.func fn) #[] #[] ∧ Calls Try.prog fn #[.pointer (some ⟨b, 0, none⟩), .int .u8 c] w (StR w b s.h k' sv rv s.rows stD false er') := by
          intro k' er' hd'
          by_cases hd : s.d = true
          · have hst : stOf s = stD := by unfold stOf; rw [if_neg hk, if_pos hd]
            rw [hst] at H ⊢
            exact ⟨_, enPD, rfl, plBehind_digit w b s.h s.n sv rv s.rows c c0 c1 hb H k' er' hd'⟩
          · have hst : stOf s = stA := by unfold stOf; rw [if_neg hk, if_neg hd]
            rw [hst] at H ⊢
            exact ⟨_, enPA, rfl, plAhead_digit w b s.h s.n sv rv s.rows c c0 c1 hb H k' er' hd'⟩
        by_cases he0 : er = 0
        · rw [if_pos he0]
          obtain ⟨fn, hn, hst, hcall⟩ := hstep k 0 (fun W hW => by
            have := plDigit_any W b s.h s.n sv rv s.rows 0 0 stD hW hG.n0 hG.n1 (by omega) c c0 c1 k er hs (by omega)
            rw [he0] at this; exact this)
          rw [hst] at H
          refine (plPut_open c w b s.h s.n sv rv s.rows fn hn H k stD hcall).mono ?_
          rintro e w' ⟨he, hC, hg⟩
          have hgl := hsl he0
          have hGd : Pl.Good (Pl.digit s k) := ⟨hG.may, hgl.1, hgl.2, (fun h => absurd h (show ¬ true = false by decide)), (fun h => absurd h hk), hG.one, hG.oneIn, hG.row, hG.rows0, (fun _ => hG.rows1 h0), hG.rows2, .inl rfl, fun _ => rfl, (fun h => absurd h (show ¬ (0 : Int) = 2 by decide))⟩
          exact put_open (s := s) (t := Pl.digit s k) hGd rfl T ⟨rfl, rfl, rfl, rfl⟩ he (by
            have : stOf (Pl.digit s k) = stD := by unfold stOf Pl.digit; rw [if_neg hk, if_pos rfl]
            rw [this]; exact hC) hg
        · rw [if_neg he0]
          by_cases he4 : er = 4
          · rw [if_pos he4]
            obtain ⟨fn, hn, hst, hcall⟩ := hstep s.n 5 (fun W hW => plDigit_range W b s.h s.n sv rv s.rows 0 0 stD hW hG.n0 hG.n1 (by omega) c c0 c1 k er hs he4)
            rw [hst] at H
            refine (plPut_err c w b s.h s.n sv rv s.rows fn hn H s.n stD false 5 (by decide) hcall).mono ?_
            rintro e w' ⟨he, hC, hg⟩
            exact put_wrong hG T (.inr (.inl rfl)) he hC hg
          · rw [if_neg he4]
            have he3 : er = 3 := by omega
            obtain ⟨fn, hn, hst, hcall⟩ := hstep k er (fun W hW => plDigit_any W b s.h s.n sv rv s.rows 0 0 stD hW hG.n0 hG.n1 (by omega) c c0 c1 k er hs he4)
            rw [hst] at H
            refine (plPut_err c w b s.h s.n sv rv s.rows fn hn H k stD false er (by omega) hcall).mono ?_
            rintro e w' ⟨he, hC, hg⟩
            exact put_wrong hG T (.inl he3) he hC hg
  · obtain ⟨n, x, hC, hx⟩ := X.ex
    unfold Pl.put
    rw [if_pos (by omega)]
    refine (plPut_done c w b s.h n sv rv s.rows s.last s.e x h0 hC).mono ?_
    rintro e w' ⟨he, j, rfl⟩
    exact ⟨none, 0, sv, rv, he, ⟨hG, X.z, n, x, hC, fun h => absurd h h0⟩, slk_nil, (fun y hy => by cases hy), .drewN _ _ _, .inl rfl, .inl rfl⟩
set_option maxHeartbeats 1000000 in
theorem plEnd_any {s : Pl.S} (w : World) (b : Nat) (sv rv : Value) (X : PlX w b sv rv s) :
    Calls Try.prog 80 #[.pointer (some ⟨b, 0, none⟩)] w (PlPutR w b sv rv (Pl.fin s)) := by
  have HP := Lib.hid (plPut_any 32 (by decide) (by decide) w b sv rv X)
  clear X
  by_cases h0 : (Pl.put s 32).1.last = 0
  · have hf : Pl.fin s = (Pl.wrong (Pl.put s 32).1 6, (Pl.put s 32).2) := by unfold Pl.fin; rw [if_pos h0]
    rw [hf]
    obtain ⟨q, hq⟩ : ∃ q, Pl.put s 32 = q := ⟨_, rfl⟩
    rw [hq] at HP h0 ⊢
    obtain ⟨ol, hol⟩ : ∃ ol, q.2.length = ol := ⟨_, rfl⟩
    have HOL := Lib.hid hol
    have H0 := Lib.hid h0
    clear hf hq hol h0
    go_enter Try.func80, Try.ntmps80
    go_wp2_with fail
    refine HP.out.mono ?_
    rintro e w2 ⟨a, c, sv', rv', rfl, X2, S2, A2, F2, N2, N3⟩
    obtain ⟨n, x, hC, hx⟩ := X2.ex
    rw [HOL.out, H0.out]
    have HX2 := Lib.hid X2
    have HS2 := Lib.hid S2
    have HA2 := Lib.hid A2
    have HF2 := Lib.hid F2
    have HN2 := Lib.hid N2
    have HN3 := Lib.hid N3
    have HC := Lib.hid hC
    clear X2 S2 A2 F2 N2 N3 hx hC
    go_wp2_with (first | (go_at_call 103; refine (plWrong_any w2 b _ _ _ _ _ _ _ _ HC.out 6).mono ?_; rintro e w3 ⟨rfl, h3, hg3⟩; have hd8 := h3.c8; have HH3 := Lib.hid h3; have HG3 := Lib.hid hg3; clear h3 hg3) | go_quiet (fail))
    go_ret2
    refine ⟨a, c, sv', rv', by rw [HOL.out]; rfl, ⟨Pl.good_wrong HX2.out.g (.inr (.inr rfl)), z_up HX2.out.z HG3.out.size, _, _, HH3.out.drewN _, fun h => absurd h (show ¬ (2 : Int) = 0 by decide)⟩, ?_, HA2.out, (HF2.out.trans (.grown HG3.out (.inl rfl))).trans (.drewN _ _ _), HN2.out, HN3.out⟩
    exact slk_kept (w := w2) HS2.out HA2.out (HG3.out.trans (grown_drew _ _ _))
  · have hf : Pl.fin s = Pl.put s 32 := by unfold Pl.fin; rw [if_neg h0]
    rw [hf]
    obtain ⟨q, hq⟩ : ∃ q, Pl.put s 32 = q := ⟨_, rfl⟩
    rw [hq] at HP h0 ⊢
    obtain ⟨t, ht⟩ : ∃ t, q.1.last = t := ⟨_, rfl⟩
    have h0' : (t == 0) = false := by rw [← ht]; simpa using h0
    obtain ⟨ol, hol⟩ : ∃ ol, q.2.length = ol := ⟨_, rfl⟩
    have HOL := Lib.hid hol
    have HT := Lib.hid ht
    clear hf hq hol h0 ht
    go_enter Try.func80, Try.ntmps80
    go_wp2_with fail
    refine HP.out.mono ?_
    rintro e w2 ⟨a, c, sv', rv', rfl, X2, S2, A2, F2, N2, N3⟩
    obtain ⟨n, x, hC, hx⟩ := X2.ex
    have hc8 := hC.c8
    rw [HOL.out, HT.out]
    rw [HT.out] at hc8
    have HX2 := Lib.hid X2
    have HS2 := Lib.hid S2
    have HA2 := Lib.hid A2
    have HF2 := Lib.hid F2
    have HN2 := Lib.hid N2
    have HN3 := Lib.hid N3
    clear X2 S2 A2 F2 N2 N3 hx hC
    go_wp2_with (go_quiet (fail))
    go_ret2
    refine ⟨a, c, sv', rv', by rw [HOL.out, HT.out]; rfl, ⟨HX2.out.g, HX2.out.z, HX2.out.ex⟩, HS2.out, HA2.out, HF2.out.trans (.drewN _ _ _), HN2.out, HN3.out⟩
end Go.Proofs.Ytflpocnbmpdhiaa

/- Which heads are read as rasters of digits, and a new reader of one, over any memory. Condition: a head's numbers fit. -/
namespace Go.Proofs.Ytflpocnbmpdhiaa
open Go.RowKit
set_option linter.unusedVariables false

instance (h : Hd.H) : Decidable (Pl.May h) := by unfold Pl.May; infer_instance
theorem Pl.may_no {h : Hd.H} (h1 : ¬ Hd.May h) : decide (Pl.May h) = false := decide_eq_false fun H => h1 H.1
set_option maxHeartbeats 1000000 in
theorem plMay_any (h : Hd.H) (hf : Hj.Fit h) (w : World) :
    Calls Try.prog 72 #[agH h] w fun e w' => e = .returned (.bool (decide (Pl.May h))) ∧ Below w.heap.size w w' := by
  have HM := Lib.hid (hmay_any h hf)
  by_cases h1 : Hd.May h
  · have HR := Lib.hid (hraw_any h h1)
    simp only [decide_eq_true h1] at HM
    by_cases h2 : h.kd ≤ 3
    · have X := Lib.hid (show decide (Pl.May h) = true from decide_eq_true ⟨h1, h2⟩)
      simp only [decide_eq_false (show ¬ 3 < h.kd by omega)] at HR
      unfold agH at HM HR ⊢
      clear h1 h2
      go_enter Try.func72, Try.ntmps72
      go_wp2_with (first | (go_at_call 86; refine (HM.out _).mono ?_; rintro e w9 ⟨rfl, hb9⟩; have hBz := Lib.hid (((Below.refl _ w).alloc (Nat.le_refl _) _).trans (hb9.mono (by simp))); obtain ⟨n0, n1, n2, n3⟩ := ((Hb.new w 36 h).later hb9).cells; clear hb9) | (go_at_call 81; refine (HR.out _).mono ?_; rintro e w8 ⟨rfl, hb8⟩))
      go_ret
      exact ⟨ret_b X.out.symm, hBz.out.trans (hb8.mono hBz.out.size)⟩
    · have X := Lib.hid (show decide (Pl.May h) = false from decide_eq_false fun H => h2 H.2)
      simp only [decide_eq_true (show 3 < h.kd by omega)] at HR
      unfold agH at HM HR ⊢
      clear h1 h2
      go_enter Try.func72, Try.ntmps72
      go_wp2_with (first | (go_at_call 86; refine (HM.out _).mono ?_; rintro e w9 ⟨rfl, hb9⟩; have hBz := Lib.hid (((Below.refl _ w).alloc (Nat.le_refl _) _).trans (hb9.mono (by simp))); obtain ⟨n0, n1, n2, n3⟩ := ((Hb.new w 36 h).later hb9).cells; clear hb9) | (go_at_call 81; refine (HR.out _).mono ?_; rintro e w8 ⟨rfl, hb8⟩))
      go_ret
      exact ⟨ret_b X.out.symm, hBz.out.trans (hb8.mono hBz.out.size)⟩
  · have X := Lib.hid (Pl.may_no h1)
    simp only [decide_eq_false h1] at HM
    unfold agH at HM ⊢
    clear h1
    go_enter Try.func72, Try.ntmps72
    go_wp2_with (go_at_call 86; refine (HM.out _).mono ?_; rintro e w9 ⟨rfl, hb9⟩; have hBz := Lib.hid (((Below.refl _ w).alloc (Nat.le_refl _) _).trans (hb9.mono (by simp))))
    go_ret
    exact ⟨ret_b X.out.symm, hBz.out⟩
/-- a new reader -/
def PlNewR (h : Hd.H) (w : World) (e : Ending) (w' : World) : Prop :=
  ∃ b, e = .returned (.tuple #[.pointer (some ⟨b, 0, none⟩), .int .i64 0]) ∧ w.heap.size ≤ b ∧ PlX w' b (.slice none 0 0) (.slice none 0 0) (Pl.new h) ∧ Below w.heap.size w w'
theorem new_x {w : World} {b : Nat} {h : Hd.H} (hm : Pl.May h) {x : Value} (hx : x = stOf (Pl.new h)) (H : PlC w b h 0 (.slice none 0 0) (.slice none 0 0) 0 0 0 x) : PlX w b (.slice none 0 0) (.slice none 0 0) (Pl.new h) :=
  ⟨Pl.good_new hm, (fun k hk => hk.elim (fun h => by subst h; exact ⟨Nat.le_refl _, H.lt⟩) fun h => h.elim (fun h => by cases h) fun h => by cases h), 0, x, H, fun _ => ⟨rfl, hx, World.ownsRow_nil _ _ _ _, World.ownsRow_nil _ _ _ _⟩⟩
set_option maxRecDepth 100000 in
set_option maxHeartbeats 1000000 in
theorem plNew_yes (h : Hd.H) (hf : Hj.Fit h) (hm : Pl.May h) (w : World) :
    Calls Try.prog 77 #[agH h] w (PlNewR h w) := by
  have HM := Lib.hid (plMay_any h hf)
  simp only [decide_eq_true hm] at HM
  by_cases hk : h.kd = 1
  · have hx : stB = stOf (Pl.new h) := by unfold stOf; rw [if_pos (show (Pl.new h).h.kd = 1 from hk)]
    have HX := Lib.hid hx
    have hk' : (h.kd == 1) = true := by simpa using hk
    have HM' := Lib.hid hm
    unfold agH at HM ⊢
    clear hk hx hm
    go_enter Try.func77, Try.ntmps77
    go_wp2_with (go_at_call 72; refine (HM.out _).mono ?_; rintro e w9 ⟨rfl, hb9⟩; have hBz := Lib.hid (((Below.refl _ w).alloc (Nat.le_refl _) _).trans (hb9.mono (by simp))); have hz9 := Lib.hid (show w.heap.size + 1 ≤ w9.heap.size by have := hb9.size; simpa using this); obtain ⟨n0, n1, n2, n3⟩ := ((Hb.new w 36 h).later hb9).cells; have hlt : w.heap.size < w9.heap.size := (by have := hb9.size; simp at this; omega); have hne : ¬ w.heap.size = w9.heap.size := Nat.ne_of_lt hlt; clear hb9)
    go_ret2
    refine ⟨w9.heap.size, rfl, by have := hBz.out.size; omega, new_x HM'.out HX.out ?_, ?_⟩
    · exact (plain_cells w9 h (.slice none 0 0) (.slice none 0 0) 0 0 0 0 stB)
    · exact hBz.out.alloc hBz.out.size _
  · have hx : stA = stOf (Pl.new h) := by unfold stOf; rw [if_neg (show ¬ (Pl.new h).h.kd = 1 from hk)]; rfl
    have HX := Lib.hid hx
    have hk' : (h.kd == 1) = false := by simpa using hk
    have HM' := Lib.hid hm
    unfold agH at HM ⊢
    clear hk hx hm
    go_enter Try.func77, Try.ntmps77
    go_wp2_with (go_at_call 72; refine (HM.out _).mono ?_; rintro e w9 ⟨rfl, hb9⟩; have hBz := Lib.hid (((Below.refl _ w).alloc (Nat.le_refl _) _).trans (hb9.mono (by simp))); obtain ⟨n0, n1, n2, n3⟩ := ((Hb.new w 36 h).later hb9).cells; have hlt : w.heap.size < w9.heap.size := (by have := hb9.size; simp at this; omega); have hne : ¬ w.heap.size = w9.heap.size := Nat.ne_of_lt hlt; clear hb9)
    go_ret2
    refine ⟨w9.heap.size, rfl, by have := hBz.out.size; omega, new_x HM'.out HX.out ?_, ?_⟩
    · exact (plain_cells w9 h (.slice none 0 0) (.slice none 0 0) 0 0 0 0 stA)
    · exact hBz.out.alloc hBz.out.size _
set_option maxHeartbeats 1000000 in
theorem plNew_no (h : Hd.H) (hf : Hj.Fit h) (hm : ¬ Pl.May h) (w : World) :
    Calls Try.prog 77 #[agH h] w fun e w' => e = .returned (.tuple #[.pointer none, .int .i64 1]) ∧ Below w.heap.size w w' := by
  have HM := Lib.hid (plMay_any h hf)
  simp only [decide_eq_false hm] at HM
  unfold agH at HM ⊢
  clear hm
  go_enter Try.func77, Try.ntmps77
  go_wp2_with (go_at_call 72; refine (HM.out _).mono ?_; rintro e w9 ⟨rfl, hb9⟩; have hBz := Lib.hid (((Below.refl _ w).alloc (Nat.le_refl _) _).trans (hb9.mono (by simp))))
  go_ret2
  exact ⟨rfl, hBz.out⟩
end Go.Proofs.Ytflpocnbmpdhiaa

/- Heads that are made of any: at most so wide and high; of rasters of digits. Condition: a head's numbers fit. -/
namespace Go.Proofs.Ytflpocnbmpdhiaa
open Go.RowKit
set_option linter.unusedVariables false
namespace Pl
def goodM (M : Int) (h : Hd.H) : Hd.H := ⟨1 + Ar.around h.kd 6, 1 + Ar.around h.w M, 1 + Ar.around h.h M, if Hd.bits (1 + Ar.around h.kd 6) = true then 1 else 1 + Ar.around h.m 65535⟩
theorem goodM_in (M : Int) (M0 : 1 ≤ M) (h : Hd.H) : (1 ≤ (goodM M h).kd ∧ (goodM M h).kd ≤ 6) ∧ (1 ≤ (goodM M h).w ∧ (goodM M h).w ≤ M) ∧ (1 ≤ (goodM M h).h ∧ (goodM M h).h ≤ M) ∧ (1 ≤ (goodM M h).m ∧ (goodM M h).m ≤ 65535) ∧ (Hd.bits (goodM M h).kd = true → (goodM M h).m = 1) := by
  have a := Ar.around_lt h.kd 6 (by omega)
  have b := Ar.around_lt h.w M (by omega)
  have c := Ar.around_lt h.h M (by omega)
  have d := Ar.around_lt h.m 65535 (by omega)
  unfold goodM
  refine ⟨by simp only []; omega, by simp only []; omega, by simp only []; omega, ?_, fun hb => if_pos hb⟩
  simp only []
  split <;> omega
theorem goodM_may (M : Int) (M0 : 1 ≤ M) (M1 : M ≤ 4096) (h : Hd.H) : Hd.May (goodM M h) := by
  obtain ⟨a, b, c, d, e⟩ := goodM_in M M0 h
  unfold Hd.May
  refine ⟨a, by omega, by omega, d, ?_⟩
  first
    | exact e
    | (intro hb; exact e hb)
    | (by_cases hb : Hd.bits (goodM M h).kd = true
       · exact .inl (e hb)
       · exact .inr hb)
def headV (M : Int) (h : Hd.H) : Hd.H := if 3 < (goodM M h).kd then ⟨(goodM M h).kd - 3, (goodM M h).w, (goodM M h).h, (goodM M h).m⟩ else goodM M h
end Pl
set_option maxHeartbeats 2000000 in
theorem hgoodM_any (M : Int) (M0 : 1 ≤ M) (M1 : M ≤ 65536) (h : Hd.H) (hf : Hj.Fit h) (w : World) :
    Calls Try.prog 13 #[agH h, .int .i64 M] w fun e w' => e = .returned (agH (Pl.goodM M h)) ∧ Below w.heap.size w w' := by
  obtain ⟨kd, ww, hh, m⟩ := h
  obtain ⟨i0, i1, i2, i3⟩ := hf
  simp only at i0 i1 i2 i3
  have HA : Hid (∀ W, Calls Try.prog 15 #[.int .i64 kd, .int .i64 6] W fun e w' => e = .returned (.int .i64 (Ar.around kd 6)) ∧ W = w') := fun W => aroundOf kd 6 i0.1 i0.2 (by omega) (by omega) W
  have HB : Hid (∀ W, Calls Try.prog 15 #[.int .i64 ww, .int .i64 M] W fun e w' => e = .returned (.int .i64 (Ar.around ww M)) ∧ W = w') := fun W => aroundOf ww M i1.1 i1.2 (by omega) (by omega) W
  have HC : Hid (∀ W, Calls Try.prog 15 #[.int .i64 hh, .int .i64 M] W fun e w' => e = .returned (.int .i64 (Ar.around hh M)) ∧ W = w') := fun W => aroundOf hh M i2.1 i2.2 (by omega) (by omega) W
  have HD : Hid (∀ W, Calls Try.prog 15 #[.int .i64 m, .int .i64 65535] W fun e w' => e = .returned (.int .i64 (Ar.around m 65535)) ∧ W = w') := fun W => aroundOf m 65535 i3.1 i3.2 (by omega) (by omega) W
  have b0 := Ar.around_lt kd 6 (by omega)
  have b1 := Ar.around_lt ww M (by omega)
  have b2 := Ar.around_lt hh M (by omega)
  have b3 := Ar.around_lt m 65535 (by omega)
  have X : Hid (Pl.goodM M ⟨kd, ww, hh, m⟩ = ⟨1 + Ar.around kd 6, 1 + Ar.around ww M, 1 + Ar.around hh M, if Hd.bits (1 + Ar.around kd 6) = true then 1 else 1 + Ar.around m 65535⟩) := rfl
  unfold agH
  rw [X.out]
  clear X
  generalize Ar.around kd 6 = x0 at *
  generalize Ar.around ww M = x1 at *
  generalize Ar.around hh M = x2 at *
  generalize Ar.around m 65535 = x3 at *
  obtain ⟨y0, hy0⟩ : ∃ y, 1 + x0 = y := ⟨_, rfl⟩
  obtain ⟨y1, hy1⟩ : ∃ y, 1 + x1 = y := ⟨_, rfl⟩
  obtain ⟨y2, hy2⟩ : ∃ y, 1 + x2 = y := ⟨_, rfl⟩
  obtain ⟨y3, hy3⟩ : ∃ y, 1 + x3 = y := ⟨_, rfl⟩
  have e0 : wrap64 (1 + x0) = y0 := by rw [IntWalk.wrap64_in] <;> omega
  have e1 : wrap64 (1 + x1) = y1 := by rw [IntWalk.wrap64_in] <;> omega
  have e2 : wrap64 (1 + x2) = y2 := by rw [IntWalk.wrap64_in] <;> omega
  have e3 : wrap64 (1 + x3) = y3 := by rw [IntWalk.wrap64_in] <;> omega
  have f0 : IntKind.i64.wrap (1 + x0) = y0 := by rw [IntWalk.i64_in] <;> omega
  have f1 : IntKind.i64.wrap (1 + x1) = y1 := by rw [IntWalk.i64_in] <;> omega
  have f2 : IntKind.i64.wrap (1 + x2) = y2 := by rw [IntWalk.i64_in] <;> omega
  rw [hy0, hy1, hy2, hy3]
  have HBT := Lib.hid (bits_any y0)
  clear b0 b1 b2 b3 hy0 hy1 hy2 hy3 i0 i1 i2 i3
  obtain ⟨g, hg⟩ : ∃ g, Hd.bits y0 = g := ⟨_, rfl⟩
  rw [hg] at HBT ⊢
  go_enter Try.func13, Try.ntmps13
  go_wp2_with fail
  obtain ⟨W, hW⟩ : ∃ W, (w.alloc (Obj.cells #[Value.int IntKind.i64 kd, Value.int IntKind.i64 ww, Value.int IntKind.i64 hh, Value.int IntKind.i64 m] 25)).alloc (Obj.cells #[Value.int IntKind.i64 0, Value.int IntKind.i64 0, Value.int IntKind.i64 0, Value.int IntKind.i64 0] 25) = W := ⟨_, rfl⟩
  have hA := Hb.alloc (Hb.new w 25 ⟨kd, ww, hh, m⟩) (Obj.cells #[Value.int IntKind.i64 0, Value.int IntKind.i64 0, Value.int IntKind.i64 0, Value.int IntKind.i64 0] 25)
  have hZ := Hb.new (w.alloc (Obj.cells #[Value.int IntKind.i64 kd, Value.int IntKind.i64 ww, Value.int IntKind.i64 hh, Value.int IntKind.i64 m] 25)) 25 Hd.none
  have hBW : Below w.heap.size w W := by rw [← hW]; exact ((Below.refl _ w).alloc (Nat.le_refl _) _).alloc (by simp) _
  have hAW : Hb W w.heap.size 25 ⟨kd, ww, hh, m⟩ := by rw [← hW]; exact hA
  have hZW : Hb W (w.heap.size + 1) 25 Hd.none := by rw [← hW, ← World.size_alloc w]; exact hZ
  obtain ⟨n0, n1, n2, n3⟩ := hAW.cells
  have HZ := Lib.hid hZW
  have HA3 := Lib.hid hAW
  have HB0 := Lib.hid hBW
  have hBr : Below W.heap.size W W := .refl _ _
  try simp only [World.size_alloc]
  rw [hW]
  clear hW hA hZ hBW hAW hZW
  go_cut [5] (fun s5 wx => ∃ p, s5 = .pointer (some ⟨p, 0, none⟩) ∧ Hb wx p 25 ⟨y0, y1, y2, 1⟩ ∧ W.heap.size ≤ p ∧ Below W.heap.size W wx)
  case first =>
    go_region_held3 (fun w' => w'.cell? ⟨w.heap.size, 0, none⟩ = some (.int .i64 kd) ∧ w'.cell? ⟨w.heap.size, 1, none⟩ = some (.int .i64 ww) ∧ w'.cell? ⟨w.heap.size, 2, none⟩ = some (.int .i64 hh))
      (first | exact ⟨n0, n1, n2⟩ | exact ⟨cell_later (hBr.alloc (Nat.le_refl _) _) n0, cell_later (hBr.alloc (Nat.le_refl _) _) n1, cell_later (hBr.alloc (Nat.le_refl _) _) n2⟩ | exact ⟨cell_later (hBr.drew.alloc (Nat.le_refl _) _) n0, cell_later (hBr.drew.alloc (Nat.le_refl _) _) n1, cell_later (hBr.drew.alloc (Nat.le_refl _) _) n2⟩)
      (first
        | (go_at_call 15; with_reducible refine (HA.out _).mono ?_; rintro e w9 ⟨rfl, rfl⟩)
        | (go_at_call 15; with_reducible refine (HB.out _).mono ?_; rintro e w9 ⟨rfl, rfl⟩)
        | (go_at_call 15; with_reducible refine (HC.out _).mono ?_; rintro e w9 ⟨rfl, rfl⟩))
    all_goals
      go_wp2_with fail
      go_meet
      case rel => exact ⟨_, rfl, Hb.new _ _ ⟨y0, y1, y2, 1⟩, Nat.le_refl _, (show Below W.heap.size W W.drew from hBr.drew).alloc (Nat.le_refl _) _⟩
  case rest =>
    obtain ⟨p, rfl, hP, hp, hBx⟩ := hcut
    have HP := Lib.hid hP
    have hZ2 := HZ.out.later hBx
    have hA2 := HA3.out.later hBx
    have HZ2 := Lib.hid hZ2
    have hne : w.heap.size + 1 ≠ p := by have := HZ.out.lt; omega
    have hbw := HB0.out.trans (hBx.mono HB0.out.size)
    obtain ⟨a0, a1, a2, a3⟩ := hP.cells
    obtain ⟨c0, c1, c2, c3⟩ := hP.fr
    obtain ⟨z0, z1, z2, z3⟩ := hZ2.cells
    obtain ⟨u0, u1, u2, u3⟩ := hZ2.fr
    obtain ⟨q0, q1, q2, q3⟩ := hA2.cells
    have hpw : w.heap.size ≤ p := Nat.le_trans HB0.out.size hp
    clear hP hZ2 hA2 n0 n1 n2 n3 hBx hBr
    cases g with
    | true =>
      go_wp2_with (go_at_call 46; refine (HBT.out _).mono ?_; rintro e w9 ⟨rfl, rfl⟩)
      refine bodyPost_ret (Hj.ret1 Try.results13 _ _ _ _ rfl (load_rh (HZ2.out.put ⟨y0, y1, y2, 1⟩))) rfl ?_
      exact ⟨rfl, (((hbw.setCell (Nat.le_succ _) _).setCell (Nat.le_succ _) _).setCell (Nat.le_succ _) _).setCell (Nat.le_succ _) _⟩
    | false =>
      go_wp2_with (first
        | (go_at_call 46; refine (HBT.out _).mono ?_; rintro e w9 ⟨rfl, rfl⟩)
        | (go_at_call 15; with_reducible refine (HD.out _).mono ?_; rintro e w9 ⟨rfl, rfl⟩))
      refine bodyPost_ret (Hj.ret1 Try.results13 _ _ _ _ rfl (load_rh ((HZ2.out.kept (grown_setCell _ _ _ _) (by intro e; injection e with e; exact hne e)).put ⟨y0, y1, y2, y3⟩))) rfl ?_
      exact ⟨rfl, ((((hbw.setCell hpw _).setCell (Nat.le_succ _) _).setCell (Nat.le_succ _) _).setCell (Nat.le_succ _) _).setCell (Nat.le_succ _) _⟩
end Go.Proofs.Ytflpocnbmpdhiaa

/- Which heads are read as rasters of bytes; heads made of any; how many bytes a row has: of the code and of the document, over any memory. Condition: a head's numbers fit. -/
namespace Go.Proofs.Ytflpocnbmpdhiaa
open Go.RowKit
set_option linter.unusedVariables false

instance (h : Hd.H) : Decidable (Rw.May h) := by unfold Rw.May; infer_instance
theorem Rw.may_no {h : Hd.H} (h1 : ¬ Hd.May h) : decide (Rw.May h) = false := decide_eq_false fun H => h1 H.1
def Rw.headV (M : Int) (h : Hd.H) : Hd.H := if (Pl.goodM M h).kd < 4 then ⟨(Pl.goodM M h).kd + 3, (Pl.goodM M h).w, (Pl.goodM M h).h, (Pl.goodM M h).m⟩ else Pl.goodM M h
set_option maxHeartbeats 1000000 in
theorem rwMay_any (h : Hd.H) (hf : Hj.Fit h) (w : World) :
    Calls Try.prog 54 #[agH h] w fun e w' => e = .returned (.bool (decide (Rw.May h))) ∧ Below w.heap.size w w' := by
  have HM := Lib.hid (hmay_any h hf)
  by_cases h1 : Hd.May h
  · have HR := Lib.hid (hraw_any h h1)
    simp only [decide_eq_true h1] at HM
    by_cases h2 : 4 ≤ h.kd
    · have X := Lib.hid (show decide (Rw.May h) = true from decide_eq_true ⟨h1, h2⟩)
      simp only [decide_eq_true (show 3 < h.kd by omega)] at HR
      unfold agH at HM HR ⊢
      clear h1 h2
      go_enter Try.func54, Try.ntmps54
      go_wp2_with (first | (go_at_call 86; refine (HM.out _).mono ?_; rintro e w9 ⟨rfl, hb9⟩; have hBz := Lib.hid (((Below.refl _ w).alloc (Nat.le_refl _) _).trans (hb9.mono (by simp))); obtain ⟨n0, n1, n2, n3⟩ := ((Hb.new w 36 h).later hb9).cells; clear hb9) | (go_at_call 81; refine (HR.out _).mono ?_; rintro e w8 ⟨rfl, hb8⟩))
      go_ret
      exact ⟨ret_b X.out.symm, hBz.out.trans (hb8.mono hBz.out.size)⟩
    · have X := Lib.hid (show decide (Rw.May h) = false from decide_eq_false fun H => h2 H.2)
      simp only [decide_eq_false (show ¬ 3 < h.kd by omega)] at HR
      unfold agH at HM HR ⊢
      clear h1 h2
      go_enter Try.func54, Try.ntmps54
      go_wp2_with (first | (go_at_call 86; refine (HM.out _).mono ?_; rintro e w9 ⟨rfl, hb9⟩; have hBz := Lib.hid (((Below.refl _ w).alloc (Nat.le_refl _) _).trans (hb9.mono (by simp))); obtain ⟨n0, n1, n2, n3⟩ := ((Hb.new w 36 h).later hb9).cells; clear hb9) | (go_at_call 81; refine (HR.out _).mono ?_; rintro e w8 ⟨rfl, hb8⟩))
      go_ret
      exact ⟨ret_b X.out.symm, hBz.out.trans (hb8.mono hBz.out.size)⟩
  · have X := Lib.hid (Rw.may_no h1)
    simp only [decide_eq_false h1] at HM
    unfold agH at HM ⊢
    clear h1
    go_enter Try.func54, Try.ntmps54
    go_wp2_with (go_at_call 86; refine (HM.out _).mono ?_; rintro e w9 ⟨rfl, hb9⟩; have hBz := Lib.hid (((Below.refl _ w).alloc (Nat.le_refl _) _).trans (hb9.mono (by simp))))
    go_ret
    exact ⟨ret_b X.out.symm, hBz.out⟩
set_option maxHeartbeats 1000000 in
theorem refRwMay_any (h : Hd.H) (hf : Hj.Fit h) (w : World) :
    Calls Try.prog 42 #[agH h] w fun e w' => e = .returned (.bool (decide (Rw.May h))) ∧ Below w.heap.size w w' := by
  have HM := Lib.hid (refMay_any h hf)
  by_cases h1 : Hd.May h
  · simp only [decide_eq_true h1] at HM
    have X := Lib.hid (show decide (Rw.May h) = decide (3 < h.kd) by
      by_cases h2 : 4 ≤ h.kd
      · rw [decide_eq_true (show 3 < h.kd by omega)]; exact decide_eq_true ⟨h1, h2⟩
      · rw [decide_eq_false (show ¬ 3 < h.kd by omega)]; exact decide_eq_false fun H => h2 H.2)
    unfold agH at HM ⊢
    clear h1
    go_enter Try.func42, Try.ntmps42
    go_wp2_with (go_at_call 45; refine (HM.out _).mono ?_; rintro e w9 ⟨rfl, hb9⟩; have hBz := Lib.hid (((Below.refl _ w).alloc (Nat.le_refl _) _).trans (hb9.mono (by simp))); obtain ⟨n0, n1, n2, n3⟩ := ((Hb.new w 25 h).later hb9).cells; clear hb9)
    go_ret
    exact ⟨ret_b X.out.symm, hBz.out⟩
  · have X := Lib.hid (Rw.may_no h1)
    simp only [decide_eq_false h1] at HM
    unfold agH at HM ⊢
    clear h1
    go_enter Try.func42, Try.ntmps42
    go_wp2_with (go_at_call 45; refine (HM.out _).mono ?_; rintro e w9 ⟨rfl, hb9⟩; have hBz := Lib.hid (((Below.refl _ w).alloc (Nat.le_refl _) _).trans (hb9.mono (by simp))); obtain ⟨n0, n1, n2, n3⟩ := ((Hb.new w 25 h).later hb9).cells; clear hb9)
    go_ret
    exact ⟨ret_b X.out.symm, hBz.out⟩
set_option maxRecDepth 100000 in
set_option maxHeartbeats 2000000 in
theorem refRwHead_any (M : Int) (M0 : 1 ≤ M) (M1 : M ≤ 4096) (h : Hd.H) (hf : Hj.Fit h) (w : World) :
    Calls Try.prog 24 #[agH h, .int .i64 M] w fun e w' => e = .returned (agH (Rw.headV M h)) ∧ Below w.heap.size w w' := by
  have HG := Lib.hid (hgoodM_any M M0 (by omega) h hf)
  obtain ⟨a, b, c, d, e⟩ := Pl.goodM_in M M0 h
  have X : Hid (Rw.headV M h = if (Pl.goodM M h).kd < 4 then ⟨(Pl.goodM M h).kd + 3, (Pl.goodM M h).w, (Pl.goodM M h).h, (Pl.goodM M h).m⟩ else Pl.goodM M h) := rfl
  generalize Rw.headV M h = R at X ⊢
  generalize Pl.goodM M h = G at X HG a b c d e
  obtain ⟨kd, ww, hh, m⟩ := G
  simp only at a X
  unfold agH at HG ⊢
  clear b c d e
  by_cases h3 : kd < 4
  · have hR : Hid (R = ⟨kd + 3, ww, hh, m⟩) := by show _ = _; rw [X.out, if_pos h3]
    have h3d : decide (kd < 4) = true := decide_eq_true h3
    have e1 : wrap64 (kd + 3) = kd + 3 := by rw [IntWalk.wrap64_in] <;> omega
    clear X
    go_enter Try.func24, Try.ntmps24
    go_wp2_with fail
    refine (HG.out _).mono ?_
    rintro e w2 ⟨rfl, hb2⟩
    have hz := (Hb.new (w.alloc (.cells #[.int .i64 h.kd, .int .i64 h.w, .int .i64 h.h, .int .i64 h.m] 25)) 25 Hd.none).later hb2
    rw [World.size_alloc] at hz
    have HZ2 := Lib.hid hz
    have HBW := Lib.hid ((((Below.refl _ w).alloc (Nat.le_refl _) _).alloc (by simp) _).trans (hb2.mono (by simp; omega)))
    have hsz : w.heap.size + 1 < w2.heap.size := hz.lt
    clear hz hb2
    go_upto_region 2 with fail
    generalize hW : w2.alloc (.cells #[.int .i64 kd, .int .i64 ww, .int .i64 hh, .int .i64 m] 25) = w4
    have HN4 : Hid (Hb w4 w2.heap.size 25 ⟨kd, ww, hh, m⟩) := by show Hb _ _ _ _; rw [← hW]; exact Hb.new w2 25 ⟨kd, ww, hh, m⟩
    have HBx : Hid (Below w2.heap.size w2 w4) := by show Below _ _ _; rw [← hW]; exact box1' _ _
    have HZ4 := Lib.hid (HZ2.out.later HBx.out)
    obtain ⟨x0, x1, x2, x3⟩ := HN4.out.cells
    obtain ⟨f0, f1, f2, f3⟩ := HN4.out.fr
    simp only at x0 x1 x2 x3
    clear hW
    go_upto_region 4 with fail
    generalize hW : w4.setCell ⟨w2.heap.size, 0, none⟩ (.int .i64 (kd + 3)) = w5
    have HB5 : Hid (Below (w.heap.size + 2) w4 w5) := by show Below _ _ _; rw [← hW]; exact (Below.refl _ w4).setCell (p := ⟨w2.heap.size, 0, none⟩) (by show _ ≤ w2.heap.size; omega) _
    have HZ5 : Hid (Hb w5 (w.heap.size + 1) 25 Hd.none) := by show Hb _ _ _ _; exact (HB5.out.block _ (by omega)).trans HZ4.out
    have HN5 : Hid (Hb w5 w2.heap.size 25 ⟨kd + 3, ww, hh, m⟩) := by
      show Hb _ _ _ _
      rw [← hW]
      have h' : w4.heap[w2.heap.size]? = _ := HN4.out
      have := Go.heap_setCell_same w4 w2.heap.size 0 _ _ (.int .i64 (kd + 3)) h'
      simpa [Hb] using this
    obtain ⟨y0, y1, y2, y3⟩ := HN5.out.cells
    obtain ⟨z0, z1, z2, z3⟩ := HZ5.out.cells
    obtain ⟨g0, g1, g2, g3⟩ := HZ5.out.fr
    simp only at y0 y1 y2 y3
    clear hW x0 x1 x2 x3 f0 f1 f2 f3
    go_wp2
    refine bodyPost_ret (Hj.ret1 Try.results24 _ _ _ _ rfl (load_rh (HZ5.out.put ⟨kd + 3, ww, hh, m⟩))) rfl ?_
    refine ⟨by rw [hR.out]; rfl, ?_⟩
    have hb5 := (HBW.out.trans (HBx.out.mono HBW.out.size)).trans (HB5.out.mono (Nat.le_add_right _ _))
    exact (((hb5.setCell (Nat.le_succ _) _).setCell (Nat.le_succ _) _).setCell (Nat.le_succ _) _).setCell (Nat.le_succ _) _
  · have hR : Hid (R = ⟨kd, ww, hh, m⟩) := by show _ = _; rw [X.out, if_neg h3]
    have h3d : decide (kd < 4) = false := decide_eq_false h3
    clear X
    go_enter Try.func24, Try.ntmps24
    go_wp2_with fail
    refine (HG.out _).mono ?_
    rintro e w2 ⟨rfl, hb2⟩
    have hz := (Hb.new (w.alloc (.cells #[.int .i64 h.kd, .int .i64 h.w, .int .i64 h.h, .int .i64 h.m] 25)) 25 Hd.none).later hb2
    rw [World.size_alloc] at hz
    have HZ2 := Lib.hid hz
    have HBW := Lib.hid ((((Below.refl _ w).alloc (Nat.le_refl _) _).alloc (by simp) _).trans (hb2.mono (by simp; omega)))
    have hsz : w.heap.size + 1 < w2.heap.size := hz.lt
    clear hz hb2
    go_upto_region 2 with fail
    generalize hW : w2.alloc (.cells #[.int .i64 kd, .int .i64 ww, .int .i64 hh, .int .i64 m] 25) = w4
    have HN4 : Hid (Hb w4 w2.heap.size 25 ⟨kd, ww, hh, m⟩) := by show Hb _ _ _ _; rw [← hW]; exact Hb.new w2 25 ⟨kd, ww, hh, m⟩
    have HBx : Hid (Below w2.heap.size w2 w4) := by show Below _ _ _; rw [← hW]; exact box1' _ _
    have HZ4 := Lib.hid (HZ2.out.later HBx.out)
    obtain ⟨x0, x1, x2, x3⟩ := HN4.out.cells
    obtain ⟨z0, z1, z2, z3⟩ := HZ4.out.cells
    obtain ⟨g0, g1, g2, g3⟩ := HZ4.out.fr
    simp only at x0 x1 x2 x3
    clear hW
    go_wp2
    refine bodyPost_ret (Hj.ret1 Try.results24 _ _ _ _ rfl (load_rh (HZ4.out.put ⟨kd, ww, hh, m⟩))) rfl ?_
    refine ⟨by rw [hR.out]; rfl, ?_⟩
    have hb5 := HBW.out.trans (HBx.out.mono HBW.out.size)
    exact (((hb5.setCell (Nat.le_succ _) _).setCell (Nat.le_succ _) _).setCell (Nat.le_succ _) _).setCell (Nat.le_succ _) _
set_option maxHeartbeats 1000000 in
theorem refWide_any (h : Hd.H) (w : World) :
    Calls Try.prog 58 #[agH h] w fun e w' => e = .returned (.int .i64 (Rw.wide h : Int)) ∧ Below w.heap.size w w' := by
  rcases Rw.wide_at h with ⟨h1, h2⟩ | ⟨h1, h2⟩
  all_goals
    rw [h2]
    unfold agH
    clear h2
    go_enter Try.func58, Try.ntmps58
    go_wp2
    go_returns
    exact ⟨rfl, by go_grown⟩
end Go.Proofs.Ytflpocnbmpdhiaa

/- Rows of numbers in memory of a call's own: how one grows by one number, is made, is copied. General facts; no condition. -/
namespace Go.Proofs.Ytflpocnbmpdhiaa
open Go.RowKit
set_option linter.unusedVariables false
namespace Rw
theorem wpList_app1 {P : Program} {w : World} {ops : Array Oper} {rest : List Oper} {o : Oper} {a : Act} {Q : Exit → Act → World → Prop} (hgd : o.guard = none) (s x : Operand) (t : TypeId)
    (ho : o.op = .call { callee := .builtin .append, args := #[s, x], argTypes := #[t, t] })
    (base : Nat) (e : TypeId) (i : TypeInfo) (z : Value) (bytes : Nat) (ht : P.underlying t = some (.slice e)) (hi : P.info? e = some i) (hz : i.zero = some z) (hzc : z.cells.size = 1)
    (hsize : i.size = 1) (hby : i.bytes = bytes) (v : Value) (n : Nat) (xs : List Value) (hs : a.eval s = v) (hown : w.ownsRow base e 1 v n xs)
    (g : Nat) (y : Value) (hyc : y.oneCell' = true) (hx : a.eval x = .slice (some ⟨g, 0, none⟩) 1 1) (hy : w.cell? ⟨g, 0, none⟩ = some y) (h63 : n + 1 ≤ maxLen) (hbytes : (n + 1) * bytes ≤ 140737488355328) (hbase : base ≤ w.heap.size)
    (h : ∀ v' w', w'.ownsRow base e 1 v' (n + 1) (xs ++ [y]) → w.grownBy w' v.ownBlock → (v'.ownBlock = v.ownBlock ∨ v'.ownBlock = some w.heap.size) → wpList P ops Q rest (a.put o.dst v') w') : wpList P ops Q (o :: rest) a w := by
  refine wpList_plain hgd fun K hK => ?_
  obtain ⟨v', w', hr, h2, h3, _, h4⟩ := run_append_own_at (P := P) w base t o.type e i z 1 bytes ht hi hz hsize hby hzc (by decide) v n xs hown ⟨g, 0, none⟩ 1 1 [y] (by simp) (fun j u hu => by
      cases j with
      | zero => simp at hu; subst hu; simpa [Addr.add] using hy
      | succ j => simp at hu) (fun u hu => by rw [List.mem_singleton.1 hu]; exact hyc) h63 hbytes hbase
  unfold Oper.wp execOp
  simp only [ho, resolve, invoke, builtin, Sem.run_bind, Sem.run_pure, Result.andThen_ok, List.map_toArray, List.map_cons, List.map_nil, hs, hx, hr]
  exact hK _ _ (h v' w' h2 h3 h4)
/-- numbers in a block of the call's own -/
def OwnG (base : Nat) (w : World) (g : Nat) (L : List Int) : Prop := base ≤ g ∧ w.heap[g]? = some (.cells (L.map (Value.int .u64)).toArray 71 (0, 0))
theorem OwnG.lt {base g : Nat} {w : World} {L : List Int} (h : OwnG base w g L) : g < w.heap.size := (Array.getElem?_eq_some_iff.1 h.2).1
theorem OwnG.later {base g : Nat} {w w' : World} {L : List Int} (h : OwnG base w g L) (hb : Below w.heap.size w w') : OwnG base w' g L := ⟨h.1, (hb.block g h.lt).trans h.2⟩
theorem OwnG.mono {base base' g : Nat} {w : World} {L : List Int} (h : OwnG base w g L) (hb : base' ≤ base) : OwnG base' w g L := ⟨Nat.le_trans hb h.1, h.2⟩
theorem OwnG.cell {base g : Nat} {w : World} {L : List Int} (h : OwnG base w g L) {i : Nat} (hi : i < L.length) : w.cell? ⟨g, i, none⟩ = some (.int .u64 (L.getD i 0)) := by
  simp [World.cell?, h.2, List.getD_eq_getElem?_getD, List.getElem?_eq_getElem hi]
theorem OwnG.sl {base g : Nat} {w : World} {L : List Int} (h : OwnG base w g L) : SlK .u64 w (some ⟨g, 0, none⟩) L.length L := by
  refine ⟨rfl, .inr ⟨g, 0, rfl, fun i hi => ?_⟩⟩
  rw [Nat.zero_add]; exact h.cell hi
theorem OwnG.own {base g : Nat} {w : World} {L : List Int} (h : OwnG base w g L) : OwnK .u64 base w (some ⟨g, 0, none⟩) L :=
  .inr ⟨g, rfl, h.1, h.lt, fun i hi => h.cell hi, fun i => by simp [World.frozen?, h.2]⟩
theorem heapNew (w : World) (o : Obj) : (w.alloc o).heap[w.heap.size]? = some o := World.alloc_heap_new w o
theorem heapOld (w : World) (o : Obj) {g : Nat} {x : Obj} (h : w.heap[g]? = some x) : (w.alloc o).heap[g]? = some x := by
  rw [Below.heap_alloc w o g (Array.getElem?_eq_some_iff.1 h).1]; exact h
theorem heapSet (w : World) (a : Addr) (v : Value) {g : Nat} {x : Obj} (h : w.heap[g]? = some x) (hne : g ≠ a.block) : (w.setCell a v).heap[g]? = some x := by
  rw [Below.heap_setCell w a v g hne]; exact h
theorem made_noughts (n : Nat) : madeCells #[Value.int .u64 0] n = ((List.replicate n (0 : Int)).map (Value.int .u64)).toArray := by
  apply Array.ext
  · simp [madeCells]
  · intro i h1 h2
    simp [madeCells, Nat.mod_one]
theorem ownG_row {base g : Nat} {w : World} {L : List Int} (h : OwnG base w g L) (off : Nat) (cs : List Int) : OwnG base (w.setRow g (splice (L.map (Value.int .u64)) off (cs.map (Value.int .u64))).toArray) g (splice L off cs) := by
  refine ⟨h.1, ?_⟩
  rw [setRow_heap w g _ _ _ _ h.2]
  simp [splice]
theorem one_px (zs : List Int) : ∀ u ∈ zs.map (Value.int .u64), u.oneCell' = true := by
  intro u hu
  obtain ⟨y, _, rfl⟩ := List.mem_map.1 hu
  rfl
theorem slk_pos {q : IntKind} {w : World} {a : Option Addr} {n : Nat} {l : List Int} (h : SlK q w a n l) (hn : 0 < n) : ∃ g o, a = some ⟨g, o, none⟩ ∧ ∀ i, i < n → w.cell? ⟨g, o + i, none⟩ = some (.int q (l.getD i 0)) := by
  rcases h.2 with h2 | ⟨g, o, e, hc⟩
  · omega
  · exact ⟨g, o, e, hc⟩
theorem slk_src {w : World} {a : Option Addr} {n : Nat} {zs : List Int} (h : SlK .u64 w a n zs) (hn : 0 < n) : ∃ ad, a = some ad ∧ ∀ j v, (zs.map (Value.int .u64))[j]? = some v → w.cell? (ad.add j) = some v := by
  obtain ⟨b, off, rfl, hc⟩ := slk_pos h hn
  refine ⟨_, rfl, fun j v hv => ?_⟩
  rw [List.getElem?_map] at hv
  rcases Nat.lt_or_ge j zs.length with hj | hj
  · rw [List.getElem?_eq_getElem hj] at hv
    rw [addrK_add, hc j (by rw [← h.1]; exact hj), ← hv, List.getD_eq_getElem?_getD, List.getElem?_eq_getElem hj]; rfl
  · rw [List.getElem?_eq_none hj] at hv; cases hv
theorem wpList_copy_row {P : Program} {w : World} {ops : Array Oper} {rest : List Oper} {o : Oper} {a : Act} {Q : Exit → Act → World → Prop} (hgd : o.guard = none) (d s : Operand) (dT sT : TypeId)
    (ho : o.op = .call { callee := .builtin .copy, args := #[d, s], argTypes := #[dT, sT] }) (elem : TypeId) (hu : P.underlying dT = some (.slice elem)) (hsz : (P.info? elem).map (·.size) = some 1)
    (g off dLen dCap : Nat) (ad : Addr) (sLen sCap : Nat) (hd : a.eval d = .slice (some ⟨g, off, none⟩) dLen dCap) (hs : a.eval s = .slice (some ad) sLen sCap)
    (cur : List Value) (t : TypeId) (hg : w.heap[g]? = some (.cells cur.toArray t (0, 0))) (cs : List Value) (hn : cs.length = Nat.min sLen dLen)
    (hsrc : ∀ j v, cs[j]? = some v → w.cell? (ad.add j) = some v) (hfit : off + cs.length ≤ cur.length) (h1 : ∀ v ∈ cs, v.oneCell' = true)
    (h : ∀ v9, wpList P ops Q rest (a.put o.dst v9) (w.setRow g (splice cur off cs).toArray)) : wpList P ops Q (o :: rest) a w := by
  refine wpList_copy_own hgd d s dT sT ho elem hu hsz g off dLen dCap ad sLen sCap hd hs cur.toArray t hg cs hn hsrc (by simpa using hfit) h1 ?_
  have h' := h (goInt cs.length)
  unfold splice at h'
  exact h'
theorem slk_nil {w : World} : SlK .u64 w none ([] : List Int).length [] := ⟨rfl, .inl rfl⟩
theorem slk_row {w : World} {base k : Nat} {v : Value} {l : List Int} (hr : w.ownsRow base 71 1 v k (pixs l)) (hk : l.length = k) :
    ∃ a c, v = .slice a k c ∧ SlK .u64 w a k l := by
  rcases hr.2 with ⟨rfl, rfl⟩ | ⟨g, cap, cur, rfl, hb, hg, hle, hm, hs, ht⟩
  · exact ⟨none, 0, rfl, hk, .inl rfl⟩
  · exact ⟨_, cap, rfl, slk_of_row (c := cap) hr hk⟩
theorem size_px : (Try.prog.info? 71).map (·.size) = some 1 := by kernel_rfl
end Rw
end Go.Proofs.Ytflpocnbmpdhiaa

/- A reader of bytes in a block of its own, over any memory: what it is made of, and what its small parts do. Condition: its head may be. -/
namespace Go.Proofs.Ytflpocnbmpdhiaa
open Go.RowKit
set_option linter.unusedVariables false

/-- the eleven cells of a reader -/
def RwC (w : World) (b : Nat) (h : Hd.H) (n : Int) (sv rv : Value) (rows t f : Int) (x : Value) : Prop :=
  w.heap[b]? = some (.cells #[.int .i64 h.kd, .int .i64 h.w, .int .i64 h.h, .int .i64 h.m, .int .i64 n, sv, rv, .int .i64 rows, .int .i64 t, .int .i64 f, x] 100 (0, 0))
section
variable {w w' : World} {b : Nat} {h : Hd.H} {n : Int} {sv rv : Value} {rows t f : Int} {x : Value}
theorem RwC.lt (H : RwC w b h n sv rv rows t f x) : b < w.heap.size := (Array.getElem?_eq_some_iff.1 H).1
theorem RwC.later (H : RwC w b h n sv rv rows t f x) (hb : Below w.heap.size w w') : RwC w' b h n sv rv rows t f x := (hb.block b H.lt).trans H
theorem RwC.kept {row : Option Nat} (H : RwC w b h n sv rv rows t f x) (hg : w.grownBy w' row) (hne : some b ≠ row) : RwC w' b h n sv rv rows t f x := (hg.block b H.lt hne).trans H
theorem RwC.sep {Z : Nat → Prop} (H : RwC w b h n sv rv rows t f x) (hs : Sep Z w w') (hz : ¬ Z b) : RwC w' b h n sv rv rows t f x := (hs.block b H.lt hz).trans H
theorem RwC.drewN (H : RwC w b h n sv rv rows t f x) (k : Nat) : RwC (w.drewN k) b h n sv rv rows t f x := H
theorem RwC.drew (H : RwC w b h n sv rv rows t f x) : RwC w.drew b h n sv rv rows t f x := H
theorem RwC.alloc (H : RwC w b h n sv rv rows t f x) (o : Obj) : RwC (w.alloc o) b h n sv rv rows t f x := H.kept (World.grownBy_alloc w o none) (by simp)
theorem RwC.fr (H : RwC w b h n sv rv rows t f x) (o : Nat) : w.frozen? ⟨b, o, none⟩ = false := by have h' : w.heap[b]? = _ := H; simp [World.frozen?, h']
theorem RwC.c0 (H : RwC w b h n sv rv rows t f x) : w.cell? ⟨b, 0, none⟩ = some (.int .i64 h.kd) := by have h' : w.heap[b]? = _ := H; simp [World.cell?, h']
theorem RwC.c1 (H : RwC w b h n sv rv rows t f x) : w.cell? ⟨b, 1, none⟩ = some (.int .i64 h.w) := by have h' : w.heap[b]? = _ := H; simp [World.cell?, h']
theorem RwC.c2 (H : RwC w b h n sv rv rows t f x) : w.cell? ⟨b, 2, none⟩ = some (.int .i64 h.h) := by have h' : w.heap[b]? = _ := H; simp [World.cell?, h']
theorem RwC.c3 (H : RwC w b h n sv rv rows t f x) : w.cell? ⟨b, 3, none⟩ = some (.int .i64 h.m) := by have h' : w.heap[b]? = _ := H; simp [World.cell?, h']
theorem RwC.c4 (H : RwC w b h n sv rv rows t f x) : w.cell? ⟨b, 4, none⟩ = some (.int .i64 n) := by have h' : w.heap[b]? = _ := H; simp [World.cell?, h']
theorem RwC.c5 (H : RwC w b h n sv rv rows t f x) : w.cell? ⟨b, 5, none⟩ = some (sv) := by have h' : w.heap[b]? = _ := H; simp [World.cell?, h']
theorem RwC.c6 (H : RwC w b h n sv rv rows t f x) : w.cell? ⟨b, 6, none⟩ = some (rv) := by have h' : w.heap[b]? = _ := H; simp [World.cell?, h']
theorem RwC.c7 (H : RwC w b h n sv rv rows t f x) : w.cell? ⟨b, 7, none⟩ = some (.int .i64 rows) := by have h' : w.heap[b]? = _ := H; simp [World.cell?, h']
theorem RwC.c8 (H : RwC w b h n sv rv rows t f x) : w.cell? ⟨b, 8, none⟩ = some (.int .i64 t) := by have h' : w.heap[b]? = _ := H; simp [World.cell?, h']
theorem RwC.c9 (H : RwC w b h n sv rv rows t f x) : w.cell? ⟨b, 9, none⟩ = some (.int .i64 f) := by have h' : w.heap[b]? = _ := H; simp [World.cell?, h']
theorem RwC.c10 (H : RwC w b h n sv rv rows t f x) : w.cell? ⟨b, 10, none⟩ = some (x) := by have h' : w.heap[b]? = _ := H; simp [World.cell?, h']
theorem RwC.put4 (H : RwC w b h n sv rv rows t f x) (y : Int) : RwC (w.setCell ⟨b, 4, none⟩ (.int .i64 y)) b h y sv rv rows t f x := by
  have h' : w.heap[b]? = _ := H
  simpa [RwC] using Go.heap_setCell_same w b 4 _ _ (.int .i64 y) h'
theorem RwC.put5 (H : RwC w b h n sv rv rows t f x) (y : Value) : RwC (w.setCell ⟨b, 5, none⟩ y) b h n y rv rows t f x := by
  have h' : w.heap[b]? = _ := H
  simpa [RwC] using Go.heap_setCell_same w b 5 _ _ y h'
theorem RwC.put6 (H : RwC w b h n sv rv rows t f x) (y : Value) : RwC (w.setCell ⟨b, 6, none⟩ y) b h n sv y rows t f x := by
  have h' : w.heap[b]? = _ := H
  simpa [RwC] using Go.heap_setCell_same w b 6 _ _ y h'
theorem RwC.put7 (H : RwC w b h n sv rv rows t f x) (y : Int) : RwC (w.setCell ⟨b, 7, none⟩ (.int .i64 y)) b h n sv rv y t f x := by
  have h' : w.heap[b]? = _ := H
  simpa [RwC] using Go.heap_setCell_same w b 7 _ _ (.int .i64 y) h'
theorem RwC.put8 (H : RwC w b h n sv rv rows t f x) (y : Int) : RwC (w.setCell ⟨b, 8, none⟩ (.int .i64 y)) b h n sv rv rows y f x := by
  have h' : w.heap[b]? = _ := H
  simpa [RwC] using Go.heap_setCell_same w b 8 _ _ (.int .i64 y) h'
theorem RwC.put9 (H : RwC w b h n sv rv rows t f x) (y : Int) : RwC (w.setCell ⟨b, 9, none⟩ (.int .i64 y)) b h n sv rv rows t y x := by
  have h' : w.heap[b]? = _ := H
  simpa [RwC] using Go.heap_setCell_same w b 9 _ _ (.int .i64 y) h'
theorem RwC.put10 (H : RwC w b h n sv rv rows t f x) (y : Value) : RwC (w.setCell ⟨b, 10, none⟩ y) b h n sv rv rows t f y := by
  have h' : w.heap[b]? = _ := H
  simpa [RwC] using Go.heap_setCell_same w b 10 _ _ y h'
end
theorem raw_cells (w : World) (h : Hd.H) (sv rv : Value) (n rows t f : Int) (x : Value) : RwC (w.alloc (.cells #[.int .i64 h.kd, .int .i64 h.w, .int .i64 h.h, .int .i64 h.m, .int .i64 n, sv, rv, .int .i64 rows, .int .i64 t, .int .i64 f, x] 100)) w.heap.size h n sv rv rows t f x := World.alloc_heap_new w _
/-- a reader that is neither wrong nor told its fault: its block and its rows, and what is so of them against the world W in which it was sv, rv -/
structure RwT (W : World) (b : Nat) (h : Hd.H) (sv0 rv0 : Value) (n : Int) (sv rv : Value) (one row : List Int) (rows t : Int) (x : Value) (w : World) : Prop where
  c : RwC w b h n sv rv rows t 0 x
  s : w.ownsRow (b + 1) 3 1 sv one.length (ints one)
  r : w.ownsRow (b + 1) 71 1 rv row.length (pixs row)
  f : Sep (PlZ b sv0 rv0) W w
  ns : PlNew W sv0 sv
  nr : PlNew W rv0 rv
section
variable {W w : World} {b : Nat} {h : Hd.H} {sv0 rv0 : Value} {n : Int} {sv rv : Value} {one row : List Int} {rows t : Int} {x : Value}
theorem RwT.start (c : RwC w b h n sv rv rows t 0 x) (s : w.ownsRow (b + 1) 3 1 sv one.length (ints one)) (r : w.ownsRow (b + 1) 71 1 rv row.length (pixs row)) : RwT w b h sv rv n sv rv one row rows t x w :=
  ⟨c, s, r, .refl _ _, .inl rfl, .inl rfl⟩
theorem RwT.bls (T : RwT W b h sv0 rv0 n sv rv one row rows t x w) : ∀ k, sv.ownBlock = some k → b + 1 ≤ k := fun k hk => (T.s.lt k hk).1
theorem RwT.blr (T : RwT W b h sv0 rv0 n sv rv one row rows t x w) : ∀ k, rv.ownBlock = some k → b + 1 ≤ k := fun k hk => (T.r.lt k hk).1
theorem RwT.nes (T : RwT W b h sv0 rv0 n sv rv one row rows t x w) : some b ≠ sv.ownBlock := fun e => by have := T.bls b e.symm; omega
theorem RwT.ner (T : RwT W b h sv0 rv0 n sv rv one row rows t x w) : some b ≠ rv.ownBlock := fun e => by have := T.blr b e.symm; omega
theorem RwT.below (T : RwT W b h sv0 rv0 n sv rv one row rows t x w) {w' : World} (hb : Below w.heap.size w w') : RwT W b h sv0 rv0 n sv rv one row rows t x w' :=
  ⟨T.c.later hb, below_row T.s hb, below_row T.r hb, ⟨hb.os.trans T.f.os, hb.tape.trans T.f.tape, hb.output.trans T.f.output, Nat.le_trans T.f.size hb.size, fun k hk hz => (hb.block k (Nat.lt_of_lt_of_le hk T.f.size)).trans (T.f.block k hk hz)⟩, T.ns, T.nr⟩
theorem RwT.drew (T : RwT W b h sv0 rv0 n sv rv one row rows t x w) : RwT W b h sv0 rv0 n sv rv one row rows t x w.drew := ⟨T.c, T.s, T.r, T.f.trans (.drew _ _), T.ns, T.nr⟩
theorem RwT.set4 (T : RwT W b h sv0 rv0 n sv rv one row rows t x w) (y : Int) : RwT W b h sv0 rv0 y sv rv one row rows t x (w.setCell ⟨b, 4, none⟩ (.int .i64 y)) :=
  ⟨T.c.put4 y, set_ownsRow T.s (Nat.lt_succ_self b) _, set_ownsRow T.r (Nat.lt_succ_self b) _, T.f.trans (.setCell _ (.inl rfl) _), T.ns, T.nr⟩
theorem RwT.set7 (T : RwT W b h sv0 rv0 n sv rv one row rows t x w) (y : Int) : RwT W b h sv0 rv0 n sv rv one row y t x (w.setCell ⟨b, 7, none⟩ (.int .i64 y)) :=
  ⟨T.c.put7 y, set_ownsRow T.s (Nat.lt_succ_self b) _, set_ownsRow T.r (Nat.lt_succ_self b) _, T.f.trans (.setCell _ (.inl rfl) _), T.ns, T.nr⟩
theorem RwT.set8 (T : RwT W b h sv0 rv0 n sv rv one row rows t x w) (y : Int) : RwT W b h sv0 rv0 n sv rv one row rows y x (w.setCell ⟨b, 8, none⟩ (.int .i64 y)) :=
  ⟨T.c.put8 y, set_ownsRow T.s (Nat.lt_succ_self b) _, set_ownsRow T.r (Nat.lt_succ_self b) _, T.f.trans (.setCell _ (.inl rfl) _), T.ns, T.nr⟩
/-- the pixels' row is let go -/
theorem RwT.free (T : RwT W b h sv0 rv0 n sv rv one row rows t x w) : RwT W b h sv0 rv0 n sv (.slice none 0 0) one [] rows t x (w.setCell ⟨b, 6, none⟩ (.slice none 0 0)) :=
  ⟨T.c.put6 _, set_ownsRow T.s (Nat.lt_succ_self b) _, World.ownsRow_nil _ _ _ _, T.f.trans (.setCell _ (.inl rfl) _), T.ns, .inr fun k hk => by cases hk⟩
/-- the samples are let go, their memory is not -/
theorem RwT.clear {a : Option Addr} {m c : Nat} (T : RwT W b h sv0 rv0 n (.slice a m c) rv one row rows t x w) (hm : one.length = m) : RwT W b h sv0 rv0 n (.slice a 0 c) rv [] row rows t x (w.setCell ⟨b, 5, none⟩ (.slice a 0 c)) := by
  have hs := T.s
  rw [hm] at hs
  refine ⟨T.c.put5 _, set_ownsRow (ownsRow_zero hs) (Nat.lt_succ_self b) _, set_ownsRow T.r (Nat.lt_succ_self b) _, T.f.trans (.setCell _ (.inl rfl) _), ?_, T.nr⟩
  have e : (Value.slice a 0 c).ownBlock = (Value.slice a m c).ownBlock := by cases a <;> rfl
  unfold PlNew; rw [e]; exact T.ns
/-- a sample more -/
theorem RwT.pushS (T : RwT W b h sv0 rv0 n sv rv one row rows t x w) (hte : 3 ≠ 71) (o : Obj) (y : Int) {w5 : World} {g cc : Nat}
    (hown : w5.ownsRow (b + 1) 3 1 (.slice (some ⟨g, 0, none⟩) (one.length + 1) cc) (one.length + 1) (ints one ++ [.int .i64 y])) (hgrow : (w.alloc o).grownBy w5 sv.ownBlock) (hat : sv.ownBlock = some g ∨ g = (w.alloc o).heap.size) :
    RwC w5 b h n sv rv rows t 0 x ∧ RwT W b h sv0 rv0 n (.slice (some ⟨g, 0, none⟩) (one.length + 1) cc) rv (one ++ [y]) row rows t x (w5.setCell ⟨b, 5, none⟩ (.slice (some ⟨g, 0, none⟩) (one.length + 1) cc)) := by
  have c5 := (T.c.alloc o).kept hgrow T.nes
  have r5 := (T.r.alloc o).kept hgrow (apart_rows (Ne.symm hte) T.r T.s)
  refine ⟨c5, c5.put5 _, ?_, set_ownsRow r5 (Nat.lt_succ_self b) _, ⟨hgrow.os.trans T.f.os, hgrow.tape.trans T.f.tape, hgrow.output.trans T.f.output, ?_, ?_⟩, new_at T.ns hat (by have := T.f.size; simp; omega), T.nr⟩
  · have := set_ownsRow hown (a := ⟨b, 5, none⟩) (Nat.lt_succ_self b) (.slice (some ⟨g, 0, none⟩) (one.length + 1) cc)
    unfold ints at this ⊢
    rw [List.length_append, List.map_append]; exact this
  · have h1 := T.f.size; have h2 := hgrow.size; simp at h2 ⊢; omega
  · intro k hk hz
    have h1 := T.f.size
    rw [Below.heap_setCell _ _ _ _ (fun e => hz (.inl e)), hgrow.block k (by simp; omega) (fun e => hz (.inr (.inl (zone_of (b := b) (z := rv) T.ns e.symm hk))))]
    rw [Below.heap_alloc _ _ _ (by omega)]
    exact T.f.block k hk hz
/-- a pixel more -/
theorem RwT.pushR (T : RwT W b h sv0 rv0 n sv rv one row rows t x w) (hte : 3 ≠ 71) (o : Obj) (y : Int) {w5 : World} {g cc : Nat}
    (hown : w5.ownsRow (b + 1) 71 1 (.slice (some ⟨g, 0, none⟩) (row.length + 1) cc) (row.length + 1) (pixs row ++ [.int .u64 y])) (hgrow : (w.alloc o).grownBy w5 rv.ownBlock) (hat : rv.ownBlock = some g ∨ g = (w.alloc o).heap.size) :
    RwC w5 b h n sv rv rows t 0 x ∧ RwT W b h sv0 rv0 n sv (.slice (some ⟨g, 0, none⟩) (row.length + 1) cc) one (row ++ [y]) rows t x (w5.setCell ⟨b, 6, none⟩ (.slice (some ⟨g, 0, none⟩) (row.length + 1) cc)) := by
  have c5 := (T.c.alloc o).kept hgrow T.ner
  have s5 := (T.s.alloc o).kept hgrow (apart_rows hte T.s T.r)
  refine ⟨c5, c5.put6 _, set_ownsRow s5 (Nat.lt_succ_self b) _, ?_, ⟨hgrow.os.trans T.f.os, hgrow.tape.trans T.f.tape, hgrow.output.trans T.f.output, ?_, ?_⟩, T.ns, new_at T.nr hat (by have := T.f.size; simp; omega)⟩
  · have := set_ownsRow hown (a := ⟨b, 6, none⟩) (Nat.lt_succ_self b) (.slice (some ⟨g, 0, none⟩) (row.length + 1) cc)
    unfold pixs at this ⊢
    rw [List.length_append, List.map_append]; exact this
  · have h1 := T.f.size; have h2 := hgrow.size; simp at h2 ⊢; omega
  · intro k hk hz
    have h1 := T.f.size
    rw [Below.heap_setCell _ _ _ _ (fun e => hz (.inl e)), hgrow.block k (by simp; omega) (fun e => hz (.inr (.inr (zone_of (b := b) (z := rv) T.nr e.symm hk))))]
    rw [Below.heap_alloc _ _ _ (by omega)]
    exact T.f.block k hk hz
end

def rwE (b : Nat) : Value := .func (.func 55) #[.pointer (some ⟨b, 0, none⟩)] #[]
def rwH (b : Nat) : Value := .func (.func 56) #[.pointer (some ⟨b, 0, none⟩)] #[]
def rwL (b : Nat) : Value := .func (.func 57) #[.pointer (some ⟨b, 0, none⟩)] #[]
theorem enRE : ∀ args w, (callFunc 55 args).run Try.prog w = .ok (.enter 55 args) w := enters_of Try.func55 (by kernel_rfl) rfl
theorem enRH : ∀ args w, (callFunc 56 args).run Try.prog w = .ok (.enter 56 args) w := enters_of Try.func56 (by kernel_rfl) rfl
theorem enRL : ∀ args w, (callFunc 57 args).run Try.prog w = .ok (.enter 57 args) w := enters_of Try.func57 (by kernel_rfl) rfl
section
variable (w : World) (b : Nat) (h : Hd.H) (n : Int) (sv rv : Value) (rows t f : Int) (x : Value) (H : RwC w b h n sv rv rows t f x)
include H
theorem rwRows_any :
    Calls Try.prog 34 #[.pointer (some ⟨b, 0, none⟩)] w fun e w' => e = .returned (.int .i64 rows) ∧ w = w' := by
  have hc7 := H.c7
  go_enter Try.func34, Try.ntmps34
  go_wp2
  go_ret
  exact ⟨rfl, rfl⟩
theorem rwLeft_any :
    Calls Try.prog 35 #[.pointer (some ⟨b, 0, none⟩)] w fun e w' => e = .returned (.int .i64 t) ∧ w = w' := by
  have hc8 := H.c8
  go_enter Try.func35, Try.ntmps35
  go_wp2
  go_ret
  exact ⟨rfl, rfl⟩
theorem rwError_any :
    Calls Try.prog 36 #[.pointer (some ⟨b, 0, none⟩)] w fun e w' => e = .returned (.int .i64 f) ∧ w = w' := by
  have hc9 := H.c9
  go_enter Try.func36, Try.ntmps36
  go_wp2
  go_ret
  exact ⟨rfl, rfl⟩
set_option maxHeartbeats 1000000 in
theorem rwStatus_any :
    Calls Try.prog 60 #[.pointer (some ⟨b, 0, none⟩)] w fun e w' => e = .returned (.int .i64 (if f ≠ 0 then 2 else if t = 0 then 1 else 0)) ∧ w = w' := by
  have hc8 := H.c8
  have hc9 := H.c9
  by_cases hf : f = 0
  · have k1 : (f != 0) = false := by simpa using hf
    rw [if_neg (by simpa using hf)]
    by_cases ht : t = 0
    · have k2 : (t == 0) = true := by simpa using ht
      rw [if_pos ht]
      clear hf ht
      go_enter Try.func60, Try.ntmps60
      go_wp2
      go_returns
      exact ⟨rfl, rfl⟩
    · have k2 : (t == 0) = false := by simpa using ht
      rw [if_neg ht]
      clear hf ht
      go_enter Try.func60, Try.ntmps60
      go_wp2
      go_returns
      exact ⟨rfl, rfl⟩
  · have k1 : (f != 0) = true := by simpa using hf
    rw [if_pos hf]
    clear hf
    go_enter Try.func60, Try.ntmps60
    go_wp2
    go_returns
    exact ⟨rfl, rfl⟩
set_option maxHeartbeats 1000000 in
theorem rwHigh_any (c : Int) (c0 : 0 ≤ c) (c1 : c ≤ 255) :
    Calls Try.prog 56 #[.pointer (some ⟨b, 0, none⟩), .int .u8 c] w fun e w' => e = .returned (.slice none 0 0) ∧ RwC w' b h (c * 256) sv rv rows t f (rwL b) ∧ w.grownBy w' (some b) := by
  have f4 := H.fr 4
  have f10 := H.fr 10
  have c4 := H.c4
  have c10 := H.c10
  have e2 : wrap64 (c * 256) = c * 256 := by rw [IntWalk.wrap64_in] <;> omega
  go_enter Try.func56, Try.ntmps56
  go_wp2
  go_ret
  exact ⟨rfl, (H.put4 _).put10 _, (grown_set _ _ _ _).trans (grown_set _ _ _ _)⟩
end
end Go.Proofs.Ytflpocnbmpdhiaa

/- A reader of bytes adds a pixel to its row, and takes the row, over any memory. Condition: its head may be. -/
namespace Go.Proofs.Ytflpocnbmpdhiaa
open Go.RowKit
set_option linter.unusedVariables false

theorem Rw.own_pos {w : World} {base n : Nat} {e : TypeId} {v : Value} {xs : List Value} (h : w.ownsRow base e 1 v (n + 1) xs) : ∃ g c, v = .slice (some ⟨g, 0, none⟩) (n + 1) c := by
  rcases h.2 with ⟨_, he⟩ | ⟨g, cap, cur, rfl, _⟩
  · omega
  · exact ⟨g, cap, rfl⟩
section
variable {W w w' : World} {b : Nat} {h : Hd.H} {sv0 rv0 : Value} {n : Int} {sv rv : Value} {one row : List Int} {rows t : Int} {x : Value}
theorem RwT.clearR {a : Option Addr} {m c : Nat} (T : RwT W b h sv0 rv0 n sv (.slice a m c) one row rows t x w) (hm : row.length = m) : RwT W b h sv0 rv0 n sv (.slice a 0 c) one [] rows t x (w.setCell ⟨b, 6, none⟩ (.slice a 0 c)) := by
  have hs := T.r
  rw [hm] at hs
  refine ⟨T.c.put6 _, set_ownsRow T.s (Nat.lt_succ_self b) _, set_ownsRow (ownsRow_zero hs) (Nat.lt_succ_self b) _, T.f.trans (.setCell _ (.inl rfl) _), T.ns, ?_⟩
  have e : (Value.slice a 0 c).ownBlock = (Value.slice a m c).ownBlock := by cases a <;> rfl
  unfold PlNew; rw [e]; exact T.nr
theorem RwT.drewN (T : RwT W b h sv0 rv0 n sv rv one row rows t x w) (k : Nat) : RwT W b h sv0 rv0 n sv rv one row rows t x (w.drewN k) := ⟨T.c.drewN k, T.s, T.r, T.f.trans (.drewN _ _ _), T.ns, T.nr⟩
theorem RwT.set10 (T : RwT W b h sv0 rv0 n sv rv one row rows t x w) (y : Value) : RwT W b h sv0 rv0 n sv rv one row rows t y (w.setCell ⟨b, 10, none⟩ y) :=
  ⟨T.c.put10 y, set_ownsRow T.s (Nat.lt_succ_self b) _, set_ownsRow T.r (Nat.lt_succ_self b) _, T.f.trans (.setCell _ (.inl rfl) _), T.ns, T.nr⟩
/-- told against an earlier world -/
theorem RwT.base {W0 : World} (T : RwT W b h sv0 rv0 n sv rv one row rows t x w) (hs : Sep (PlZ b sv0 rv0) W0 W) : RwT W0 b h sv0 rv0 n sv rv one row rows t x w :=
  ⟨T.c, T.s, T.r, hs.trans T.f, T.ns.imp_right fun hk i hi => Nat.le_trans hs.size (hk i hi), T.nr.imp_right fun hk i hi => Nat.le_trans hs.size (hk i hi)⟩
end
/-- a row that is handed back, and what its blocks hold then -/
def RwTake (W : World) (b : Nat) (h : Hd.H) (sv0 rv0 : Value) (n : Int) (sv : Value) (one : List Int) (x : Value) (t : Int) (row : List Int) (rows : Int) (out : List Int) (e : Ending) (w' : World) : Prop :=
  ∃ a c rv, e = .returned (.slice a out.length c) ∧ RwT W b h sv0 rv0 n sv rv one row rows t x w' ∧ SlK .u64 w' a out.length out
set_option maxRecDepth 100000 in
set_option maxHeartbeats 2000000 in
theorem rwAdd_any {W w : World} {b : Nat} {h : Hd.H} {sv0 rv0 : Value} {n : Int} {sv rv : Value} {one row : List Int} {rows t : Int} {x : Value} (T : RwT W b h sv0 rv0 n sv rv one row rows t x w) (hr4 : row.length ≤ 4096) (a : Option Addr) (m c : Nat) (l : List Int) (hm : m ≤ 8) (hs : Pq.Sl w a m l) :
    Calls Try.prog 88 #[.pointer (some ⟨b, 0, none⟩), .slice a m c] w fun e w' => e = .returned (.tuple #[]) ∧ ∃ rv', RwT W b h sv0 rv0 n sv rv' one (row ++ [Rw.pk l]) rows t x w' := by
  obtain ⟨p0, pi, pz0, pz1, pz2⟩ : ∃ i, Try.prog.info? 71 = some i ∧ i.zero = some (.int .u64 0) ∧ i.size = 1 ∧ i.bytes = 8 := (by have h := Try.info_px8; cases hh : Try.prog.info? 71 with | none => rw [hh] at h; cases h | some i => rw [hh] at h; simp at h; exact ⟨i, rfl, h.1, h.2.1, h.2.2⟩)
  have hte : 3 ≠ 71 := by decide
  have HPK := Lib.hid (Pq.pack_any a m c l w (by omega) hs)
  obtain ⟨p, hp⟩ : ∃ p, Pq.Px.packV l = p := ⟨_, rfl⟩
  rw [hp] at HPK
  have HP : Hid (Rw.pk l = p.1) := Lib.hid (by unfold Rw.pk; rw [hp])
  have HT := Lib.hid T
  have hc6 := T.c.c6
  obtain ⟨k, hk⟩ : ∃ k, row.length = k := ⟨_, rfl⟩
  have HK := Lib.hid hk
  have HR : Hid (w.ownsRow (b + 1) 71 1 rv k (pixs row)) := by show w.ownsRow _ _ _ _ _ _; have := T.r; rw [hk] at this; exact this
  have hbw : b + 1 ≤ w.heap.size := T.c.lt
  have hk3 : k ≤ 4096 := by omega
  have hblt : b < w.heap.size := hbw
  have hbne : ¬ b = w.heap.size := Nat.ne_of_lt hblt
  clear hs hp hk hr4 T
  go_enter Try.func88, Try.ntmps88
  go_wp2_with (first | (go_at_call 109; refine HPK.out.mono ?_; rintro e w9 ⟨rfl, rfl⟩) | (at_builtin; refine Rw.wpList_app1 rfl _ _ 52 rfl (b + 1) 71 p0 (.int .u64 0) 8 Try.underlying52 pi pz0 rfl pz1 pz2 rv k (pixs row) rfl (HR.out.alloc _) w.heap.size (.int .u64 p.1) rfl rfl (by rw [World.cell?_alloc_at _ _ _ _ rfl]; rfl) (by unfold maxLen; omega) (by omega) (by simp; omega) ?_; intro v5 w5 hown hgrow hat; obtain ⟨g, cc, rfl⟩ := Rw.own_pos hown; obtain ⟨q1, q2⟩ := HT.out.pushR hte _ p.1 (by have h := hown; rw [HK.out]; exact h) hgrow (by rcases hat with e | e; exact .inl e.symm; exact .inr (by injection e)); have hd6 := q1.c6; have hf6 := q1.fr 6; have Q2 := Lib.hid q2; clear q1 q2 hown hgrow hat))
  go_end0
  refine ⟨rfl, .slice (some ⟨g, 0, none⟩) (k + 1) cc, ?_⟩
  have h := Q2.out
  rw [← HP.out, HK.out] at h
  exact h
set_option maxRecDepth 100000 in
set_option maxHeartbeats 2000000 in
theorem rwTake_no {W w : World} {b : Nat} {h : Hd.H} {sv0 rv0 : Value} {n : Int} {sv rv : Value} {one row : List Int} {rows t : Int} {x : Value} (T : RwT W b h sv0 rv0 n sv rv one row rows t x w) (hw : (row.length : Int) < h.w) :
    Calls Try.prog 89 #[.pointer (some ⟨b, 0, none⟩)] w (RwTake W b h sv0 rv0 n sv one x t row rows []) := by
  have HT := Lib.hid T
  have hc1 := T.c.c1
  obtain ⟨k, hk⟩ : ∃ k, row.length = k := ⟨_, rfl⟩
  rw [hk] at hw
  obtain ⟨a, c, rfl, _⟩ := Rw.slk_row T.r rfl
  have hc6 := T.c.c6
  rw [hk] at hc6 HT
  clear T hk
  go_enter Try.func89, Try.ntmps89
  go_wp2_with (go_quiet (fail))
  go_returns
  exact ⟨none, 0, _, rfl, HT.out.drewN _, Rw.slk_nil⟩
set_option maxRecDepth 100000 in
set_option maxHeartbeats 4000000 in
theorem rwTake_yes {W w : World} {b : Nat} {h : Hd.H} {sv0 rv0 : Value} {n : Int} {sv rv : Value} {one row : List Int} {rows t : Int} {x : Value} (T : RwT W b h sv0 rv0 n sv rv one row rows t x w) (hw : ¬ (row.length : Int) < h.w) (hw1 : 1 ≤ h.w) (hr4 : row.length ≤ 4096) (rows0 : 0 ≤ rows) (rows1 : rows ≤ 65536) :
    Calls Try.prog 89 #[.pointer (some ⟨b, 0, none⟩)] w (RwTake W b h sv0 rv0 n sv one x t [] (rows + 1) row) := by
  have HT := Lib.hid T
  have hc1 := T.c.c1
  obtain ⟨k, hk⟩ : ∃ k, row.length = k := ⟨_, rfl⟩
  rw [hk] at hw
  obtain ⟨a, c, rfl, hsl⟩ := Rw.slk_row T.r rfl
  obtain ⟨ad, rfl, hsrc⟩ := Rw.slk_src hsl (by omega)
  have hc6 := T.c.c6
  have hbw : b < w.heap.size := T.c.lt
  have hbne : ¬ b = w.heap.size := Nat.ne_of_lt hbw
  have hmk := run_make_row' (P := Try.prog) 52 71 (.int .u64 0) 8 Try.underlying52 Try.info_px8 rfl .i64 .i64 k (by omega) (by omega)
  rw [Rw.made_noughts] at hmk
  obtain ⟨cs, hcs⟩ : ∃ cs, ((List.replicate k (0 : Int)).map (Value.int .u64)).toArray = cs := ⟨_, rfl⟩
  rw [hcs] at hmk
  have HCS := Lib.hid hcs
  have m6 := cell_later (box1' w (.cells cs 71)) hc6
  rw [hk] at hc6 HT m6
  have HK := Lib.hid hk
  have HSRC := Lib.hid hsrc
  have e9 : wrap64 (rows + 1) = rows + 1 := by rw [IntWalk.wrap64_in] <;> omega
  have hk4 : k ≤ 4096 := by omega
  clear T hk hcs hsl hsrc hr4 rows0 rows1
  go_enter Try.func89, Try.ntmps89
  go_upto_region 3 with (go_quiet (fail))
  generalize hW : w.drewN nq = w1
  have HT1 : Hid (RwT W b h sv0 rv0 n sv (.slice (some ad) k c) one row rows t x w1) := by show RwT _ _ _ _ _ _ _ _ _ _ _ _ _ _; rw [← hW]; exact HT.out.drewN _
  have HSRC1 : Hid (∀ j v, (row.map (Value.int .u64))[j]? = some v → w1.cell? (ad.add j) = some v) := Lib.hid (by rw [← hW]; exact HSRC.out)
  clear hW HT HSRC hc6 hc1 m6
  have T1 := HT1.out
  have hbw : b < w1.heap.size := T1.c.lt
  have hbne : ¬ b = w1.heap.size := Nat.ne_of_lt hbw
  have B1 := box1' w1 (.cells cs 71)
  have hc6 := T1.c.c6
  have m6 := cell_later B1 hc6
  have HO : Hid (Rw.OwnG w1.heap.size (w1.alloc (.cells cs 71)) w1.heap.size (List.replicate k 0)) := Lib.hid ⟨Nat.le_refl _, by rw [HCS.out]; exact World.alloc_heap_new _ _⟩
  have HTB := Lib.hid (T1.below B1)
  have HB1 := Lib.hid B1
  have HKM : Hid ((row.map (Value.int .u64)).length = k) := Lib.hid (by rw [List.length_map]; exact HK.out)
  clear T1 B1
  go_upto_region 5 with ((with_reducible show wpList _ _ _ ({ dst := _, op := .call { callee := .builtin .copy, args := _, argTypes := _ }, type := _, pos := _, after := _, guard := _ } :: _) _ _); refine Rw.wpList_copy_row rfl (.tmp 21) (.tmp 25) 52 52 rfl 71 Try.underlying52 Rw.size_px w1.heap.size 0 k k ad k c rfl rfl _ _ HO.out.2 (row.map (Value.int .u64)) (by rw [HKM.out]; simp) (fun j v hv => cell_later HB1.out (HSRC1.out j v hv)) (by rw [HKM.out, List.length_map, List.length_replicate]; omega) (Rw.one_px _) ?_; intro v9)
  generalize hW : (w1.alloc (.cells cs 71)).setRow w1.heap.size (splice ((List.replicate k (0 : Int)).map (Value.int .u64)) 0 (row.map (Value.int .u64))).toArray = w2
  have HB2 : Hid (Below w1.heap.size w1 w2) := by show Below _ _ _; rw [← hW]; exact below_setRow HB1.out (Nat.le_refl _) _
  have HO2 : Hid (Rw.OwnG w1.heap.size w2 w1.heap.size row) := by
    show Rw.OwnG _ _ _ _
    have h := Rw.ownG_row HO.out 0 row
    rw [hW] at h
    have e : splice (List.replicate k (0 : Int)) 0 row = row := by unfold splice; have h9 := HK.out; simp [h9]
    rw [e] at h; exact h
  clear hW HO HTB HSRC1 HB1 m6 hc6 hmk
  have HT2 := Lib.hid (HT1.out.below HB2.out)
  have g6 := HT2.out.c.c6
  have g7 := HT2.out.c.c7
  have f6 := HT2.out.c.fr 6
  have f7 := HT2.out.c.fr 7
  have hb2 : ¬ w1.heap.size = b := fun e => hbne e.symm
  go_wp2_with fail
  go_returns
  refine ⟨some ⟨w1.heap.size, 0, none⟩, k, _, by rw [HK.out]; rfl, (HT2.out.clearR HK.out).set7 _, ?_⟩
  have h := HO2.out.2
  exact Rw.OwnG.sl (base := 0) ⟨Nat.zero_le _, Rw.heapSet _ _ _ (Rw.heapSet _ _ _ h hb2) hb2⟩
end Go.Proofs.Ytflpocnbmpdhiaa

/- A new reader of bytes, and how many bytes a row has, over any memory. Condition: a head's numbers fit. -/
namespace Go.Proofs.Ytflpocnbmpdhiaa
open Go.RowKit
set_option linter.unusedVariables false

theorem Rw.quot {h : Hd.H} (H : Rw.May h) : Int.tdiv (Hj.size h) h.h = (Rw.stride h : Int) := by
  have hm := H.m
  rw [Rw.size_eq H, Int.mul_tdiv_cancel_left _ (by omega)]
set_option maxRecDepth 100000 in
set_option maxHeartbeats 4000000 in
theorem rwStride_yes (h : Hd.H) (hf : Hj.Fit h) (hm : Rw.May h) (w : World) :
    Calls Try.prog 37 #[agH h] w fun e w' => e = .returned (.int .i64 (Rw.stride h : Int)) ∧ Below w.heap.size w w' := by
  have HM := Lib.hid (rwMay_any h hf)
  simp only [decide_eq_true hm] at HM
  have HS := Lib.hid (hsize_any h hm.1)
  have X := Lib.hid (Rw.quot hm)
  have hst := (Rw.stride_at hm).2.1
  have hmm := hm.m
  generalize Hj.size h = sz at HS X
  unfold agH at HM HS ⊢
  have hh0 : h.h ≠ 0 := by omega
  clear hm hf
  go_enter Try.func37, Try.ntmps37
  go_upto_region 3 with (go_at_call 54; refine (HM.out _).mono ?_; rintro e w9 ⟨rfl, hb9⟩; have hBz := Lib.hid (((Below.refl _ w).alloc (Nat.le_refl _) _).trans (hb9.mono (by simp))); have HN := Lib.hid ((Hb.new w 36 h).later hb9); clear hb9)
  obtain ⟨n0, n1, n2, n3⟩ := HN.out.cells
  have hBr : Below w9.heap.size w9 w9 := .refl _ _
  go_cut [2] from 6 to 10 (fun s2 wx => s2 = .int .i64 (IntKind.i64.wrap (sz.tdiv h.h)) ∧ Below w9.heap.size w9 wx)
  case first =>
    go_region_held3 (fun w' => w'.cell? ⟨w.heap.size, 0, none⟩ = some (.int .i64 h.kd) ∧ w'.cell? ⟨w.heap.size, 1, none⟩ = some (.int .i64 h.w) ∧ w'.cell? ⟨w.heap.size, 2, none⟩ = some (.int .i64 h.h) ∧ w'.cell? ⟨w.heap.size, 3, none⟩ = some (.int .i64 h.m))
      (first | exact ⟨n0, n1, n2, n3⟩ | exact ⟨cell_later hBr n0, cell_later hBr n1, cell_later hBr n2, cell_later hBr n3⟩)
      (first | (go_at_call 47; refine (HS.out _).mono ?_; rintro e w8 ⟨rfl, hb8⟩; replace hBr := bel_step (w := w9) (by first | exact hBr | exact hBr.drew) hb8))
    all_goals
      go_wp2_with fail
      go_meet
      case rel => exact ⟨by rfl, hBr⟩
  case rest =>
    obtain ⟨rfl, hBx⟩ := hcut
    go_wp2
    go_ret
    exact ⟨by rw [X.out, IntWalk.i64_in _ (by omega)]; rfl, hBz.out.trans (hBx.mono hBz.out.size)⟩
end Go.Proofs.Ytflpocnbmpdhiaa

/- Plain facts on rasters of bytes: what a byte more makes of a row. No condition. -/
namespace Go.Proofs.Ytflpocnbmpdhiaa
open Go.RowKit
set_option linter.unusedVariables false
namespace Rw
def rest (h : Hd.H) (r : List Int) : List Int := (parts (wide h) r).2
theorem rest_nil (h : Hd.H) : rest h [] = [] := rfl
theorem row4 {h : Hd.H} (H : May h) (h4 : h.kd = 4) {r : List Int} (hr : r.length < stride h) (c : Int) {v : Nat} (hv : min 8 (h.w - ((rowV h r).length : Int)) = (v : Int)) : rowV h (r ++ [c]) = rowV h r ++ ((Bt.eight c).take v).map (fun x => pk [x]) := by
  have hs := stride_at H
  have hm := H.m
  have h5 := hs.2.2.1 h4
  have e : (rowV h r).length = min h.w.toNat (8 * r.length) := by unfold rowV; rw [if_pos h4, List.length_map, List.length_take, Bt.bitsOf_len]
  have e8 : (rowV h r).length = 8 * r.length := by rw [e]; omega
  rw [e8] at hv
  unfold rowV
  rw [if_pos h4, if_pos h4, Bt.bitsOf_append, ← List.map_append]
  congr 1
  rw [List.take_append, Bt.bitsOf_len]
  congr 1
  show List.take _ (Bt.eight c ++ []) = _
  rw [List.append_nil]
  by_cases h8 : 8 ≤ h.w.toNat - 8 * r.length
  · rw [List.take_of_length_le (by rw [Bt.eight_len]; exact h8), List.take_of_length_le (by rw [Bt.eight_len]; omega)]
  · congr 1; omega
theorem row_wait {h : Hd.H} (h4 : h.kd ≠ 4) {r : List Int} {c : Int} (hf : ¬ (rest h r).length + 1 = wide h) : rowV h (r ++ [c]) = rowV h r ∧ oneV h (r ++ [c]) = oneV h r ∧ rest h (r ++ [c]) = rest h r ++ [c] := by
  unfold rowV oneV
  rw [if_neg h4, if_neg h4, if_neg h4, if_neg h4, smp_wait hf]
  refine ⟨rfl, rfl, ?_⟩
  unfold rest; rw [parts_wait hf]
theorem row_more {h : Hd.H} (h4 : h.kd ≠ 4) {r : List Int} {c : Int} (hf : (rest h r).length + 1 = wide h) (ho : ¬ (oneV h r).length + 1 = chan h) : rowV h (r ++ [c]) = rowV h r ∧ oneV h (r ++ [c]) = oneV h r ++ [val (rest h r ++ [c])] ∧ rest h (r ++ [c]) = [] := by
  unfold oneV at ho
  rw [if_neg h4] at ho
  unfold rowV oneV pxs
  rw [if_neg h4, if_neg h4, if_neg h4, if_neg h4, smp_more hf, parts_wait ho]
  refine ⟨rfl, rfl, ?_⟩
  unfold rest; rw [parts_full hf]
theorem row_pix {h : Hd.H} (h4 : h.kd ≠ 4) {r : List Int} {c : Int} (hf : (rest h r).length + 1 = wide h) (ho : (oneV h r).length + 1 = chan h) : rowV h (r ++ [c]) = rowV h r ++ [pk (oneV h r ++ [val (rest h r ++ [c])])] ∧ oneV h (r ++ [c]) = [] ∧ rest h (r ++ [c]) = [] := by
  unfold oneV at ho
  rw [if_neg h4] at ho
  unfold rowV oneV pxs
  rw [if_neg h4, if_neg h4, if_neg h4, if_neg h4, smp_more hf, parts_full ho]
  refine ⟨?_, rfl, ?_⟩
  · rw [List.map_append]; rfl
  · unfold rest; rw [parts_full hf]
/-- a whole row leaves nothing -/
theorem row_end {h : Hd.H} (H : May h) {r : List Int} (hr : r.length = stride h) : oneV h r = [] ∧ (h.kd ≠ 4 → rest h r = []) := by
  have hm := H.m
  have hs := stride_at H
  by_cases h4 : h.kd = 4
  · exact ⟨by unfold oneV; rw [if_pos h4], fun h => absurd h4 h⟩
  · have h5 := hs.2.2.2 h4
    have a1 := smp_len h r
    have a2 := (parts_at (wide_pos h) r).1
    have a3 := pxs_len h (smp h r)
    have a4 := (parts_at (chan_pos h) (smp h r)).1
    have e1 : (parts (wide h) r).2.length = 0 := by rcases chan_at h with ⟨_, hc⟩ | ⟨_, hc⟩ <;> rcases wide_at h with ⟨_, hw⟩ | ⟨_, hw⟩ <;> simp only [hc, hw] at a1 a2 a3 a4 h5 ⊢ <;> omega
    have e2 : (parts (chan h) (smp h r)).2.length = 0 := by rcases chan_at h with ⟨_, hc⟩ | ⟨_, hc⟩ <;> rcases wide_at h with ⟨_, hw⟩ | ⟨_, hw⟩ <;> simp only [hc, hw] at a1 a2 a3 a4 h5 ⊢ <;> omega
    exact ⟨by unfold oneV; rw [if_neg h4]; exact List.eq_nil_of_length_eq_zero e2, fun _ => List.eq_nil_of_length_eq_zero e1⟩
theorem rowV_nil (h : Hd.H) : rowV h [] = [] := by
  unfold rowV
  split
  · simp [Bt.bitsOf]
  · rfl
theorem oneV_nil (h : Hd.H) : oneV h [] = [] := by unfold oneV; split <;> rfl
end Rw
end Go.Proofs.Ytflpocnbmpdhiaa

/- How many bytes a row has, over any memory, of bits and of the document's own answer. Condition: numbers fit their kinds. -/
namespace Go.Proofs.Ytflpocnbmpdhiaa
open Go.RowKit
set_option linter.unusedVariables false
namespace Bt
theorem ret_i {k : IntKind} {a b : Int} (h : a = b) : Ending.returned (.int k a) = .returned (.int k b) := by rw [h]
theorem bytes_any (n : Int) (w : World) : Calls Try.prog 115 #[.int .i64 n] w fun e w' => e = .returned (.int .i64 (bytesV n)) ∧ w = w' := by
  by_cases h1 : n < 1
  · have X := Lib.hid (show 0 = bytesV n by unfold bytesV; rw [if_pos (.inl h1)])
    go_enter Try.func115, Try.ntmps115
    go_wp2
    go_ret
    exact ⟨ret_i X.out, rfl⟩
  · by_cases h2 : 4096 < n
    · have X := Lib.hid (show 0 = bytesV n by unfold bytesV; rw [if_pos (.inr h2)])
      go_enter Try.func115, Try.ntmps115
      go_wp2
      go_ret
      exact ⟨ret_i X.out, rfl⟩
    · have X := Lib.hid (show (n + 8 - 1) / 8 = bytesV n by unfold bytesV; rw [if_neg (by omega)]; omega)
      have h3 : 1 ≤ n := by omega
      have h4 : n ≤ 4096 := by omega
      go_enter Try.func115, Try.ntmps115
      go_wp2
      go_ret
      exact ⟨ret_i X.out, rfl⟩
theorem refBytes_any (n : Int) (w : World) : Calls Try.prog 90 #[.int .i64 n] w fun e w' => e = .returned (.int .i64 (bytesV n)) ∧ w = w' := by
  by_cases h1 : n < 1
  · have X := Lib.hid (show 0 = bytesV n by unfold bytesV; rw [if_pos (.inl h1)])
    go_enter Try.func90, Try.ntmps90
    go_wp2
    go_ret
    exact ⟨ret_i X.out, rfl⟩
  · by_cases h2 : 4096 < n
    · have X := Lib.hid (show 0 = bytesV n by unfold bytesV; rw [if_pos (.inr h2)])
      go_enter Try.func90, Try.ntmps90
      go_wp2
      go_ret
      exact ⟨ret_i X.out, rfl⟩
    · have h3 : 1 ≤ n := by omega
      have h4 : n ≤ 4096 := by omega
      by_cases h5 : 0 < n % 8
      · have X := Lib.hid (show n / 8 + 1 = bytesV n by unfold bytesV; rw [if_neg (by omega)]; omega)
        go_enter Try.func90, Try.ntmps90
        go_wp2
        go_ret
        exact ⟨ret_i X.out, rfl⟩
      · have X := Lib.hid (show n / 8 = bytesV n by unfold bytesV; rw [if_neg (by omega)]; omega)
        go_enter Try.func90, Try.ntmps90
        go_wp2
        go_ret
        exact ⟨ret_i X.out, rfl⟩
end Bt
end Go.Proofs.Ytflpocnbmpdhiaa

/- A byte's bits, over any memory. Condition: the byte fits its kind. -/
namespace Go.Proofs.Ytflpocnbmpdhiaa
open Go.RowKit
set_option linter.unusedVariables false
namespace Bt
theorem and1 (d : Int) (h : 0 ≤ d) (h2 : d ≤ 255) : Go.bits BinOp.and IntKind.u8 d 1 = d % 2 := by
  obtain ⟨n, rfl⟩ : ∃ n : Nat, d = n := ⟨d.toNat, by omega⟩
  have := u8_and_nat n 1 (by omega) (by omega)
  rw [show ((1 : Nat) : Int) = 1 from rfl] at this
  rw [this, Nat.and_one_is_mod]
  omega
set_option maxRecDepth 100000 in
theorem split_any (c : Int) (h0 : 0 ≤ c) (h1 : c ≤ 255) (w : World) : Calls Try.prog 130 #[.int .u8 c] w fun e w' => e = .returned (.agg #[.int .i64 (c / 128 % 2), .int .i64 (c / 64 % 2), .int .i64 (c / 32 % 2), .int .i64 (c / 16 % 2), .int .i64 (c / 8 % 2), .int .i64 (c / 4 % 2), .int .i64 (c / 2 % 2), .int .i64 (c % 2)]) ∧ Below w.heap.size w w' := by
  have N : ∀ d, 0 ≤ d → d ≤ 255 → ∃ x, Go.bits BinOp.and IntKind.u8 d 1 = x ∧ 0 ≤ x ∧ x ≤ 1 ∧ Hid (d % 2 = x) := fun d h k => ⟨d % 2, and1 d h k, by omega, by omega, Lib.hid rfl⟩
  obtain ⟨x0, e0, p0, q0, H0⟩ := N c (by omega) (by omega)
  obtain ⟨x1, e1, p1, q1, H1⟩ := N (c / 2) (by omega) (by omega)
  obtain ⟨x2, e2, p2, q2, H2⟩ := N (c / 4) (by omega) (by omega)
  obtain ⟨x3, e3, p3, q3, H3⟩ := N (c / 8) (by omega) (by omega)
  obtain ⟨x4, e4, p4, q4, H4⟩ := N (c / 16) (by omega) (by omega)
  obtain ⟨x5, e5, p5, q5, H5⟩ := N (c / 32) (by omega) (by omega)
  obtain ⟨x6, e6, p6, q6, H6⟩ := N (c / 64) (by omega) (by omega)
  obtain ⟨x7, e7, p7, q7, H7⟩ := N (c / 128) (by omega) (by omega)
  rw [H0.out, H1.out, H2.out, H3.out, H4.out, H5.out, H6.out, H7.out]
  clear N
  go_enter Try.func130, Try.ntmps130
  go_wp2
  go_rounds 9
  exact bodyPost_ret (v := .agg #[.int .i64 x7, .int .i64 x6, .int .i64 x5, .int .i64 x4, .int .i64 x3, .int .i64 x2, .int .i64 x1, .int .i64 x0]) (by simp [results, Try.results130, go_sem]) rfl ⟨rfl, by go_grown⟩
end Bt
end Go.Proofs.Ytflpocnbmpdhiaa

/- All pixels of a raster of digits, as a plain function; a reader beside a list that grows. No condition. -/
namespace Go.Proofs.Ytflpocnbmpdhiaa
open Go.RowKit
set_option linter.unusedVariables false
namespace Pl
/-- told the rest of a text, i bytes in -/
def readF : S → Nat → List Int → List Int → List Int × Int × Int
  | s, i, acc, [] => if (fin s).1.last = 2 then ([], 0, (fin s).1.e) else (acc ++ (fin s).2, (i : Int), 0)
  | s, i, acc, c :: cs =>
    if (put s c).1.last = 1 then (acc ++ (put s c).2, (i : Int) + 1, 0)
    else if (put s c).1.last = 2 then ([], 0, (put s c).1.e)
    else readF (put s c).1 (i + 1) (acc ++ (put s c).2) cs
def readV (h : Hd.H) (x : List Int) : List Int × Int × Int := if May h then readF (new h) 0 [] x else ([], 0, 1)
theorem readF_over {s : S} {q : S × List Int} {i : Nat} {acc : List Int} {c : Int} {cs : List Int} (hq : put s c = q) (h : q.1.last = 1) : readF s i acc (c :: cs) = (acc ++ q.2, (i : Int) + 1, 0) := by rw [readF, hq, if_pos h]
theorem readF_wrong {s : S} {q : S × List Int} {i : Nat} {acc : List Int} {c : Int} {cs : List Int} (hq : put s c = q) (h : q.1.last = 2) : readF s i acc (c :: cs) = ([], 0, q.1.e) := by rw [readF, hq, if_neg (by omega), if_pos h]
theorem readF_more {s : S} {q : S × List Int} {i : Nat} {acc : List Int} {c : Int} {cs : List Int} (hq : put s c = q) (h : q.1.last = 0) : readF s i acc (c :: cs) = readF q.1 (i + 1) (acc ++ q.2) cs := by rw [readF, hq, if_neg (by omega), if_neg (by omega)]
theorem readF_nil {s : S} {q : S × List Int} {i : Nat} {acc : List Int} (hq : fin s = q) : readF s i acc [] = if q.1.last = 2 then ([], 0, q.1.e) else (acc ++ q.2, (i : Int), 0) := by rw [readF, hq]
theorem sample_grow (s : S) (n : Int) : (sample s n).2.length + (sample s n).1.row.length ≤ s.row.length + 1 := by
  unfold sample
  split
  · simp [more]
  · split <;> simp [pixel, line]
theorem put_grow (s : S) (c : Int) : (put s c).2.length + (put s c).1.row.length ≤ s.row.length + 1 := by
  unfold put
  split
  · simp
  split
  · split
    · exact sample_grow s _
    · simp
  split
  · split
    · exact sample_grow s _
    · simp [wrong]
  split
  · simp [digit]
  · simp [wrong]
theorem fin_grow (s : S) : (fin s).2.length ≤ s.row.length + 1 := by
  have := put_grow s 32
  unfold fin
  split
  · show (put s 32).2.length ≤ _; omega
  · omega
theorem fin_last {s : S} (hG : Good s) : (fin s).1.last = 1 ∨ (fin s).1.last = 2 := by
  have hg := (good_put hG 32).last
  unfold fin
  split
  · exact .inr rfl
  · omega
end Pl
/-- a list's memory is not the reader's -/
def Ap (v : Value) (b : Nat) (sv rv : Value) : Prop := ∀ k, v.ownBlock = some k → ¬ PlZ b sv rv k
theorem ap_nil (b : Nat) (sv rv : Value) : Ap (.slice none 0 0) b sv rv := fun k hk => by cases hk
theorem Ap.ne {v : Value} {b : Nat} {sv rv : Value} (h : Ap v b sv rv) : some b ≠ v.ownBlock := fun e => h b e.symm (.inl rfl)
theorem Ap.s {v : Value} {b : Nat} {sv rv : Value} (h : Ap v b sv rv) : sv.ownBlock = none ∨ sv.ownBlock ≠ v.ownBlock := by
  cases hv : sv.ownBlock with
  | none => exact .inl rfl
  | some k => right; intro e; exact h k e.symm (.inr (.inl hv))
theorem Ap.r {v : Value} {b : Nat} {sv rv : Value} (h : Ap v b sv rv) : rv.ownBlock = none ∨ rv.ownBlock ≠ v.ownBlock := by
  cases hv : rv.ownBlock with
  | none => exact .inl rfl
  | some k => right; intro e; exact h k e.symm (.inr (.inr hv))
theorem row_sep {w w2 : World} {b : Nat} {sv rv v : Value} {base k : Nat} {e : TypeId} {xs : List Value} (hr : w.ownsRow base e 1 v k xs) (hs : Sep (PlZ b sv rv) w w2) (ha : Ap v b sv rv) : w2.ownsRow base e 1 v k xs := by
  refine ⟨hr.1, ?_⟩
  rcases hr.2 with h | ⟨g, cap, cur, rfl, hb, hg, r⟩
  · exact .inl h
  · exact .inr ⟨g, cap, cur, rfl, hb, (hs.block g (Array.getElem?_eq_some_iff.1 hg).1 (ha g rfl)).trans hg, r⟩
theorem ap_put {w : World} {b base k : Nat} {sv rv sv' rv' v : Value} {e : TypeId} {xs : List Value} (hr : w.ownsRow base e 1 v k xs) (ha : Ap v b sv rv) (hs : PlNew w sv sv') (hn : PlNew w rv rv') : Ap v b sv' rv' := by
  intro j hj hz
  have hlt := (hr.lt j hj).2
  have hnz := ha j hj
  rcases hz with rfl | hz | hz
  · exact hnz (.inl rfl)
  · rcases hs with h | h
    · exact hnz (.inr (.inl (by rw [← h]; exact hz)))
    · have := h j hz; omega
  · rcases hn with h | h
    · exact hnz (.inr (.inr (by rw [← h]; exact hz)))
    · have := h j hz; omega
theorem PlX.lt {w : World} {b : Nat} {sv rv : Value} {s : Pl.S} (X : PlX w b sv rv s) : b < w.heap.size := by obtain ⟨n, x, hC, _⟩ := X.ex; exact hC.lt
theorem PlX.kept {w w' : World} {b : Nat} {sv rv v : Value} {s : Pl.S} (X : PlX w b sv rv s) (ha : Ap v b sv rv) (hg : w.grownBy w' v.ownBlock) : PlX w' b sv rv s := by
  obtain ⟨n, x, hC, hx⟩ := X.ex
  refine ⟨X.g, z_up X.z hg.size, n, x, hC.kept hg ha.ne, fun h0 => ?_⟩
  obtain ⟨e1, e2, h1, h2⟩ := hx h0
  exact ⟨e1, e2, h1.kept hg ha.s, h2.kept hg ha.r⟩
theorem PlX.later {w w' : World} {b : Nat} {sv rv : Value} {s : Pl.S} (X : PlX w b sv rv s) (hb : Below w.heap.size w w') : PlX w' b sv rv s := by
  obtain ⟨n, x, hC, hx⟩ := X.ex
  refine ⟨X.g, z_up X.z hb.size, n, x, hC.later hb, fun h0 => ?_⟩
  obtain ⟨e1, e2, h1, h2⟩ := hx h0
  exact ⟨e1, e2, below_row h1 hb, below_row h2 hb⟩
theorem ap_app {w : World} {b : Nat} {sv rv v v' : Value} {s : Pl.S} (X : PlX w b sv rv s) (ha : Ap v b sv rv) (hat : v'.ownBlock = v.ownBlock ∨ v'.ownBlock = some w.heap.size) : Ap v' b sv rv := by
  intro k hk hz
  rcases hat with h | h
  · exact ha k (by rw [← h]; exact hk) hz
  · rw [h] at hk; cases hk
    have := (X.z _ hz).2; omega
theorem plError_x {w : World} {b : Nat} {sv rv : Value} {s : Pl.S} (X : PlX w b sv rv s) :
    Calls Try.prog 79 #[.pointer (some ⟨b, 0, none⟩)] w fun e w' => e = .returned (.int .i64 s.e) ∧ w = w' := by
  obtain ⟨n, x, hC, _⟩ := X.ex
  exact plError_any w b s.h n sv rv s.rows s.last s.e x hC
theorem slk_row {w : World} {base k : Nat} {v : Value} {l : List Int} (hr : w.ownsRow base 71 1 v k (pixs l)) (hk : l.length = k) :
    ∃ a c, v = .slice a k c ∧ SlK .u64 w a k l := by
  rcases hr.2 with ⟨rfl, rfl⟩ | ⟨g, cap, cur, rfl, hb, hg, hle, hm, hs, ht⟩
  · exact ⟨none, 0, rfl, hk, .inl rfl⟩
  · exact ⟨_, cap, rfl, slk_of_row (c := cap) hr hk⟩
/-- all pixels, told -/
def RdR (t : List Int × Int × Int) (w : World) (e : Ending) (w' : World) : Prop :=
  ∃ a c, e = .returned (.tuple #[.slice a t.1.length c, .int .i64 t.2.1, .int .i64 t.2.2]) ∧ SlK .u64 w' a t.1.length t.1 ∧ Below w.heap.size w w'
theorem rdr_nil {t : List Int × Int × Int} {e1 e2 : Int} (ht : t = ([], e1, e2)) {w w' : World} (hB : Below w.heap.size w w') : RdR t w (.returned (.tuple #[.slice none 0 0, .int .i64 e1, .int .i64 e2])) w' :=
  ⟨none, 0, by rw [ht]; rfl, by rw [ht]; exact slk_nil, hB⟩
theorem rdr_row {t : List Int × Int × Int} {l : List Int} {e1 e2 x : Int} (ht : t = (l, e1, e2)) (hx : x = e1) {w w' : World} {base k : Nat} {v : Value} (hr : w'.ownsRow base 71 1 v k (pixs l)) (hk : l.length = k) (hB : Below w.heap.size w w') : RdR t w (.returned (.tuple #[v, .int .i64 x, .int .i64 e2])) w' := by
  obtain ⟨a, c, rfl, hs⟩ := slk_row hr hk
  subst hk; subst hx
  exact ⟨a, c, by rw [ht], by rw [ht]; exact hs, hB⟩
end Go.Proofs.Ytflpocnbmpdhiaa

/- When two rows of pixels are the same, by the document, over any memory. Condition: a length fits an int. -/
namespace Go.Proofs.Ytflpocnbmpdhiaa
open Go.RowKit
set_option linter.unusedVariables false
namespace Su
theorem ret_b {a b : Bool} (h : a = b) : Ending.returned (.bool a) = .returned (.bool b) := by rw [h]
theorem below_drewN {B : Nat} {a w : World} (h : Below B a w) (n : Nat) : Below B a (w.drewN n) := ⟨h.os, h.tape, h.output, h.size, h.block⟩
/-- two lists are the same up to k -/
def Alike (x y : List Int) (k : Nat) : Prop := ∀ i, i < k → x.getD i 0 = y.getD i 0
theorem alike_all {x y : List Int} {n : Nat} (hx : x.length = n) (hy : y.length = n) (h : Alike x y n) : x = y := by
  refine List.ext_getElem (by rw [hx, hy]) fun i h1 h2 => ?_
  have := h i (by omega)
  rw [List.getD_eq_getElem?_getD, List.getD_eq_getElem?_getD, List.getElem?_eq_getElem h1, List.getElem?_eq_getElem h2] at this
  simpa using this
theorem alike_succ {x y : List Int} {k : Nat} (h : Alike x y k) (e : x.getD k 0 = y.getD k 0) : Alike x y (k + 1) := fun i hi => by
  rcases Nat.lt_or_ge i k with h1 | h1
  · exact h i h1
  · obtain rfl : i = k := by omega
    exact e

set_option maxHeartbeats 1000000 in
theorem sameRow_any (a b : Option Addr) (n m ca cb : Nat) (x y : List Int) (w : World) (hn : n ≤ 9223372036854775807) (ha : SlK .u64 w a n x) (hb : SlK .u64 w b m y) :
    Calls Try.prog 27 #[.slice a n ca, .slice b m cb] w fun e w' => e = .returned (.bool (decide (x = y))) ∧ Below w.heap.size w w' := by
  by_cases h : n = m
  · subst h
    obtain ⟨lx, ha⟩ := ha
    obtain ⟨ly, hb⟩ := hb
    have LX := Lib.hid lx; clear lx
    have LY := Lib.hid ly; clear ly
    by_cases h0 : n = 0
    · subst h0
      have X := Lib.hid (show decide (x = y) = true by rw [decide_eq_true_iff, List.eq_nil_of_length_eq_zero LX.out, List.eq_nil_of_length_eq_zero LY.out])
      clear ha hb
      go_enter Try.func27, Try.ntmps27
      go_wp2
      go_rounds 1
      go_ret
      exact ⟨ret_b X.out.symm, Below.refl _ _⟩
    · rcases ha with ha | ⟨ba, oa, rfl, ha⟩
      · omega
      rcases hb with hb | ⟨bb, ob, rfl, hb⟩
      · omega
      have HA := Lib.hid ha; clear ha
      have HB := Lib.hid hb; clear hb
      go_enter Try.func27, Try.ntmps27
      go_wp2
      go_loopw [5] (fun i wr => ∃ k q : Nat, k ≤ n ∧ i = .int .i64 k ∧ Alike x y k ∧ wr = w.drewN q) (fun i _ => n - (intOf i).toNat)
      case atStart => exact ⟨0, 0, Nat.zero_le _, rfl, (fun i hi => by omega), rfl⟩
      case round =>
        obtain ⟨k, q, hk, rfl, hal, rfl⟩ := hrel
        by_cases hlt : k < n
        · have hx := HA.out k hlt
          have hy := HB.out k hlt
          obtain ⟨u, hu⟩ : ∃ u, x.getD k 0 = u := ⟨_, rfl⟩
          obtain ⟨v, hv⟩ : ∃ v, y.getD k 0 = v := ⟨_, rfl⟩
          rw [hu] at hx; rw [hv] at hy
          have HU := Lib.hid hu; clear hu
          have HV := Lib.hid hv; clear hv
          have i0 : (0 : Int) ≤ (k : Int) := Int.natCast_nonneg _
          have i1 : (k : Int) < (n : Int) := by omega
          by_cases huv : u = v
          · subst huv
            go_wp2_with (go_quiet (fail))
            go_roundw
            case rel => exact ⟨k + 1, _, by omega, by go_num, alike_succ hal (by rw [HU.out, HV.out]), rfl⟩
            case measure => simp [intOf]; omega
          · have kk : (u != v) = true := by rw [bne_iff_ne]; exact huv
            have X := Lib.hid (show decide (x = y) = false by rw [decide_eq_false_iff_not]; intro e; apply huv; rw [← HU.out, ← HV.out, e])
            go_wp2_with (go_quiet (fail))
            go_ret
            exact ⟨ret_b X.out.symm, below_drewN (below_drewN (Below.refl _ _) _) _⟩
        · obtain rfl : k = n := by omega
          have X := Lib.hid (show decide (x = y) = true by rw [decide_eq_true_iff]; exact alike_all LX.out LY.out hal)
          go_wp2
          go_ret
          exact ⟨ret_b X.out.symm, below_drewN (Below.refl _ _) _⟩
  · have X := Lib.hid (show decide (x = y) = false by rw [decide_eq_false_iff_not]; intro e; apply h; rw [← ha.1, ← hb.1, e])
    have k : ((n : Int) != m) = true := by simp; omega
    go_enter Try.func27, Try.ntmps27
    go_wp2
    go_ret
    exact ⟨ret_b X.out.symm, Below.refl _ _⟩

end Su
end Go.Proofs.Ytflpocnbmpdhiaa

/- All pixels of a raster of digits, over any memory. Condition: the text is short, the head's numbers fit. -/
namespace Go.Proofs.Ytflpocnbmpdhiaa
open Go.RowKit
set_option linter.unusedVariables false

set_option maxRecDepth 100000 in
set_option maxHeartbeats 4000000 in
theorem plRead_any (s : ByteArray) (hsz : s.size ≤ 100000) (h : Hd.H) (hf : Hj.Fit h) (w : World) :
    Calls Try.prog 44 #[.string s, agH h] w (RdR (Pl.readV h (bytesOf s)) w) := by
  by_cases hm : Pl.May h
  · have HN := Lib.hid (plNew_yes h hf hm)
    obtain ⟨t0, ht0⟩ : ∃ t, Pl.readV h (bytesOf s) = t := ⟨_, rfl⟩
    have HV0 : Hid (t0 = Pl.readF (Pl.new h) 0 [] (bytesOf s)) := by show _ = _; rw [← ht0]; exact if_pos hm
    rw [ht0]
    obtain ⟨p0, pi, pz0, pz1, pz2⟩ : ∃ i, Try.prog.info? 71 = some i ∧ i.zero = some (.int .u64 0) ∧ i.size = 1 ∧ i.bytes = 8 := (by have h := Try.info_px8; cases hh : Try.prog.info? 71 with | none => rw [hh] at h; cases h | some i => rw [hh] at h; simp at h; exact ⟨i, rfl, h.1, h.2.1, h.2.2⟩)
    clear ht0 hf hm
    unfold agH at HN ⊢
    go_enter Try.func44, Try.ntmps44
    go_wp2_with fail
    refine (HN.out _).mono ?_
    rintro e w1 ⟨b, rfl, hwb, hX, hb1⟩
    have HX1 := Lib.hid hX
    have HB1 := Lib.hid (((Below.refl _ w).alloc (Nat.le_refl _) _).trans (hb1.mono (by simp)))
    have HWB : Hid (w.heap.size ≤ b) := Lib.hid (by simp at hwb; omega)
    clear hX hb1 hwb
    go_wp2_with fail
    go_loopw [9, 25] (fun u9 u25 wr => ∃ (i : Nat) (sv rv : Value) (st : Pl.S) (acc : List Int) (v : Value), i ≤ s.size ∧ u25 = .int .i64 i ∧ v = u9 ∧ PlX wr b sv rv st ∧ st.last = 0 ∧ wr.ownsRow w.heap.size 71 1 v acc.length (pixs acc) ∧ Ap v b sv rv ∧ acc.length + st.row.length ≤ i ∧ Below w.heap.size w wr ∧ t0 = Pl.readF st i acc ((bytesOf s).drop i)) (fun _ u25 _ => s.size - (intOf u25).toNat)
    case atStart => exact ⟨0, _, _, Pl.new h, [], _, Nat.zero_le _, rfl, rfl, HX1.out, rfl, World.ownsRow_nil _ _ _ _, ap_nil _ _ _, Nat.le_refl _, HB1.out, HV0.out⟩
    case round =>
      obtain ⟨i, sv, rv, st, acc, v, hi1, rfl, rfl, hX, h0, hrow, hap, hgr, hB, hV⟩ := hrel
      have HX := Lib.hid hX
      have HROW := Lib.hid hrow
      have HAP := Lib.hid hap
      have HB := Lib.hid hB
      have H0 := Lib.hid h0
      have HG := Lib.hid hX.g
      obtain ⟨n, hn⟩ : ∃ n, acc.length = n := ⟨_, rfl⟩
      have HNL := Lib.hid hn
      rw [hn] at hgr
      have HROW' : Hid (wr.ownsRow w.heap.size 71 1 v n (pixs acc)) := by show World.ownsRow _ _ _ _ _ _ _; have h := hrow; rw [hn] at h; exact h
      have hn9 : n ≤ 100000 := by omega
      have HGR := Lib.hid hgr
      clear hX hrow hap hB h0 hn
      have HPZ : Hid (∀ (q : Pl.S × List Int) (w2 : World) sv' rv', PlX w2 b sv' rv' q.1 → Sep (PlZ b sv rv) wr w2 → PlNew wr sv sv' → PlNew wr rv rv' → w2.ownsRow w.heap.size 71 1 v n (pixs acc) ∧ Ap v b sv' rv' ∧ Below w.heap.size w w2) := Lib.hid fun q w2 sv' rv' hX2 hS hN1 hN2 =>
        ⟨row_sep HROW'.out hS HAP.out, ap_put HROW'.out HAP.out hN1 hN2, HB.out.trans (hS.below HB.out.size (fun k hk hz => by have := (HX.out.z k hz).1; have := HWB.out; omega))⟩
      by_cases hlt : i < s.size
      · rw [bytesOf_drop s i hlt] at hV
        have c0 : (0 : Int) ≤ (s[i].toNat : Int) := by omega
        have c1 : (s[i].toNat : Int) ≤ 255 := by have := s[i].toNat_lt; omega
        have HP := plPut_any (s[i].toNat : Int) c0 c1 wr b sv rv HX.out
        have hg' := Pl.put_grow st (s[i].toNat : Int)
        have hG' := (Pl.good_put HG.out (s[i].toNat : Int)).last
        obtain ⟨q, hq⟩ : ∃ q, Pl.put st (s[i].toNat : Int) = q := ⟨_, rfl⟩
        rw [hq] at HP hg' hG'
        obtain ⟨m, hm⟩ : ∃ m, q.2.length = m := ⟨_, rfl⟩
        have hml : m ≤ 100001 := by omega
        have HQG := Lib.hid hg'
        have HML := Lib.hid hm
        by_cases h1 : q.1.last = 1
        · have HV2 : Hid (t0 = (acc ++ q.2, (i : Int) + 1, 0)) := by show _ = _; rw [hV, Pl.readF_over hq h1]
          unfold PlPutR at HP
          rw [h1, hm] at HP
          have HPC := Lib.hid HP
          have hii : (i : Int) + 1 ≤ 9223372036854775807 := by omega
          clear HP hg' hG' hq hm hV h1 hgr
          go_wp2_with (first | (at_builtin; refine wpList_app rfl _ _ 52 rfl w.heap.size 71 p0 .u64 8 Try.underlying52 pi pz0 pz1 pz2 v n (pixs acc) rfl HO2.out a m c q.2 rfl HS2.out (by unfold maxLen; omega) (by omega) HB2.out.size ?_; intro v3 w3 hown hgrow hat; have HO3 := Lib.hid hown; have HB3 := Lib.hid (HB2.out.grown hgrow HB2.out.size (fun j ej => (HO2.out.lt j ej).1)); clear hown hgrow hat) | (go_at_call 78; refine HPC.out.mono ?_; rintro e w2 ⟨a, c, sv', rv', rfl, hX2, hS2, _, hF2, hN1, hN2⟩; obtain ⟨z1, z2, z3⟩ := HPZ.out q w2 sv' rv' hX2 hF2 hN1 hN2; have HO2 := Lib.hid z1; have HB2 := Lib.hid z3; have HS2 := Lib.hid hS2; clear hX2 hS2 hF2 hN1 hN2 z1 z2 z3))
          go_returns
          exact rdr_row HV2.out rfl (by have h := HO3.out; unfold pixs; rw [List.map_append]; exact h) (by rw [List.length_append, HNL.out, HML.out]) HB3.out
        by_cases h2 : q.1.last = 2
        · have HV2 : Hid (t0 = ([], 0, q.1.e)) := by show _ = _; rw [hV, Pl.readF_wrong hq h2]
          unfold PlPutR at HP
          rw [h2, hm] at HP
          have HPC := Lib.hid HP
          clear HP hg' hG' hq hm hV h1 h2 hgr
          go_wp2_with (first | (at_builtin; refine wpList_app rfl _ _ 52 rfl w.heap.size 71 p0 .u64 8 Try.underlying52 pi pz0 pz1 pz2 v n (pixs acc) rfl HO2.out a m c q.2 rfl HS2.out (by unfold maxLen; omega) (by omega) HB2.out.size ?_; intro v3 w3 hown hgrow hat; have HB3 := Lib.hid (HB2.out.grown hgrow HB2.out.size (fun j ej => (HO2.out.lt j ej).1)); have HX3 := Lib.hid (HX2.out.kept HA2.out hgrow); clear hown hgrow hat) | (go_at_call 78; refine HPC.out.mono ?_; rintro e w2 ⟨a, c, sv', rv', rfl, hX2, hS2, _, hF2, hN1, hN2⟩; obtain ⟨z1, z2, z3⟩ := HPZ.out q w2 sv' rv' hX2 hF2 hN1 hN2; have HO2 := Lib.hid z1; have HA2 := Lib.hid z2; have HB2 := Lib.hid z3; have HS2 := Lib.hid hS2; have HX2 := Lib.hid hX2; clear hX2 hS2 hF2 hN1 hN2 z1 z2 z3) | (go_at_call 79; refine (plError_x HX3.out).mono ?_; rintro e w9 ⟨rfl, rfl⟩))
          go_returns
          exact rdr_nil HV2.out HB3.out
        · have h3 : q.1.last = 0 := by omega
          have HV2 : Hid (t0 = Pl.readF q.1 (i + 1) (acc ++ q.2) ((bytesOf s).drop (i + 1))) := by show _ = _; rw [hV, Pl.readF_more hq h3]
          unfold PlPutR at HP
          rw [h3, hm] at HP
          have HPC := Lib.hid HP
          have H3 := Lib.hid h3
          clear HP hg' hG' hq hm hV h1 h2 h3 hgr
          go_wp2_with (first | (at_builtin; refine wpList_app rfl _ _ 52 rfl w.heap.size 71 p0 .u64 8 Try.underlying52 pi pz0 pz1 pz2 v n (pixs acc) rfl HO2.out a m c q.2 rfl HS2.out (by unfold maxLen; omega) (by omega) HB2.out.size ?_; intro v3 w3 hown hgrow hat; have HO3 := Lib.hid hown; have HB3 := Lib.hid (HB2.out.grown hgrow HB2.out.size (fun j ej => (HO2.out.lt j ej).1)); have HX3 := Lib.hid (HX2.out.kept HA2.out hgrow); have HA3 := Lib.hid (ap_app HX2.out HA2.out hat); clear hown hgrow hat) | (go_at_call 78; refine HPC.out.mono ?_; rintro e w2 ⟨a, c, sv', rv', rfl, hX2, hS2, _, hF2, hN1, hN2⟩; obtain ⟨z1, z2, z3⟩ := HPZ.out q w2 sv' rv' hX2 hF2 hN1 hN2; have HO2 := Lib.hid z1; have HA2 := Lib.hid z2; have HB2 := Lib.hid z3; have HS2 := Lib.hid hS2; have HX2 := Lib.hid hX2; clear hX2 hS2 hF2 hN1 hN2 z1 z2 z3))
          go_roundw
          case rel => exact ⟨i + 1, sv', rv', q.1, acc ++ q.2, v3, by omega, by go_num, rfl, HX3.out, H3.out, by rw [List.length_append, HNL.out, HML.out]; have h := HO3.out; unfold pixs; rw [List.map_append]; exact h, HA3.out, by rw [List.length_append, HNL.out]; have := HQG.out; have := HGR.out; omega, HB3.out, HV2.out⟩
          case measure => simp [intOf]; omega
      · have hgl := Pl.fin_grow st
        have hls := Pl.fin_last HG.out
        have HP := plEnd_any wr b sv rv HX.out
        obtain ⟨q, hq⟩ : ∃ q, Pl.fin st = q := ⟨_, rfl⟩
        rw [List.drop_eq_nil_of_le (by rw [bytesOf_length]; omega), Pl.readF_nil hq] at hV
        rw [hq] at HP hgl hls
        obtain ⟨m, hm⟩ : ∃ m, q.2.length = m := ⟨_, rfl⟩
        have hml : m ≤ 100001 := by omega
        have HML := Lib.hid hm
        have his : i = s.size := by omega
        by_cases h2 : q.1.last = 2
        · have HV2 : Hid (t0 = ([], 0, q.1.e)) := by show _ = _; rw [hV, if_pos h2]
          unfold PlPutR at HP
          rw [h2, hm] at HP
          have HPC := Lib.hid HP
          clear HP hgl hls hq hm hV h2 hgr his
          go_wp2_with (first | (go_at_call 80; refine HPC.out.mono ?_; rintro e w2 ⟨a, c, sv', rv', rfl, hX2, hS2, _, hF2, hN1, hN2⟩; obtain ⟨z1, z2, z3⟩ := HPZ.out q w2 sv' rv' hX2 hF2 hN1 hN2; have HB2 := Lib.hid z3; have HX2 := Lib.hid hX2; clear hX2 hS2 hF2 hN1 hN2 z1 z2 z3) | (go_at_call 79; refine (plError_x HX2.out).mono ?_; rintro e w9 ⟨rfl, rfl⟩))
          go_returns
          exact rdr_nil HV2.out HB2.out
        · have h3 : q.1.last = 1 := by omega
          have HV2 : Hid (t0 = (acc ++ q.2, (s.size : Int), 0)) := by show _ = _; rw [hV, if_neg h2, his]
          unfold PlPutR at HP
          rw [h3, hm] at HP
          have HPC := Lib.hid HP
          clear HP hgl hls hq hm hV h2 h3 hgr his
          go_wp2_with (first | (at_builtin; refine wpList_app rfl _ _ 52 rfl w.heap.size 71 p0 .u64 8 Try.underlying52 pi pz0 pz1 pz2 v n (pixs acc) rfl HO2.out a m c q.2 rfl HS2.out (by unfold maxLen; omega) (by omega) HB2.out.size ?_; intro v3 w3 hown hgrow hat; have HO3 := Lib.hid hown; have HB3 := Lib.hid (HB2.out.grown hgrow HB2.out.size (fun j ej => (HO2.out.lt j ej).1)); clear hown hgrow hat) | (go_at_call 80; refine HPC.out.mono ?_; rintro e w2 ⟨a, c, sv', rv', rfl, hX2, hS2, _, hF2, hN1, hN2⟩; obtain ⟨z1, z2, z3⟩ := HPZ.out q w2 sv' rv' hX2 hF2 hN1 hN2; have HO2 := Lib.hid z1; have HB2 := Lib.hid z3; have HS2 := Lib.hid hS2; clear hX2 hS2 hF2 hN1 hN2 z1 z2 z3))
          go_returns
          exact rdr_row HV2.out rfl (by have h := HO3.out; unfold pixs; rw [List.map_append]; exact h) (by rw [List.length_append, HNL.out, HML.out]) HB3.out
  · have HN := Lib.hid (plNew_no h hf hm)
    have HV : Hid (Pl.readV h (bytesOf s) = ([], 0, 1)) := Lib.hid (if_neg hm)
    clear hf hm
    unfold agH at HN ⊢
    go_enter Try.func44, Try.ntmps44
    go_wp2_with (go_at_call 77; refine (HN.out _).mono ?_; rintro e w1 ⟨rfl, hb1⟩; have HB1 := Lib.hid (((Below.refl _ w).alloc (Nat.le_refl _) _).trans (hb1.mono (by simp))))
    go_returns
    exact rdr_nil HV.out HB1.out
end Go.Proofs.Ytflpocnbmpdhiaa

/- Heads of rasters of digits, made of any, by the document; the document's example. Condition: a head's numbers fit. -/
namespace Go.Proofs.Ytflpocnbmpdhiaa
open Go.RowKit
set_option linter.unusedVariables false

theorem Pl.headV_in (M : Int) (M0 : 1 ≤ M) (M1 : M ≤ 4096) (h : Hd.H) : Pl.May (Pl.headV M h) ∧ (Pl.headV M h).w ≤ M ∧ (Pl.headV M h).h ≤ M := by
  obtain ⟨a, b, c, d, e⟩ := Pl.goodM_in M M0 h
  unfold Pl.headV
  by_cases hk : 3 < (Pl.goodM M h).kd
  · rw [if_pos hk]
    refine ⟨⟨⟨by simp only []; omega, by simp only []; omega, by simp only []; omega, d, fun hb => ?_⟩, by simp only []; omega⟩, b.2, c.2⟩
    refine e ?_
    unfold Hd.bits at hb ⊢
    simp only [decide_eq_true_eq] at hb ⊢
    omega
  · rw [if_neg hk]
    exact ⟨⟨⟨a, by omega, by omega, d, e⟩, by omega⟩, b.2, c.2⟩
theorem may_fit {h : Hd.H} (H : Pl.May h) : Hj.Fit h := by
  have := H.m
  unfold Hj.Fit Nu.I; omega
theorem Pl.example1 : Pl.readV ⟨1, 3, 1, 1⟩ (bytesOf ⟨#[49, 32, 48, 49, 120]⟩) = ([281474976710657, 281474976710656, 281474976710657], 4, 0) := by decide
end Go.Proofs.Ytflpocnbmpdhiaa

/- The document's reader of digits, as a value and in ten cells of a block of the call's own, over any memory; a new one; one that is wrong. No condition. -/
namespace Go.Proofs.Ytflpocnbmpdhiaa
open Go.RowKit
set_option linter.unusedVariables false

/-- a reader by the document, as a value -/
def agR (h : Hd.H) (N : Int) (v1 v2 : Value) (rows last e : Int) : Value := .agg #[.int .i64 h.kd, .int .i64 h.w, .int .i64 h.h, .int .i64 h.m, .int .i64 N, v1, v2, .int .i64 rows, .int .i64 last, .int .i64 e]
section
variable {w w' : World} {b : Nat} {h : Hd.H} {N : Int} {v1 v2 : Value} {rows last e : Int}
end
theorem ret_cell_tmp {P : Program} {fn : Func} {p u : Tmp} {ty : TypeId} (h : fn.results = #[.cell p ty, .tmp u]) (tmps : Array Value) (w : World) (b : Nat) (val : Value) (hp : tmps.getD p undef = .pointer (some ⟨b, 0, none⟩)) (hl : (loadVar ty ⟨b, 0, none⟩).run P w = .ok val w) :
    (results fn tmps).run P w = .ok (.tuple #[val, tmps.getD u undef]) w := by
  have hp' : tmps[p]?.getD undef = .pointer (some ⟨b, 0, none⟩) := by simpa using hp
  simp only [results, h]
  simp [hp', asAddr, hl, Result.andThen]
def Pl.nn (s : Pl.S) : Int := if s.d = true then s.n else -1
/-- v is the document's reader where s says -/
def RfV (w : World) (v : Value) (s : Pl.S) : Prop :=
  ∃ a1 c1 a2 c2, v = agR s.h (Pl.nn s) (.slice a1 s.one.length c1) (.slice a2 s.row.length c2) s.rows s.last s.e ∧ SlK .i64 w a1 s.one.length s.one ∧ SlK .u64 w a2 s.row.length s.row
theorem RfV.later {w w' : World} {v : Value} {s : Pl.S} (h : RfV w v s) (hb : Below w.heap.size w w') : RfV w' v s := by
  obtain ⟨a1, c1, a2, c2, hv, h1, h2⟩ := h
  exact ⟨a1, c1, a2, c2, hv, h1.below hb, h2.below hb⟩
/-- what the document's reader hands back of a byte -/
def RfR (w : World) (q : Pl.S × List Int) (e : Ending) (w' : World) : Prop :=
  ∃ v a c, e = .returned (.tuple #[v, .slice a q.2.length c]) ∧ RfV w' v q.1 ∧ SlK .u64 w' a q.2.length q.2 ∧ Below w.heap.size w w'
theorem rf_new (h : Hd.H) (w : World) : RfV w (agR h (-1) (.slice none 0 0) (.slice none 0 0) 0 0 0) (Pl.new h) := ⟨none, 0, none, 0, rfl, ⟨rfl, .inl rfl⟩, ⟨rfl, .inl rfl⟩⟩
end Go.Proofs.Ytflpocnbmpdhiaa

/- The document's reader of digits is told a sample, over any memory. Condition: its head may be, its numbers are samples. -/
namespace Go.Proofs.Ytflpocnbmpdhiaa
open Go.RowKit
set_option linter.unusedVariables false

theorem slk_one (w : World) (q : IntKind) (x : Int) (t : TypeId) : SlK q (w.alloc (.cells #[.int q x] t)) (some ⟨w.heap.size, 0, none⟩) 1 [x] := by
  refine ⟨rfl, .inr ⟨w.heap.size, 0, rfl, fun i hi => ?_⟩⟩
  obtain rfl : i = 0 := by omega
  rw [World.cell?_alloc_at _ _ _ _ rfl]; rfl
theorem slk_ints {w : World} {base k : Nat} {a : Option Addr} {c : Nat} {l : List Int} (hr : w.ownsRow base 3 1 (.slice a k c) k (ints l)) (hk : l.length = k) : SlK .i64 w a k l := by
  rcases hr.2 with ⟨hv, rfl⟩ | ⟨g, cap, cur, hv, hb, hg, hle, hm, hs, ht⟩
  · exact ⟨hk, .inl rfl⟩
  · cases hv
    refine ⟨hk, .inr ⟨g, 0, rfl, fun i hi => ?_⟩⟩
    have hc := hr.cells (g := g) rfl i (.int .i64 (l.getD i 0)) (by simp [ints, List.getD_eq_getElem?_getD, List.getElem?_eq_getElem (show i < l.length by omega)])
    simpa [addrK_add] using hc
theorem slk_sl {w : World} {a : Option Addr} {k : Nat} {l : List Int} (h : SlK .i64 w a k l) : Pq.Sl w a k l := h
/-- made since -/
def Nw (W : World) (a : Option Addr) : Prop := ∀ y, a = some y → W.heap.size ≤ y.block
theorem nw_none (W : World) : Nw W none := fun y hy => by cases hy
theorem nw_some {W : World} {g : Nat} (h : W.heap.size + 2 ≤ g) : Nw W (some ⟨g, 0, none⟩) := fun y hy => by cases hy; show W.heap.size ≤ g; omega
/-- the document's sample: what it hands back -/
def RfS (w : World) (h : Hd.H) (a0 : Option Addr) (row0 : List Int) (one row : List Int) (rows last e : Int) (out : List Int) (r : Ending) (w' : World) : Prop :=
  ∃ a1 c1 a2 c2 a c, r = .returned (.tuple #[agR h (-1) (.slice a1 one.length c1) (.slice a2 row.length c2) rows last e, .slice a out.length c]) ∧ SlK .i64 w' a1 one.length one ∧ SlK .u64 w' a2 row.length row ∧ SlK .u64 w' a out.length out ∧ Below w.heap.size w w' ∧ Nw w a1 ∧ ((a2 = a0 ∧ row = row0) ∨ Nw w a2) ∧ Nw w a

end Go.Proofs.Ytflpocnbmpdhiaa

/- The document's reader of digits is told a byte, way by way, over any memory. Condition: its head may be. -/
namespace Go.Proofs.Ytflpocnbmpdhiaa
open Go.RowKit
set_option linter.unusedVariables false

/-- it hands back a reader, and no row -/
def RpP (w : World) (v : Value) (x : Ending) (w' : World) : Prop := x = .returned (.tuple #[v, .slice none 0 0]) ∧ Below w.heap.size w w'
section
variable (h : Hd.H) (N : Int) (a1 a2 : Option Addr) (k c1 r c2 : Nat) (rows last e c : Int) (c0 : 0 ≤ c) (c1' : c ≤ 255) (w : World)
end
/-- a reader and a row, with what they read as -/
def RpS (w : World) (h : Hd.H) (a0 : Option Addr) (row0 : List Int) (one row : List Int) (rows last e : Int) (out : List Int) (r : Ending) (w' : World) : Prop :=
  ∃ a1 c1 a2 c2 a c, r = .returned (.tuple #[agR h (-1) (.slice a1 one.length c1) (.slice a2 row.length c2) rows last e, .slice a out.length c]) ∧ SlK .i64 w' a1 one.length one ∧ SlK .u64 w' a2 row.length row ∧ SlK .u64 w' a out.length out ∧ Below w.heap.size w w' ∧ Nw w a1 ∧ ((a2 = a0 ∧ row = row0) ∨ Nw w a2) ∧ Nw w a
theorem nw_mono {W W' : World} (h : W.heap.size ≤ W'.heap.size) {a : Option Addr} (hn : Nw W' a) : Nw W a := fun y hy => Nat.le_trans h (hn y hy)
theorem far_of {W : World} {a : Option Addr} (h : Nw W a) {b : Nat} (hb : b < W.heap.size) : ∀ y, a = some y → y.block ≠ b := fun y hy e => by have := h y hy; omega
end Go.Proofs.Ytflpocnbmpdhiaa

/- The document's reader of digits is told a byte: what it comes to, over any memory. Condition: its head may be. -/
namespace Go.Proofs.Ytflpocnbmpdhiaa
open Go.RowKit
/-- v is the document's reader where s says; its memory is what was handed in, or was made since W -/
def RfF (A1 A2 : Option Addr) (O1 O2 : List Int) (W w : World) (v : Value) (s : Pl.S) : Prop :=
  ∃ a1 c1 a2 c2, v = agR s.h (Pl.nn s) (.slice a1 s.one.length c1) (.slice a2 s.row.length c2) s.rows s.last s.e ∧ SlK .i64 w a1 s.one.length s.one ∧ SlK .u64 w a2 s.row.length s.row ∧ ((a1 = A1 ∧ s.one = O1) ∨ Nw W a1) ∧ ((a2 = A2 ∧ s.row = O2) ∨ Nw W a2)
/-- what the document's reader hands back of a byte -/
def RfW (A1 A2 : Option Addr) (O1 O2 : List Int) (w : World) (q : Pl.S × List Int) (e : Ending) (w' : World) : Prop :=
  ∃ v a c, e = .returned (.tuple #[v, .slice a q.2.length c]) ∧ RfF A1 A2 O1 O2 w w' v q.1 ∧ SlK .u64 w' a q.2.length q.2 ∧ Nw w a ∧ Below w.heap.size w w'
theorem rf_same {w w' : World} {s t : Pl.S} {a1 a2 : Option Addr} {c1 c2 : Nat} (S1 : SlK .i64 w a1 s.one.length s.one) (S2 : SlK .u64 w a2 s.row.length s.row) {x : Ending} (N : Int) (rows last e : Int)
    (hx : RpP w (agR s.h N (.slice a1 s.one.length c1) (.slice a2 s.row.length c2) rows last e) x w') (hs : t.h = s.h ∧ Pl.nn t = N ∧ t.one = s.one ∧ t.row = s.row ∧ t.rows = rows ∧ t.last = last ∧ t.e = e) : RfW a1 a2 s.one s.row w (t, []) x w' := by
  obtain ⟨rfl, hb⟩ := hx
  obtain ⟨e1, e2, e3, e4, e5, e6, e7⟩ := hs
  refine ⟨_, none, 0, rfl, ⟨a1, c1, a2, c2, by rw [e1, e2, e3, e4, e5, e6, e7], ?_, ?_, .inl ⟨rfl, e3⟩, .inl ⟨rfl, e4⟩⟩, slk_nil, nw_none _, hb⟩
  · rw [e3]; exact S1.below hb
  · rw [e4]; exact S2.below hb
theorem rf_samp {k : Int} {w w' : World} {s : Pl.S} {a0 a1 : Option Addr} {x : Ending} (hx : RpS w s.h a0 s.row (Pl.sample s k).1.one (Pl.sample s k).1.row (Pl.sample s k).1.rows (Pl.sample s k).1.last 0 (Pl.sample s k).2 x w') : RfW a1 a0 s.one s.row w (Pl.sample s k) x w' := by
  obtain ⟨a1, c1, a2, c2, a, c, rfl, h1, h2, h3, hb, n1, n2, n3⟩ := hx
  have hh := Pl.sample_h s k
  have hd := Pl.sample_d s k
  have he := Pl.sample_e s k
  refine ⟨_, a, c, rfl, ⟨a1, c1, a2, c2, ?_, h1, h2, .inr n1, n2⟩, h3, n3, hb⟩
  rw [hh, he]; unfold Pl.nn; rw [hd]; rfl
/-- a block that was made between W0 and W is written into -/
theorem slk_far {q : IntKind} {W0 W w w' : World} {a : Option Addr} {n b : Nat} {l : List Int} (h : SlK q w a n l) (hf : SlK q W0 a n l ∨ Nw W a) (h1 : W0.heap.size ≤ b) (h2 : b < W.heap.size) (hg : w.grownBy w' (some b)) : SlK q w' a n l := by
  rcases hf with hf | hf
  · refine ⟨h.1, ?_⟩
    rcases hf.2 with h0 | ⟨g, o, rfl, hc⟩
    · exact .inl h0
    · rcases h.2 with h0 | ⟨g', o', ha, hc'⟩
      · exact .inl h0
      · cases ha
        refine .inr ⟨g, o, rfl, fun i hi => ?_⟩
        have hlt := block_lt_of_cell (hc i hi)
        exact hg.cell (hc' i hi) (by intro e; injection e with e; have e : g = b := e; omega)
  · exact slk_kept h (far_of hf h2) hg
theorem RfF.far {A1 A2 : Option Addr} {O1 O2 : List Int} {W0 W w w' : World} {v : Value} {s : Pl.S} (h : RfF A1 A2 O1 O2 W w v s) {n1 n2 : Nat} (S1 : SlK .i64 W0 A1 n1 O1) (S2 : SlK .u64 W0 A2 n2 O2) {b : Nat} (h1 : W0.heap.size ≤ b) (h2 : b < W.heap.size) (hg : w.grownBy w' (some b)) : RfF A1 A2 O1 O2 W w' v s := by
  obtain ⟨a1, c1, a2, c2, hv, s1, s2, f1, f2⟩ := h
  refine ⟨a1, c1, a2, c2, hv, slk_far s1 (f1.imp ?_ id) h1 h2 hg, slk_far s2 (f2.imp ?_ id) h1 h2 hg, f1, f2⟩
  · rintro ⟨rfl, e⟩; rw [e]; have := S1.1; rw [this]; exact S1
  · rintro ⟨rfl, e⟩; rw [e]; have := S2.1; rw [this]; exact S2
theorem RfF.mono {A1 A2 : Option Addr} {O1 O2 : List Int} {W W' w : World} {v : Value} {s : Pl.S} (h : RfF A1 A2 O1 O2 W' w v s) (hw : W.heap.size ≤ W'.heap.size) : RfF A1 A2 O1 O2 W w v s := by
  obtain ⟨a1, c1, a2, c2, hv, s1, s2, f1, f2⟩ := h
  exact ⟨a1, c1, a2, c2, hv, s1, s2, f1.imp id (nw_mono hw), f2.imp id (nw_mono hw)⟩
theorem RfF.later {A1 A2 : Option Addr} {O1 O2 : List Int} {W w w' : World} {v : Value} {s : Pl.S} (h : RfF A1 A2 O1 O2 W w v s) (hb : Below w.heap.size w w') : RfF A1 A2 O1 O2 W w' v s := by
  obtain ⟨a1, c1, a2, c2, hv, s1, s2, f1, f2⟩ := h
  exact ⟨a1, c1, a2, c2, hv, s1.below hb, s2.below hb, f1, f2⟩
end Go.Proofs.Ytflpocnbmpdhiaa

/- The document's reader of digits is told the end: what it comes to, over any memory. Condition: its head may be. -/
namespace Go.Proofs.Ytflpocnbmpdhiaa
open Go.RowKit
end Go.Proofs.Ytflpocnbmpdhiaa

/- All pixels of a raster of digits by the document, over any memory. Condition: the text is short, the head's numbers fit. -/
namespace Go.Proofs.Ytflpocnbmpdhiaa
open Go.RowKit
set_option linter.unusedVariables false

/-- a slice that is known, in memory that is neither the block k nor the value v's own -/
def SlF (q : IntKind) (w : World) (a : Option Addr) (n : Nat) (l : List Int) (k : Nat) (v : Value) : Prop :=
  l.length = n ∧ (n = 0 ∨ ∃ g o, a = some ⟨g, o, none⟩ ∧ g ≠ k ∧ v.ownBlock ≠ some g ∧ ∀ i, i < n → w.cell? ⟨g, o + i, none⟩ = some (.int q (l.getD i 0)))
theorem SlF.sl {q : IntKind} {w : World} {a : Option Addr} {n k : Nat} {l : List Int} {v : Value} (h : SlF q w a n l k v) : SlK q w a n l := by
  refine ⟨h.1, ?_⟩
  rcases h.2 with h | ⟨g, o, ha, _, _, hc⟩
  · exact .inl h
  · exact .inr ⟨g, o, ha, hc⟩
theorem slf_nil {q : IntKind} {w : World} {a : Option Addr} {k : Nat} {v : Value} : SlF q w a ([] : List Int).length [] k v := ⟨rfl, .inl rfl⟩
theorem SlF.put {q : IntKind} {w w' : World} {a : Option Addr} {n k : Nat} {l : List Int} {v : Value} (h : SlF q w a n l k v) (hg : w.grownBy w' (some k)) : SlF q w' a n l k v := by
  refine ⟨h.1, ?_⟩
  rcases h.2 with h | ⟨g, o, ha, h1, h2, hc⟩
  · exact .inl h
  · exact .inr ⟨g, o, ha, h1, h2, fun i hi => hg.cell (hc i hi) (by intro e; injection e with e; exact h1 e)⟩
theorem SlF.app {q : IntKind} {w w' : World} {a : Option Addr} {n k : Nat} {l : List Int} {v v' : Value} (h : SlF q w a n l k v) (hg : w.grownBy w' v.ownBlock) (hat : v'.ownBlock = v.ownBlock ∨ v'.ownBlock = some w.heap.size) : SlF q w' a n l k v' := by
  refine ⟨h.1, ?_⟩
  by_cases hn : n = 0
  · exact .inl hn
  rcases h.2 with h | ⟨g, o, ha, h1, h2, hc⟩
  · exact .inl h
  · refine .inr ⟨g, o, ha, h1, ?_, fun i hi => hg.cell (hc i hi) (fun e => h2 e.symm)⟩
    rcases hat with e | e
    · rw [e]; exact h2
    · rw [e]; intro e2; injection e2 with e2
      have h3 : g < w.heap.size := block_lt_of_cell (hc 0 (by omega))
      omega
theorem SlF.of {q : IntKind} {wr w : World} {a A : Option Addr} {n m k : Nat} {l O : List Int} {v : Value} (h : SlK q w a n l) (hf : (a = A ∧ l = O) ∨ Nw wr a) (hA : SlF q wr A m O k v) (hk : k < wr.heap.size) (hv : ∀ j, v.ownBlock = some j → j < wr.heap.size) : SlF q w a n l k v := by
  refine ⟨h.1, ?_⟩
  rcases h.2 with h0 | ⟨g, o, ha, hc⟩
  · exact .inl h0
  · by_cases hn : n = 0
    · exact .inl hn
    refine .inr ⟨g, o, ha, ?_, ?_, hc⟩
    · rcases hf with ⟨rfl, rfl⟩ | hf
      · rcases hA.2 with h0 | ⟨g', o', ha', h1, h2, _⟩
        · exact absurd (h.1.symm.trans (hA.1.trans h0)) hn
        · rw [ha] at ha'; cases ha'; exact h1
      · have h3 : wr.heap.size ≤ g := hf _ ha
        intro e; have e4 : g = k := e; omega
    · rcases hf with ⟨rfl, rfl⟩ | hf
      · rcases hA.2 with h0 | ⟨g', o', ha', h1, h2, _⟩
        · exact absurd (h.1.symm.trans (hA.1.trans h0)) hn
        · rw [ha] at ha'; cases ha'; exact h2
      · intro e; have h1 := hv g e; have h2 : wr.heap.size ≤ g := hf _ ha; omega
theorem bel_drewN' {B : Nat} {a w : World} (h : Below B a w) (n : Nat) : Below B a (w.drewN n) := ⟨h.os, h.tape, h.output, h.size, h.block⟩
/-- what a told byte's reader and row read as -/
def QF (A1 A2 : Option Addr) (O1 O2 : List Int) (q : Pl.S × List Int) (W w : World) (b1 b2 a : Option Addr) : Prop :=
  SlK .i64 w b1 q.1.one.length q.1.one ∧ SlK .u64 w b2 q.1.row.length q.1.row ∧ SlK .u64 w a q.2.length q.2 ∧ ((b1 = A1 ∧ q.1.one = O1) ∨ Nw W b1) ∧ ((b2 = A2 ∧ q.1.row = O2) ∨ Nw W b2) ∧ Nw W a
section
variable {A1 A2 : Option Addr} {O1 O2 : List Int} {q : Pl.S × List Int} {wr W w9 : World} {m1 m2 m : Nat} {h2 : Hd.H} {N2 rows2 last2 er2 : Int} {b1 b2 a : Option Addr} {e1 e2 c : Nat}
end
end Go.Proofs.Ytflpocnbmpdhiaa

/- Two heads in a block of the call's own; Read of both told as one. No condition. -/
namespace Go.Proofs.Ytflpocnbmpdhiaa
open Go.RowKit
set_option linter.unusedVariables false

def Ha (w : World) (g : Nat) (h k : Hd.H) : Prop := w.heap[g]? = some (.cells #[.int .i64 h.kd, .int .i64 h.w, .int .i64 h.h, .int .i64 h.m, .int .i64 k.kd, .int .i64 k.w, .int .i64 k.h, .int .i64 k.m] 25 (0, 0))
section
variable {w w' : World} {g : Nat} {h k : Hd.H}
theorem Ha.lt (H : Ha w g h k) : g < w.heap.size := (Array.getElem?_eq_some_iff.1 H).1
theorem Ha.later (H : Ha w g h k) (hb : Below w.heap.size w w') : Ha w' g h k := (hb.block g H.lt).trans H
theorem Ha.cells (H : Ha w g h k) : w.cell? ⟨g, 0, none⟩ = some (.int .i64 h.kd) ∧ w.cell? ⟨g, 1, none⟩ = some (.int .i64 h.w) ∧ w.cell? ⟨g, 2, none⟩ = some (.int .i64 h.h) ∧ w.cell? ⟨g, 3, none⟩ = some (.int .i64 h.m) ∧ w.cell? ⟨g, 4, none⟩ = some (.int .i64 k.kd) ∧ w.cell? ⟨g, 5, none⟩ = some (.int .i64 k.w) ∧ w.cell? ⟨g, 6, none⟩ = some (.int .i64 k.h) ∧ w.cell? ⟨g, 7, none⟩ = some (.int .i64 k.m) := by
  have h' : w.heap[g]? = _ := H
  refine ⟨?_, ?_, ?_, ?_, ?_, ?_, ?_, ?_⟩ <;> simp [World.cell?, h']
end
/-- what Read comes to, told by the plain answer -/
def RdV (w : World) (l : List Int) (n : Nat) (u er : Int) (e : Ending) (w' : World) : Prop :=
  ∃ a c, e = .returned (.tuple #[.slice a n c, .int .i64 u, .int .i64 er]) ∧ SlK .u64 w' a n l ∧ Below w.heap.size w w'
theorem rdv {t : List Int × Int × Int} {w w' : World} {e : Ending} (h : RdR t w e w') : RdV w t.1 t.1.length t.2.1 t.2.2 e w' := h
theorem Pl.fin_small {s : S} {x : Nat} (h : s.row.length ≤ x) : (fin s).2.length ≤ x + 1 := by have := fin_grow s; omega
theorem Pl.readF_len : ∀ (x : List Int) (s : S) (i : Nat) (acc : List Int), (readF s i acc x).1.length ≤ acc.length + s.row.length + x.length + 1
  | [], s, i, acc => by
    rw [readF]
    have := fin_grow s
    split
    · simp
    · rw [List.length_append]; simp; omega
  | c :: cs, s, i, acc => by
    rw [readF]
    have hg := put_grow s c
    split
    · simp only [List.length_append, List.length_cons]; omega
    split
    · simp
    · have := readF_len cs (put s c).1 (i + 1) (acc ++ (put s c).2)
      simp only [List.length_append, List.length_cons] at this ⊢
      omega
theorem Pl.readV_len (h : Hd.H) (x : List Int) : (readV h x).1.length ≤ x.length + 1 := by
  unfold readV
  split
  · have := readF_len x (new h) 0 []
    simp [new] at this ⊢; omega
  · simp
theorem same_yes (a b : Option Addr) (n ca cb : Nat) (l : List Int) (w : World) (hn : n ≤ 9223372036854775807) (ha : SlK .u64 w a n l) (hb : SlK .u64 w b n l) :
    Calls Try.prog 27 #[.slice a n ca, .slice b n cb] w fun e w' => e = .returned (.bool true) ∧ Below w.heap.size w w' := by
  have h := Su.sameRow_any a b n n ca cb l l w hn ha hb
  rw [decide_eq_true rfl] at h
  exact h
end Go.Proofs.Ytflpocnbmpdhiaa
