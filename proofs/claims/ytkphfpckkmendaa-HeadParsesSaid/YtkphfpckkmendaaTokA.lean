/- A reader of a number in a block of its own, over any memory: what it is made of, and what its parts do. Condition: its greatest number fits. -/
import Derived.Test.YtkphfpckkmendaaTokMath
import Derived.Test.YtkphfpckkmendaaBox
import Derived.Test.YtkphfpckkmendaaIn
import Derived.BigQuiet
import Derived.Deep.QuietTactic
import Derived.Laws.EntriesVeiled
namespace Go.Proofs.Ytkphfpckkmendaa
open Go.RowKit
set_option linter.unusedVariables false

/-- the six cells of a reader -/
def RdC (w : World) (b : Nat) (m v : Int) (g : Bool) (t f : Int) (x : Value) : Prop :=
  w.heap[b]? = some (.cells #[.int .i64 m, .int .i64 v, .bool g, .int .i64 t, .int .i64 f, x] 78 (0, 0))
section
variable {w w' : World} {b : Nat} {m v : Int} {g : Bool} {t f : Int} {x : Value}
theorem RdC.lt (h : RdC w b m v g t f x) : b < w.heap.size := (Array.getElem?_eq_some_iff.1 h).1
theorem RdC.later (h : RdC w b m v g t f x) (hb : Below w.heap.size w w') : RdC w' b m v g t f x := (hb.block b h.lt).trans h
theorem RdC.kept {row : Option Nat} (h : RdC w b m v g t f x) (hg : w.grownBy w' row) (hne : some b ≠ row) : RdC w' b m v g t f x := (hg.block b h.lt hne).trans h
theorem RdC.c0 (h : RdC w b m v g t f x) : w.cell? ⟨b, 0, none⟩ = some (.int .i64 m) := by have h' : w.heap[b]? = _ := h; simp [World.cell?, h']
theorem RdC.c1 (h : RdC w b m v g t f x) : w.cell? ⟨b, 1, none⟩ = some (.int .i64 v) := by have h' : w.heap[b]? = _ := h; simp [World.cell?, h']
theorem RdC.c2 (h : RdC w b m v g t f x) : w.cell? ⟨b, 2, none⟩ = some (.bool g) := by have h' : w.heap[b]? = _ := h; simp [World.cell?, h']
theorem RdC.c3 (h : RdC w b m v g t f x) : w.cell? ⟨b, 3, none⟩ = some (.int .i64 t) := by have h' : w.heap[b]? = _ := h; simp [World.cell?, h']
theorem RdC.c4 (h : RdC w b m v g t f x) : w.cell? ⟨b, 4, none⟩ = some (.int .i64 f) := by have h' : w.heap[b]? = _ := h; simp [World.cell?, h']
theorem RdC.c5 (h : RdC w b m v g t f x) : w.cell? ⟨b, 5, none⟩ = some x := by have h' : w.heap[b]? = _ := h; simp [World.cell?, h']
theorem RdC.fr (h : RdC w b m v g t f x) (o : Nat) : w.frozen? ⟨b, o, none⟩ = false := by have h' : w.heap[b]? = _ := h; simp [World.frozen?, h']
theorem RdC.drewN (h : RdC w b m v g t f x) (n : Nat) : RdC (w.drewN n) b m v g t f x := h
theorem RdC.put1 (h : RdC w b m v g t f x) (y : Int) : RdC (w.setCell ⟨b, 1, none⟩ (.int .i64 y)) b m y g t f x := by
  have h' : w.heap[b]? = _ := h
  simpa [RdC] using Go.heap_setCell_same w b 1 _ _ (.int .i64 y) h'
theorem RdC.put2 (h : RdC w b m v g t f x) (y : Bool) : RdC (w.setCell ⟨b, 2, none⟩ (.bool y)) b m v y t f x := by
  have h' : w.heap[b]? = _ := h
  simpa [RdC] using Go.heap_setCell_same w b 2 _ _ (.bool y) h'
theorem RdC.put3 (h : RdC w b m v g t f x) (y : Int) : RdC (w.setCell ⟨b, 3, none⟩ (.int .i64 y)) b m v g y f x := by
  have h' : w.heap[b]? = _ := h
  simpa [RdC] using Go.heap_setCell_same w b 3 _ _ (.int .i64 y) h'
theorem RdC.put4 (h : RdC w b m v g t f x) (y : Int) : RdC (w.setCell ⟨b, 4, none⟩ (.int .i64 y)) b m v g t y x := by
  have h' : w.heap[b]? = _ := h
  simpa [RdC] using Go.heap_setCell_same w b 4 _ _ (.int .i64 y) h'
theorem RdC.put5 (h : RdC w b m v g t f x) (y : Value) : RdC (w.setCell ⟨b, 5, none⟩ y) b m v g t f y := by
  have h' : w.heap[b]? = _ := h
  simpa [RdC] using Go.heap_setCell_same w b 5 _ _ y h'
end
theorem grown_set (W : World) (b o : Nat) (v : Value) : W.grownBy (W.setCell ⟨b, o, none⟩ v) (some b) :=
  ⟨rfl, rfl, rfl, by simp, fun k hk hn => Below.heap_setCell W _ v k (by intro e; exact hn (by rw [e]))⟩
theorem grown_drew (W : World) (n : Nat) (row : Option Nat) : W.grownBy (W.drewN n) row := ⟨rfl, rfl, rfl, Nat.le_refl _, fun _ _ _ => rfl⟩
def nxA (b : Nat) : Value := .func (.func 41) #[.pointer (some ⟨b, 0, none⟩)] #[]
def nxR (b : Nat) : Value := .func (.func 43) #[.pointer (some ⟨b, 0, none⟩)] #[]
def nxD (b : Nat) : Value := .func (.func 44) #[.pointer (some ⟨b, 0, none⟩)] #[]
def nxB (b : Nat) : Value := .func (.func 47) #[.pointer (some ⟨b, 0, none⟩)] #[]

set_option maxHeartbeats 1000000 in
theorem tokNew_any (m : Int) (w : World) :
    Calls Try.prog 37 #[.int .i64 m] w fun e w' => e = .returned (.pointer (some ⟨w.heap.size, 0, none⟩)) ∧ RdC w' w.heap.size m 0 false 0 0 (nxA w.heap.size) ∧ Below w.heap.size w w' := by
  go_enter Try.func37, Try.ntmps37
  go_wp2
  go_ret
  exact ⟨rfl, World.alloc_heap_new w _, by go_grown⟩

theorem Tk.blank_yes {c : Int} (h : c = 32 ∨ (9 ≤ c ∧ c ≤ 13)) : Tk.blank c = true := by unfold Tk.blank; exact decide_eq_true h
theorem Tk.blank_no {c : Int} (h : ¬ (c = 32 ∨ (9 ≤ c ∧ c ≤ 13))) : Tk.blank c = false := by unfold Tk.blank; exact decide_eq_false h
theorem ret_b {a b : Bool} (h : a = b) : Ending.returned (.bool a) = .returned (.bool b) := by rw [h]
set_option maxHeartbeats 1000000 in
theorem blank_any (c : Int) (c0 : 0 ≤ c) (c1 : c ≤ 255) (w : World) :
    Calls Try.prog 34 #[.int .u8 c] w fun e w' => e = .returned (.bool (Tk.blank c)) ∧ w = w' := by
  by_cases h1 : c < 9
  · have X := Lib.hid (Tk.blank_no (c := c) (by omega))
    have h2 : (c == 32) = false := by simp; omega
    have h3 : decide (9 ≤ c) = false := decide_eq_false (by omega)
    clear c0 c1
    go_enter Try.func34, Try.ntmps34
    go_wp2
    go_ret
    exact ⟨ret_b X.out.symm, rfl⟩
  by_cases h2 : c ≤ 13
  · have X := Lib.hid (Tk.blank_yes (c := c) (by omega))
    have h3 : decide (9 ≤ c) = true := decide_eq_true (by omega)
    have h4 : decide (c ≤ 13) = true := decide_eq_true (by omega)
    have h5 : 9 ≤ c := by omega
    clear h1
    go_enter Try.func34, Try.ntmps34
    go_wp2
    go_ret
    exact ⟨ret_b X.out.symm, rfl⟩
  have h3 : decide (9 ≤ c) = true := decide_eq_true (by omega)
  have h4 : decide (c ≤ 13) = false := decide_eq_false (by omega)
  have h6 : 9 ≤ c := by omega
  by_cases h5 : c = 32
  · subst h5
    have X := Lib.hid (Tk.blank_yes (c := 32) (by omega))
    go_enter Try.func34, Try.ntmps34
    go_wp2
    go_ret
    exact ⟨ret_b X.out.symm, rfl⟩
  · have X := Lib.hid (Tk.blank_no (c := c) (by omega))
    have h7 : (c == 32) = false := by simp; omega
    go_enter Try.func34, Try.ntmps34
    go_wp2
    go_ret
    exact ⟨ret_b X.out.symm, rfl⟩
set_option maxHeartbeats 1000000 in
theorem refBlank_any (c : Int) (c0 : 0 ≤ c) (c1 : c ≤ 255) (w : World) :
    Calls Try.prog 21 #[.int .u8 c] w fun e w' => e = .returned (.bool (Tk.blank c)) ∧ w = w' := by
  by_cases h5 : c = 32
  · subst h5
    have X := Lib.hid (Tk.blank_yes (c := 32) (by omega))
    go_enter Try.func21, Try.ntmps21
    go_wp2
    go_ret
    exact ⟨ret_b X.out.symm, rfl⟩
  have h7 : (c == 32) = false := by simp; omega
  by_cases h1 : c < 9
  · have X := Lib.hid (Tk.blank_no (c := c) (by omega))
    have h3 : decide (9 ≤ c) = false := decide_eq_false (by omega)
    clear c0 c1
    go_enter Try.func21, Try.ntmps21
    go_wp2
    go_ret
    exact ⟨ret_b X.out.symm, rfl⟩
  have h3 : decide (9 ≤ c) = true := decide_eq_true (by omega)
  have h6 : 9 ≤ c := by omega
  by_cases h2 : c ≤ 13
  · have X := Lib.hid (Tk.blank_yes (c := c) (by omega))
    have h4 : decide (c ≤ 13) = true := decide_eq_true (by omega)
    go_enter Try.func21, Try.ntmps21
    go_wp2
    go_ret
    exact ⟨ret_b X.out.symm, rfl⟩
  · have X := Lib.hid (Tk.blank_no (c := c) (by omega))
    have h4 : decide (c ≤ 13) = false := decide_eq_false (by omega)
    go_enter Try.func21, Try.ntmps21
    go_wp2
    go_ret
    exact ⟨ret_b X.out.symm, rfl⟩
set_option maxHeartbeats 1000000 in
theorem ends_any (c : Int) (c0 : 0 ≤ c) (c1 : c ≤ 255) (w : World) :
    Calls Try.prog 46 #[.int .u8 c] w fun e w' => e = .returned (.bool (Tk.line c)) ∧ w = w' := by
  by_cases h5 : c = 10
  · subst h5
    go_enter Try.func46, Try.ntmps46
    go_wp2
    go_ret
    exact ⟨rfl, rfl⟩
  have h7 : (c == 10) = false := by simp; omega
  by_cases h6 : c = 13
  · subst h6
    go_enter Try.func46, Try.ntmps46
    go_wp2
    go_ret
    exact ⟨rfl, rfl⟩
  · have h8 : (c == 13) = false := by simp; omega
    have X : Hid (Tk.line c = false) := by show _ = _; unfold Tk.line; exact decide_eq_false (by omega)
    go_enter Try.func46, Try.ntmps46
    go_wp2
    go_ret
    exact ⟨ret_b X.out.symm, rfl⟩
set_option maxHeartbeats 1000000 in
/-- a digit is taken -/
theorem take_yes (w : World) (b : Nat) (m v : Int) (g : Bool) (t f : Int) (x : Value) (h : RdC w b m v g t f x) (v0 : 0 ≤ v) (v1 : v ≤ m) (m1 : m ≤ 4611686018427387903) (c : Int) (c0 : 0 ≤ c) (c1 : c ≤ 255) (n : Int) (hs : Nu.stepV v c m = (n, 0)) :
    Calls Try.prog 45 #[.pointer (some ⟨b, 0, none⟩), .int .u8 c] w fun e w' => e = .returned (.int .i64 0) ∧ RdC w' b m n true t f x ∧ w.grownBy w' (some b) := by
  have hc0 := h.c0
  have hc1 := h.c1
  have hc2 := h.c2
  have HS : Hid (∀ W, Calls Try.prog 48 #[.int .i64 v, .int .u8 c, .int .i64 m] W fun r w' => r = .returned (.tuple #[.int .i64 n, .int .i64 0]) ∧ W = w') := fun W => step_two v c m v0 v1 m1 c0 c1 n 0 hs W
  have f1 := h.fr 1
  have f2 := h.fr 2
  clear hs
  go_enter Try.func45, Try.ntmps45
  go_wp2_with (go_quiet ((go_at_call 48; exact Calls.quiet_of_same ((HS.out _).mono fun e w' hh => ⟨hh.1, hh.2.symm⟩))))
  go_ret
  exact ⟨rfl, ((h.drewN _).put1 _).put2 _, ((grown_drew _ _ _).trans (grown_set _ _ _ _)).trans (grown_set _ _ _ _)⟩
set_option maxHeartbeats 1000000 in
/-- a byte is refused -/
theorem take_no (w : World) (b : Nat) (m v : Int) (g : Bool) (t f : Int) (x : Value) (h : RdC w b m v g t f x) (v0 : 0 ≤ v) (v1 : v ≤ m) (m1 : m ≤ 4611686018427387903) (c : Int) (c0 : 0 ≤ c) (c1 : c ≤ 255) (n e : Int) (hs : Nu.stepV v c m = (n, e)) (he : e ≠ 0) :
    Calls Try.prog 45 #[.pointer (some ⟨b, 0, none⟩), .int .u8 c] w fun r w' => r = .returned (.int .i64 2) ∧ RdC w' b m v g t e x ∧ w.grownBy w' (some b) := by
  have hc0 := h.c0
  have hc1 := h.c1
  have HS : Hid (∀ W, Calls Try.prog 48 #[.int .i64 v, .int .u8 c, .int .i64 m] W fun r w' => r = .returned (.tuple #[.int .i64 n, .int .i64 e]) ∧ W = w') := fun W => step_two v c m v0 v1 m1 c0 c1 n e hs W
  have f4 := h.fr 4
  have hc4 := h.c4
  have ke : (e != 0) = true := by simpa using he
  clear hs he
  go_enter Try.func45, Try.ntmps45
  go_wp2_with (go_quiet ((go_at_call 48; exact Calls.quiet_of_same ((HS.out _).mono fun e w' hh => ⟨hh.1, hh.2.symm⟩))))
  go_ret
  exact ⟨rfl, (h.drewN _).put4 _, (grown_drew _ _ _).trans (grown_set _ _ _ _)⟩
end Go.Proofs.Ytkphfpckkmendaa
