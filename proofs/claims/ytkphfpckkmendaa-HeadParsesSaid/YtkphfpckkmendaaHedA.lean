/- A reader of a head in a block of its own, over any memory: what it is made of; where a number may be at most, as a function made for it. No condition. -/
import Derived.Test.YtkphfpckkmendaaHedMath
import Derived.Test.YtkphfpckkmendaaTokD
import Derived.Deep.RegionHeld3
namespace Go.Proofs.Ytkphfpckkmendaa
open Go.RowKit
set_option linter.unusedVariables false

/-- the twelve cells of a reader of a head -/
def HdC (w : World) (b : Nat) (kd m0 m1 m2 v0 v1 v2 i : Int) (nv : Value) (t f : Int) (x : Value) : Prop :=
  w.heap[b]? = some (.cells #[.int .i64 kd, .int .i64 m0, .int .i64 m1, .int .i64 m2, .int .i64 v0, .int .i64 v1, .int .i64 v2, .int .i64 i, nv, .int .i64 t, .int .i64 f, x] 67 (0, 0))
section
variable {w w' : World} {b : Nat} {kd m0 m1 m2 v0 v1 v2 i : Int} {nv : Value} {t f : Int} {x : Value}
theorem HdC.lt (h : HdC w b kd m0 m1 m2 v0 v1 v2 i nv t f x) : b < w.heap.size := (Array.getElem?_eq_some_iff.1 h).1
theorem HdC.later (h : HdC w b kd m0 m1 m2 v0 v1 v2 i nv t f x) (hb : Below w.heap.size w w') : HdC w' b kd m0 m1 m2 v0 v1 v2 i nv t f x := (hb.block b h.lt).trans h
theorem HdC.kept {row : Option Nat} (h : HdC w b kd m0 m1 m2 v0 v1 v2 i nv t f x) (hg : w.grownBy w' row) (hne : some b ≠ row) : HdC w' b kd m0 m1 m2 v0 v1 v2 i nv t f x := (hg.block b h.lt hne).trans h
theorem HdC.sep {Z : Nat → Prop} (h : HdC w b kd m0 m1 m2 v0 v1 v2 i nv t f x) (hs : Sep Z w w') (hz : ¬ Z b) : HdC w' b kd m0 m1 m2 v0 v1 v2 i nv t f x := (hs.block b h.lt hz).trans h
theorem HdC.drewN (h : HdC w b kd m0 m1 m2 v0 v1 v2 i nv t f x) (k : Nat) : HdC (w.drewN k) b kd m0 m1 m2 v0 v1 v2 i nv t f x := h
theorem HdC.fr (h : HdC w b kd m0 m1 m2 v0 v1 v2 i nv t f x) (o : Nat) : w.frozen? ⟨b, o, none⟩ = false := by have h' : w.heap[b]? = _ := h; simp [World.frozen?, h']
theorem HdC.c0 (h : HdC w b kd m0 m1 m2 v0 v1 v2 i nv t f x) : w.cell? ⟨b, 0, none⟩ = some (.int .i64 kd) := by have h' : w.heap[b]? = _ := h; simp [World.cell?, h']
theorem HdC.c1 (h : HdC w b kd m0 m1 m2 v0 v1 v2 i nv t f x) : w.cell? ⟨b, 1, none⟩ = some (.int .i64 m0) := by have h' : w.heap[b]? = _ := h; simp [World.cell?, h']
theorem HdC.c2 (h : HdC w b kd m0 m1 m2 v0 v1 v2 i nv t f x) : w.cell? ⟨b, 2, none⟩ = some (.int .i64 m1) := by have h' : w.heap[b]? = _ := h; simp [World.cell?, h']
theorem HdC.c3 (h : HdC w b kd m0 m1 m2 v0 v1 v2 i nv t f x) : w.cell? ⟨b, 3, none⟩ = some (.int .i64 m2) := by have h' : w.heap[b]? = _ := h; simp [World.cell?, h']
theorem HdC.c4 (h : HdC w b kd m0 m1 m2 v0 v1 v2 i nv t f x) : w.cell? ⟨b, 4, none⟩ = some (.int .i64 v0) := by have h' : w.heap[b]? = _ := h; simp [World.cell?, h']
theorem HdC.c5 (h : HdC w b kd m0 m1 m2 v0 v1 v2 i nv t f x) : w.cell? ⟨b, 5, none⟩ = some (.int .i64 v1) := by have h' : w.heap[b]? = _ := h; simp [World.cell?, h']
theorem HdC.c6 (h : HdC w b kd m0 m1 m2 v0 v1 v2 i nv t f x) : w.cell? ⟨b, 6, none⟩ = some (.int .i64 v2) := by have h' : w.heap[b]? = _ := h; simp [World.cell?, h']
theorem HdC.c7 (h : HdC w b kd m0 m1 m2 v0 v1 v2 i nv t f x) : w.cell? ⟨b, 7, none⟩ = some (.int .i64 i) := by have h' : w.heap[b]? = _ := h; simp [World.cell?, h']
theorem HdC.c8 (h : HdC w b kd m0 m1 m2 v0 v1 v2 i nv t f x) : w.cell? ⟨b, 8, none⟩ = some (nv) := by have h' : w.heap[b]? = _ := h; simp [World.cell?, h']
theorem HdC.c9 (h : HdC w b kd m0 m1 m2 v0 v1 v2 i nv t f x) : w.cell? ⟨b, 9, none⟩ = some (.int .i64 t) := by have h' : w.heap[b]? = _ := h; simp [World.cell?, h']
theorem HdC.c10 (h : HdC w b kd m0 m1 m2 v0 v1 v2 i nv t f x) : w.cell? ⟨b, 10, none⟩ = some (.int .i64 f) := by have h' : w.heap[b]? = _ := h; simp [World.cell?, h']
theorem HdC.c11 (h : HdC w b kd m0 m1 m2 v0 v1 v2 i nv t f x) : w.cell? ⟨b, 11, none⟩ = some (x) := by have h' : w.heap[b]? = _ := h; simp [World.cell?, h']
theorem HdC.put0 (h : HdC w b kd m0 m1 m2 v0 v1 v2 i nv t f x) (y : Int) : HdC (w.setCell ⟨b, 0, none⟩ (.int .i64 y)) b y m0 m1 m2 v0 v1 v2 i nv t f x := by
  have h' : w.heap[b]? = _ := h
  simpa [HdC] using Go.heap_setCell_same w b 0 _ _ (.int .i64 y) h'
theorem HdC.put4 (h : HdC w b kd m0 m1 m2 v0 v1 v2 i nv t f x) (y : Int) : HdC (w.setCell ⟨b, 4, none⟩ (.int .i64 y)) b kd m0 m1 m2 y v1 v2 i nv t f x := by
  have h' : w.heap[b]? = _ := h
  simpa [HdC] using Go.heap_setCell_same w b 4 _ _ (.int .i64 y) h'
theorem HdC.put5 (h : HdC w b kd m0 m1 m2 v0 v1 v2 i nv t f x) (y : Int) : HdC (w.setCell ⟨b, 5, none⟩ (.int .i64 y)) b kd m0 m1 m2 v0 y v2 i nv t f x := by
  have h' : w.heap[b]? = _ := h
  simpa [HdC] using Go.heap_setCell_same w b 5 _ _ (.int .i64 y) h'
theorem HdC.put6 (h : HdC w b kd m0 m1 m2 v0 v1 v2 i nv t f x) (y : Int) : HdC (w.setCell ⟨b, 6, none⟩ (.int .i64 y)) b kd m0 m1 m2 v0 v1 y i nv t f x := by
  have h' : w.heap[b]? = _ := h
  simpa [HdC] using Go.heap_setCell_same w b 6 _ _ (.int .i64 y) h'
theorem HdC.put7 (h : HdC w b kd m0 m1 m2 v0 v1 v2 i nv t f x) (y : Int) : HdC (w.setCell ⟨b, 7, none⟩ (.int .i64 y)) b kd m0 m1 m2 v0 v1 v2 y nv t f x := by
  have h' : w.heap[b]? = _ := h
  simpa [HdC] using Go.heap_setCell_same w b 7 _ _ (.int .i64 y) h'
theorem HdC.put8 (h : HdC w b kd m0 m1 m2 v0 v1 v2 i nv t f x) (y : Value) : HdC (w.setCell ⟨b, 8, none⟩ (y)) b kd m0 m1 m2 v0 v1 v2 i y t f x := by
  have h' : w.heap[b]? = _ := h
  simpa [HdC] using Go.heap_setCell_same w b 8 _ _ (y) h'
theorem HdC.put9 (h : HdC w b kd m0 m1 m2 v0 v1 v2 i nv t f x) (y : Int) : HdC (w.setCell ⟨b, 9, none⟩ (.int .i64 y)) b kd m0 m1 m2 v0 v1 v2 i nv y f x := by
  have h' : w.heap[b]? = _ := h
  simpa [HdC] using Go.heap_setCell_same w b 9 _ _ (.int .i64 y) h'
theorem HdC.put10 (h : HdC w b kd m0 m1 m2 v0 v1 v2 i nv t f x) (y : Int) : HdC (w.setCell ⟨b, 10, none⟩ (.int .i64 y)) b kd m0 m1 m2 v0 v1 v2 i nv t y x := by
  have h' : w.heap[b]? = _ := h
  simpa [HdC] using Go.heap_setCell_same w b 10 _ _ (.int .i64 y) h'
theorem HdC.put11 (h : HdC w b kd m0 m1 m2 v0 v1 v2 i nv t f x) (y : Value) : HdC (w.setCell ⟨b, 11, none⟩ (y)) b kd m0 m1 m2 v0 v1 v2 i nv t f y := by
  have h' : w.heap[b]? = _ := h
  simpa [HdC] using Go.heap_setCell_same w b 11 _ _ (y) h'
end
def nxH1 (b : Nat) : Value := .func (.func 26) #[.pointer (some ⟨b, 0, none⟩)] #[]
theorem enH1 : ∀ args w, (callFunc 26 args).run Try.prog w = .ok (.enter 26 args) w := enters_of Try.func26 (by kernel_rfl) rfl
def nxH2 (b : Nat) : Value := .func (.func 32) #[.pointer (some ⟨b, 0, none⟩)] #[]
theorem enH2 : ∀ args w, (callFunc 32 args).run Try.prog w = .ok (.enter 32 args) w := enters_of Try.func32 (by kernel_rfl) rfl
def nxH3 (b : Nat) : Value := .func (.func 33) #[.pointer (some ⟨b, 0, none⟩)] #[]
theorem enH3 : ∀ args w, (callFunc 33 args).run Try.prog w = .ok (.enter 33 args) w := enters_of Try.func33 (by kernel_rfl) rfl
def nxHN (b : Nat) : Value := .func (.func 36) #[.pointer (some ⟨b, 0, none⟩)] #[]
theorem enHN : ∀ args w, (callFunc 36 args).run Try.prog w = .ok (.enter 36 args) w := enters_of Try.func36 (by kernel_rfl) rfl

/-- a function that brings a number to where it may be -/
def UpV (w : World) (v : Value) (m : Int) : Prop := ∃ b, v = .func (.func 30) #[] #[.pointer (some ⟨b, 0, none⟩)] ∧ w.cell? ⟨b, 0, none⟩ = some (.int .i64 m)
theorem UpV.later {w w' : World} {v : Value} {m : Int} (h : UpV w v m) (hb : Below w.heap.size w w') : UpV w' v m := by
  obtain ⟨b, h1, h2⟩ := h; exact ⟨b, h1, cell_later hb h2⟩
theorem enU : ∀ args w, (callFunc 30 args).run Try.prog w = .ok (.enter 30 args) w := enters_of Try.func30 (by kernel_rfl) rfl
set_option maxHeartbeats 1000000 in
theorem upTo_any (m : Int) (w : World) :
    Calls Try.prog 25 #[.int .i64 m] w fun e w' => ∃ v, e = .returned v ∧ UpV w' v m ∧ Below w.heap.size w w' := by
  go_enter Try.func25, Try.ntmps25
  go_wp2
  go_ret
  exact ⟨_, rfl, ⟨_, rfl, by simp [go_sem]⟩, by go_grown⟩
set_option maxHeartbeats 1000000 in
theorem upTo1_any (n m : Int) (m1 : 1 ≤ m) (b : Nat) (w : World) (hc : w.cell? ⟨b, 0, none⟩ = some (.int .i64 m)) :
    Calls Try.prog 30 #[.int .i64 n, .pointer (some ⟨b, 0, none⟩)] w fun e w' => e = .returned (.int .i64 (Hd.lim n m)) ∧ w = w' := by
  by_cases h1 : n < 1
  · have X := Lib.hid (show Hd.lim n m = 1 by unfold Hd.lim; rw [if_pos h1])
    have h2 : ¬ m < 1 := by omega
    go_enter Try.func30, Try.ntmps30
    go_wp2
    go_ret
    exact ⟨Ar.ret_i X.out.symm, rfl⟩
  by_cases h2 : m < n
  · have X := Lib.hid (show Hd.lim n m = m by unfold Hd.lim; rw [if_neg h1, if_pos h2])
    go_enter Try.func30, Try.ntmps30
    go_wp2
    go_ret
    exact ⟨Ar.ret_i X.out.symm, rfl⟩
  · have X := Lib.hid (show Hd.lim n m = n by unfold Hd.lim; rw [if_neg h1, if_neg h2])
    go_enter Try.func30, Try.ntmps30
    go_wp2
    go_ret
    exact ⟨Ar.ret_i X.out.symm, rfl⟩
end Go.Proofs.Ytkphfpckkmendaa
