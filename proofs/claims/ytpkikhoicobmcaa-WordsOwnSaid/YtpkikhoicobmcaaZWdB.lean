/- The automaton of a set; a scanner. No condition. -/
import Derived.Test.YtpkikhoicobmcaaZWdA
import Derived.Test.YtpkikhoicobmcaaZgAB
import Derived.Test.YtpkikhoicobmcaaZgAC
namespace Go.Proofs.Ytpkikhoicobmcaa
open Go.RowKit
set_option linter.unusedVariables false
open Tr Au Wd
namespace Wd
/-- a scanner: its automaton, and the state -/
def ScX (w : World) (cb ab : Nat) (st : Int) : Prop := w.heap[cb]? = some (.cells #[.pointer (some ⟨ab, 0, none⟩), .int .i64 st] 73 (0, 0))
section
variable {w w' : World} {cb ab : Nat} {st : Int}
theorem ScX.lt (h : ScX w cb ab st) : cb < w.heap.size := (Array.getElem?_eq_some_iff.1 h).1
theorem ScX.of_block (h : ScX w cb ab st) (hb : w'.heap[cb]? = w.heap[cb]?) : ScX w' cb ab st := hb.trans h
theorem ScX.later (h : ScX w cb ab st) (hb : Below w.heap.size w w') : ScX w' cb ab st := h.of_block (hb.block cb h.lt)
theorem ScX.cells (h : ScX w cb ab st) : w.cell? ⟨cb, 0, none⟩ = some (.pointer (some ⟨ab, 0, none⟩)) ∧ w.cell? ⟨cb, 1, none⟩ = some (.int .i64 st) := by
  have hb : w.heap[cb]? = _ := h
  refine ⟨?_, ?_⟩ <;> simp [World.cell?, hb]
theorem ScX.fr (h : ScX w cb ab st) (i : Nat) : w.frozen? ⟨cb, i, none⟩ = false := by
  have hb : w.heap[cb]? = _ := h
  simp [World.frozen?, hb]
theorem ScX.set (h : ScX w cb ab st) (x : Int) : ScX (w.setCell ⟨cb, 1, none⟩ (.int .i64 x)) cb ab x := by
  have := set_same 1 (.int .i64 x) (show w.heap[cb]? = _ from h)
  simpa [ScX] using this
end
/-- the automaton of a set -/
def AuS (w : World) (Ba ab xb : Nat) (rva : Nat → Value) (S : LL) : Prop := AuP w Ba ab xb rva (pathsOf S) S
def Fas (ab xb : Nat) (rva : Nat → Value) (S : LL) (g : Nat) : Prop := Fa ab xb (pathsOf S).length rva g
theorem AuS.lt {w : World} {Ba ab xb : Nat} {rva : Nat → Value} {S : LL} (h : AuS w Ba ab xb rva S) {g : Nat} (hg : Fas ab xb rva S g) : Ba ≤ g ∧ g < w.heap.size := AuX.lt h hg
theorem AuS.of_blocks {w w' : World} {Ba ab xb : Nat} {rva : Nat → Value} {S : LL} (h : AuS w Ba ab xb rva S) (hb : ∀ g, Fas ab xb rva S g → w'.heap[g]? = w.heap[g]?) : AuS w' Ba ab xb rva S := AuX.of_blocks h hb
theorem AuS.later {w w' : World} {Ba ab xb : Nat} {rva : Nat → Value} {S : LL} (h : AuS w Ba ab xb rva S) (hb : Below w.heap.size w w') : AuS w' Ba ab xb rva S := AuX.later h hb
theorem AuS.sep {w w' : World} {Ba ab xb : Nat} {rva : Nat → Value} {S : LL} {F : Nat → Prop} (h : AuS w Ba ab xb rva S) (hs : Sep F w w') (hF : ∀ g, Fas ab xb rva S g → ¬ F g) : AuS w' Ba ab xb rva S := h.of_blocks fun g hg => hs.block g (h.lt hg).2 (hF g hg)
end Wd
/-- what finder hands back -/
def FindR (w : World) (B sb tb nb nc mb : Nat) (rv : Nat → Value) (S : LL) (e : Ending) (w' : World) : Prop := ∃ Ba ab xb rva, e = .returned (.pointer (some ⟨ab, 0, none⟩)) ∧ AuS w' Ba ab xb rva S ∧ (∀ g, Fas ab xb rva S g → w.heap.size ≤ g) ∧ WsX w' B sb tb nb nc mb rv (.pointer (some ⟨ab, 0, none⟩)) S ∧ Sep (fun g => g = sb) w w'
section
variable {w : World} {B sb tb nb nc mb : Nat} {rv : Nat → Value} {av : Value} {S : LL}
theorem ptr_eq_nil (w : World) : (binOp .eql 60 (.pointer none) (.pointer none)).run Try.prog w = .ok (.bool true) w := by kernel_rfl
theorem ptr_ne_nil (a : Addr) (w : World) : (binOp .eql 60 (.pointer (some a)) (.pointer none)).run Try.prog w = .ok (.bool false) w := by kernel_rfl
set_option maxHeartbeats 1000000 in
theorem finder_new (h : WsX w B sb tb nb nc mb rv (.pointer none) S) (hS : Ok S) (hl : S.length ≤ 100) (hd : ∀ r ∈ S, r.length ≤ 5) : Calls Try.prog 34 #[.pointer (some ⟨sb, 0, none⟩)] w (FindR w B sb tb nb nc mb rv S) := by
  obtain ⟨c0, _, _, c3⟩ := h.cells
  have hpl := paths_len hd
  have HN := Lib.hid (new_au h.tree (paths_iw hS) (by omega) (by omega))
  have HX := Lib.hid h
  have f3 := h.fr 3
  have hsb := (h.lt (.inr (.inl rfl))).2
  clear h
  go_enter Try.func34, Try.ntmps34
  go_wp2_with (go_at_call 49; refine HN.out.mono ?_; rintro e w1 ⟨ab, xb, rva, rfl, hA, hb⟩; have HA := Lib.hid hA; have HB := Lib.hid hb; have q3 := cell_later hb c3; have qf := (hb.frozen (p := ⟨sb, 3, none⟩) hsb).trans f3; clear hA hb)
  go_ret
  have hx := (HX.out.later HB.out).setAv (.pointer (some ⟨ab, 0, none⟩))
  have hA : AuS w1 w.heap.size ab xb rva S := HA.out
  have hne : ∀ g, Fas ab xb rva S g → w.heap.size ≤ g := fun g hg => (hA.lt hg).1
  exact ⟨_, ab, xb, rva, rfl, hA.of_blocks (fun g hg => Below.heap_setCell w1 _ _ g fun e => by have := hne g hg; simp at e; omega), hne, hx, ((sep_of HB.out).trans (Sep.setCell (Z := fun g => g = sb) w1 rfl _))⟩
theorem finder_old {ab : Nat} (h : WsX w B sb tb nb nc mb rv (.pointer (some ⟨ab, 0, none⟩)) S) : Calls Try.prog 34 #[.pointer (some ⟨sb, 0, none⟩)] w fun e w' => e = .returned (.pointer (some ⟨ab, 0, none⟩)) ∧ w = w' := by
  obtain ⟨c0, _, _, c3⟩ := h.cells
  clear h
  go_enter Try.func34, Try.ntmps34
  go_wp2
  go_ret
  exact ⟨rfl, rfl⟩
end
end Go.Proofs.Ytpkikhoicobmcaa
