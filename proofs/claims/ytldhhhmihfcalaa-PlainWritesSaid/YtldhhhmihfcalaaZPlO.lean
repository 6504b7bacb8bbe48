/- Two heads in a block of the call's own; Read of both told as one. No condition. -/
import Derived.Test.YtldhhhmihfcalaaZgAF
import Derived.Test.YtldhhhmihfcalaaZPlL
namespace Go.Proofs.Ytldhhhmihfcalaa
open Go.RowKit
set_option linter.unusedVariables false

def Ha (w : World) (g : Nat) (h k : Hd.H) : Prop := w.heap[g]? = some (.cells #[.int .i64 h.kd, .int .i64 h.w, .int .i64 h.h, .int .i64 h.m, .int .i64 k.kd, .int .i64 k.w, .int .i64 k.h, .int .i64 k.m] 42 (0, 0))
section
variable {w w' : World} {g : Nat} {h k : Hd.H}
theorem Ha.lt (H : Ha w g h k) : g < w.heap.size := (Array.getElem?_eq_some_iff.1 H).1
theorem Ha.later (H : Ha w g h k) (hb : Below w.heap.size w w') : Ha w' g h k := (hb.block g H.lt).trans H
theorem Ha.cells (H : Ha w g h k) : w.cell? ⟨g, 0, none⟩ = some (.int .i64 h.kd) ∧ w.cell? ⟨g, 1, none⟩ = some (.int .i64 h.w) ∧ w.cell? ⟨g, 2, none⟩ = some (.int .i64 h.h) ∧ w.cell? ⟨g, 3, none⟩ = some (.int .i64 h.m) ∧ w.cell? ⟨g, 4, none⟩ = some (.int .i64 k.kd) ∧ w.cell? ⟨g, 5, none⟩ = some (.int .i64 k.w) ∧ w.cell? ⟨g, 6, none⟩ = some (.int .i64 k.h) ∧ w.cell? ⟨g, 7, none⟩ = some (.int .i64 k.m) := by
  have h' : w.heap[g]? = _ := H
  refine ⟨?_, ?_, ?_, ?_, ?_, ?_, ?_, ?_⟩ <;> simp [World.cell?, h']
end
/-- what Read comes to, told by the plain answer -/
def RdV (w : World) (l : List Int) (n : Nat) (u er : Int) (e : Ending) (w' : World) : Prop :=
  ∃ a c, e = .returned (.tuple #[.slice a n c, .int .i64 u, .int .i64 er]) ∧ SlK .u64 w' a n l ∧ Below w.heap.size w w'
theorem rdv {t : List Int × Int × Int} {w w' : World} {e : Ending} (h : RdR t w e w') : RdV w t.1 t.1.length t.2.1 t.2.2 e w' := h
theorem Pl.fin_small {s : S} {x : Nat} (h : s.row.length ≤ x) : (fin s).2.length ≤ x + 1 := by have := fin_grow s; omega
theorem Pl.readF_len : ∀ (x : List Int) (s : S) (i : Nat) (acc : List Int), (readF s i acc x).1.length ≤ acc.length + s.row.length + x.length + 1
  | [], s, i, acc => by
    rw [readF]
    have := fin_grow s
    split
    · simp
    · rw [List.length_append]; simp; omega
  | c :: cs, s, i, acc => by
    rw [readF]
    have hg := put_grow s c
    split
    · simp only [List.length_append, List.length_cons]; omega
    split
    · simp
    · have := readF_len cs (put s c).1 (i + 1) (acc ++ (put s c).2)
      simp only [List.length_append, List.length_cons] at this ⊢
      omega
theorem Pl.readV_len (h : Hd.H) (x : List Int) : (readV h x).1.length ≤ x.length + 1 := by
  unfold readV
  split
  · have := readF_len x (new h) 0 []
    simp [new] at this ⊢; omega
  · simp
theorem same_yes (a b : Option Addr) (n ca cb : Nat) (l : List Int) (w : World) (hn : n ≤ 9223372036854775807) (ha : SlK .u64 w a n l) (hb : SlK .u64 w b n l) :
    Calls Try.prog 40 #[.slice a n ca, .slice b n cb] w fun e w' => e = .returned (.bool true) ∧ Below w.heap.size w w' := by
  have h := Su.sameRow_any a b n n ca cb l l w hn ha hb
  rw [decide_eq_true rfl] at h
  exact h
end Go.Proofs.Ytldhhhmihfcalaa
