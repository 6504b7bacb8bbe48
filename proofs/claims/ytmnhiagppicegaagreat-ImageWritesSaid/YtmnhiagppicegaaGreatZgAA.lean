/- A struct of five fields of a cell each that came in, told field by field. No condition. -/
import Derived.Test.YtmnhiagppicegaaGreatProg
import Derived.Lib.SmallJoins
import Derived.RangeFuncNested
import Derived.RangeFuncBound
import Derived.RangeFuncCalls
import Derived.RangeFuncLeaves
import Derived.Shelf.Abstract
import Derived.Shelf.RegionOpen
import Derived.WalkKit
import Derived.OwnWalkIn
import Derived.OwnWalk
import Derived.TacticsInMore
import Derived.LoopNIn
import Derived.LoopIn
import Derived.Maps.AppendAt
import Derived.Handy
import Derived.WalkSpells
import Derived.WalkLawsBesides
import Derived.Lib.Hide
import Derived.Laws.CopyOwn
import Derived.Laws.MakeOwn
import Derived.Deep.OwnRows
import Derived.Deep.RegionHeld3
import Derived.Deep.LoopGhost
import Derived.Deep.DeepCutAuto
import Derived.Deep.CutRange
import Derived.Laws.BitsAllLaws
import Derived.Laws.EntriesVeiled
import Derived.Laws.StructEq
import Derived.Laws.BytesArg
import Derived.Deep.QuietTactic
import Derived.BigQuiet
import Derived.IntWalk
import Derived.LoopN
import Derived.RegionTactic
import Derived.Lib.Walk
import Derived.Sort.WalkB12
import Derived.Lib.SlicesMore
import Derived.Lib.OwnBridge
namespace Go.Proofs.YtmnhiagppicegaaGreat
open Go.ChangeShapes Go.WideShapes Go.RowKit Go.Deep Go.WideElems Go.Maps Go.Joins
theorem arr_five {α : Type} {l : Array α} (h : l.size = 5) : ∃ a b c d e, l = #[a, b, c, d, e] := by
  obtain ⟨x⟩ := l
  match x, h with
  | [a, b, c, d, e], _ => exact ⟨a, b, c, d, e, rfl⟩
section
variable {H : Type} {enc : TypeId × Value → H} {P : Program} {w : World} {base : Nat} {spare : Nat → Bool} {held : Bool}
theorem open_agg5 {r : Reach} {b0 : Nat} {t : TypeId} {g0 g1 g2 g3 g4 : Field} {v : Value} {d : DataW H} {p : List MemPlace} (hs : P.underlying t = some (.struct #[g0, g1, g2, g3, g4])) (hone : oneCellFields P #[g0, g1, g2, g3, g4] = true) (hC : P.cellsOf t = 5)
    (hv : Value.okWide P w r b0 t v) (h : DataW.Trod enc P w base spare held t v d p) :
    ∃ (x0 x1 x2 x3 x4 : Value) (y0 y1 y2 y3 y4 : DataW H × List MemPlace) (n : Nat), v = .agg #[x0, x1, x2, x3, x4] ∧ d = .agg [y0.1, y1.1, y2.1, y3.1, y4.1] ∧ p = y0.2 ++ (y1.2 ++ (y2.2 ++ (y3.2 ++ y4.2))) ∧
      DataW.trod enc P w base spare held n g0.type [x0] = some y0 ∧ DataW.trod enc P w base spare held n g1.type [x1] = some y1 ∧ DataW.trod enc P w base spare held n g2.type [x2] = some y2 ∧ DataW.trod enc P w base spare held n g3.type [x3] = some y3 ∧ DataW.trod enc P w base spare held n g4.type [x4] = some y4 := by
  obtain ⟨cs, rfl, hz⟩ := okWide_struct hs hv
  obtain ⟨x0, x1, x2, x3, x4, rfl⟩ := arr_five (hz.trans hC)
  obtain ⟨fuel, hf⟩ := h
  obtain ⟨ys, n, _, hx, _, hlen, hF⟩ := DataW.trod_struct hs hf
  have F := fun k (f : Field) (hk : #[g0, g1, g2, g3, g4][k]? = some f) => (hone_of hone k f hk)
  match ys, hlen with
  | [y0, y1, y2, y3, y4], _ =>
    simp only [Prod.mk.injEq] at hx
    obtain ⟨o0, k0⟩ := F 0 g0 rfl
    obtain ⟨o1, k1⟩ := F 1 g1 rfl
    obtain ⟨o2, k2⟩ := F 2 g2 rfl
    obtain ⟨o3, k3⟩ := F 3 g3 rfl
    obtain ⟨o4, k4⟩ := F 4 g4 rfl
    refine ⟨x0, x1, x2, x3, x4, y0, y1, y2, y3, y4, n, rfl, by simpa using hx.1, by simpa using hx.2, ?_, ?_, ?_, ?_, ?_⟩
    · simpa [Value.cells, o0, k0] using hF 0 g0 rfl
    · simpa [Value.cells, o1, k1] using hF 1 g1 rfl
    · simpa [Value.cells, o2, k2] using hF 2 g2 rfl
    · simpa [Value.cells, o3, k3] using hF 3 g3 rfl
    · simpa [Value.cells, o4, k4] using hF 4 g4 rfl
end
end Go.Proofs.YtmnhiagppicegaaGreat

/- A range over a function whose iterator keeps state of its own in cells: what the iterator owes, what the loop's body owes, and the law that joins them. No condition beyond what is named. -/
namespace Go.Proofs.YtmnhiagppicegaaGreat
open Go.RowKit

/-- All that lay outside Z lies as it lay. -/
structure Sep (Z : Nat → Prop) (A B : World) : Prop where
  os : B.os = A.os
  tape : B.tape = A.tape
  output : B.output = A.output
  size : A.heap.size ≤ B.heap.size
  block : ∀ k, k < A.heap.size → ¬ Z k → B.heap[k]? = A.heap[k]?
/-- All that lay in Z lies as it lay. -/
structure Hold (Z : Nat → Prop) (A B : World) : Prop where
  size : A.heap.size ≤ B.heap.size
  block : ∀ k, k < A.heap.size → Z k → B.heap[k]? = A.heap[k]?

theorem Sep.refl (Z : Nat → Prop) (A : World) : Sep Z A A := ⟨rfl, rfl, rfl, Nat.le_refl _, fun _ _ _ => rfl⟩
theorem Sep.trans {Z : Nat → Prop} {A B C : World} (h : Sep Z A B) (k : Sep Z B C) : Sep Z A C :=
  ⟨k.os.trans h.os, k.tape.trans h.tape, k.output.trans h.output, Nat.le_trans h.size k.size, fun i hi hz => (k.block i (Nat.lt_of_lt_of_le hi h.size) hz).trans (h.block i hi hz)⟩
theorem Sep.mono {Z Z' : Nat → Prop} {A B : World} (h : Sep Z A B) (hz : ∀ k, Z k → Z' k) : Sep Z' A B :=
  ⟨h.os, h.tape, h.output, h.size, fun k hk hn => h.block k hk (fun e => hn (hz k e))⟩
theorem Sep.alloc (Z : Nat → Prop) (A : World) (o : Obj) : Sep Z A (A.alloc o) := ⟨rfl, rfl, rfl, by simp, fun k hk _ => Below.heap_alloc _ _ _ hk⟩
theorem Sep.setCell {Z : Nat → Prop} (A : World) {b o : Nat} {p : Option Nat} (hz : Z b) (v : Value) : Sep Z A (A.setCell ⟨b, o, p⟩ v) :=
  ⟨rfl, rfl, rfl, by simp [World.setCell], fun k _ hn => Below.heap_setCell _ _ _ _ (fun e => hn (e ▸ hz))⟩
theorem Sep.putObj {Z : Nat → Prop} (A : World) {b : Nat} (hz : Z b) (o : Obj) : Sep Z A (A.putObj b o) :=
  ⟨rfl, rfl, rfl, by simp, fun k _ hn => World.putObj_heap_other (fun e => hn (e ▸ hz))⟩
theorem Sep.drewN (Z : Nat → Prop) (A : World) (m : Nat) : Sep Z A (A.drewN m) := ⟨rfl, rfl, rfl, Nat.le_refl _, fun _ _ _ => rfl⟩
theorem Sep.drew (Z : Nat → Prop) (A : World) : Sep Z A A.drew := ⟨rfl, rfl, rfl, Nat.le_refl _, fun _ _ _ => rfl⟩
theorem Sep.below {Z : Nat → Prop} {A B : World} {m : Nat} (h : Sep Z A B) (hm : m ≤ A.heap.size) (hz : ∀ k, k < m → ¬ Z k) : Below m A B :=
  ⟨h.os, h.tape, h.output, h.size, fun k hk => h.block k (by omega) (hz k hk)⟩
theorem Sep.cell {Z : Nat → Prop} {A B : World} (h : Sep Z A B) {b o : Nat} {p : Option Nat} {v : Value} (hb : ¬ Z b) (hc : A.cell? ⟨b, o, p⟩ = some v) : B.cell? ⟨b, o, p⟩ = some v :=
  (World.cell?_of_block (w := A) (a := ⟨b, o, p⟩) (h.block b (block_lt_of_cell hc) hb)).trans hc

theorem Sep.frozen {Z : Nat → Prop} {A B : World} (h : Sep Z A B) {b o : Nat} {p : Option Nat} (hb : ¬ Z b) (hl : b < A.heap.size) : B.frozen? ⟨b, o, p⟩ = A.frozen? ⟨b, o, p⟩ :=
  World.frozen?_of_block (w := A) (a := ⟨b, o, p⟩) (h.block b hl hb)

theorem Hold.refl (Z : Nat → Prop) (A : World) : Hold Z A A := ⟨Nat.le_refl _, fun _ _ _ => rfl⟩
theorem Hold.trans {Z : Nat → Prop} {A B C : World} (h : Hold Z A B) (k : Hold Z B C) : Hold Z A C :=
  ⟨Nat.le_trans h.size k.size, fun i hi hz => (k.block i (Nat.lt_of_lt_of_le hi h.size) hz).trans (h.block i hi hz)⟩
theorem Hold.mono {Z Z' : Nat → Prop} {A B : World} (h : Hold Z A B) (hz : ∀ k, Z' k → Z k) : Hold Z' A B := ⟨h.size, fun k hk hn => h.block k hk (hz k hn)⟩
theorem Hold.alloc (Z : Nat → Prop) (A : World) (o : Obj) : Hold Z A (A.alloc o) := ⟨by simp, fun k hk _ => Below.heap_alloc _ _ _ hk⟩
theorem Hold.setCell {Z : Nat → Prop} (A : World) {b o : Nat} {p : Option Nat} (hz : ¬ Z b) (v : Value) : Hold Z A (A.setCell ⟨b, o, p⟩ v) :=
  ⟨by simp [World.setCell], fun k _ hn => Below.heap_setCell _ _ _ _ (fun e => by simp at e; subst e; exact hz hn)⟩
theorem Hold.putObj {Z : Nat → Prop} (A : World) {b : Nat} (hz : ¬ Z b) (o : Obj) : Hold Z A (A.putObj b o) :=
  ⟨by simp, fun k _ hn => World.putObj_heap_other (fun e => hz (e ▸ hn))⟩
theorem Hold.grown {Z : Nat → Prop} {A B : World} {row : Option Nat} (hg : A.grownBy B row) (hr : ∀ k, row = some k → ¬ Z k) : Hold Z A B :=
  ⟨hg.size, fun k hk hz => hg.block k hk (fun e => hr k e.symm hz)⟩
theorem Hold.below {Z : Nat → Prop} {A B : World} {m : Nat} (h : Below m A B) (hz : ∀ k, Z k → k < m) : Hold Z A B := ⟨h.size, fun k _ hn => h.block k (hz k hn)⟩
theorem Hold.drewN (Z : Nat → Prop) (A : World) (m : Nat) : Hold Z A (A.drewN m) := ⟨Nat.le_refl _, fun _ _ _ => rfl⟩
theorem Hold.cell {Z : Nat → Prop} {A B : World} (h : Hold Z A B) {b o : Nat} {p : Option Nat} {v : Value} (hb : Z b) (hc : A.cell? ⟨b, o, p⟩ = some v) : B.cell? ⟨b, o, p⟩ = some v :=
  (World.cell?_of_block (w := A) (a := ⟨b, o, p⟩) (h.block b (block_lt_of_cell hc) hb)).trans hc
theorem Hold.frozen {Z : Nat → Prop} {A B : World} (h : Hold Z A B) {b o : Nat} {p : Option Nat} (hb : Z b) (hl : b < A.heap.size) : B.frozen? ⟨b, o, p⟩ = A.frozen? ⟨b, o, p⟩ :=
  World.frozen?_of_block (w := A) (a := ⟨b, o, p⟩) (h.block b hl hb)

/-- WHAT AN ITERATOR OWES: over the blocks Z, which are its own, it hands out xs, one by one, and turns nothing else. -/
def Gives {α : Type} (F : Fence) (n : Nat) (P : Program) (g : Nat) (lb : Array Value) (encs : α → Array Value) (Z : Nat → Prop) (xs : List α) (W0 : World) : Prop :=
  ∀ (l : Nat) (J Jx : List α → World → Prop) (W : World), Hold Z W0 W →
    (∀ s A B, J s A → Sep Z A B → J s B) → (∀ s A B, Jx s A → Sep Z A B → Jx s B) →
    (∀ pre x rest W1, xs = pre ++ x :: rest → J pre W1 → YieldAt F (n - 1) P l (encs x) W1 fun e W' => Hold Z W1 W' ∧
      ((e = .returned (.bool true) ∧ J (pre ++ [x]) W') ∨ (e = .returned (.bool false) ∧ Jx (pre ++ [x]) W'))) →
    J [] W → CallsIn F n P g (#[.func (.yield l) #[] #[]] ++ lb) W fun e W' => (∃ v, e = .returned v) ∧ (J xs W' ∨ ∃ pre, pre <+: xs ∧ Jx pre W')

/-- The same of an iterator that begins behind the loop's own two blocks: Z may hold all blocks that are made from then on; Zs is what of Z it may turn itself. -/
def GivesN {α : Type} (F : Fence) (n : Nat) (P : Program) (g : Nat) (lb : Array Value) (encs : α → Array Value) (Z Zs : Nat → Prop) (xs : List α) (W0 : World) : Prop :=
  ∀ (l : Nat) (J Jx : List α → World → Prop) (W : World), W0.heap.size + 2 ≤ W.heap.size → Hold Z W0 W →
    (∀ s A B, J s A → Sep Zs A B → J s B) → (∀ s A B, Jx s A → Sep Zs A B → Jx s B) →
    (∀ pre x rest W1, xs = pre ++ x :: rest → J pre W1 → YieldAt F (n - 1) P l (encs x) W1 fun e W' => Hold Z W1 W' ∧
      ((e = .returned (.bool true) ∧ J (pre ++ [x]) W') ∨ (e = .returned (.bool false) ∧ Jx (pre ++ [x]) W'))) →
    J [] W → CallsIn F n P g (#[.func (.yield l) #[] #[]] ++ lb) W fun e W' => (∃ v, e = .returned v) ∧ (J xs W' ∨ ∃ pre, pre <+: xs ∧ Jx pre W')
theorem Gives.n {α : Type} {F : Fence} {n : Nat} {P : Program} {g : Nat} {lb : Array Value} {encs : α → Array Value} {Z : Nat → Prop} {xs : List α} {W0 : World} (h : Gives F n P g lb encs Z xs W0) : GivesN F n P g lb encs Z Z xs W0 :=
  fun l J Jx W _ => h l J Jx W

/-- How a round may be left: nothing of the iterator's and of the loop's own has turned. -/
def roundEnd {α : Type} (Z : Nat → Prop) (I : List α → World → Prop) (Ix : Code → List α → World → Prop) (xs : List α) (W : World) : Exit → Act → World → Prop
  | .normal, _, W' => Hold Z W W' ∧ I xs W'
  | .ret, _, W' => Hold Z W W' ∧ Ix .ret xs W'
  | .exit id, _, W' => Hold Z W W' ∧ Ix (.exit id) xs W'
  | .goto t, _, W' => Hold Z W W' ∧ Ix (.goto t) xs W'
  | .panic _, _, _ => False
  | .outgrown, _, _ => False

variable {F : Fence} {n : Nat} {P : Program}

theorem range_ownN {α : Type} {g : Operand} {ps : Array Tmp} {assign body : Code} {Q : Exit → Act → World → Prop} {a : Act} {w : World}
    (hro : F.round = none) (h1 : 1 ≤ n) {gf : Nat} {lb : Array Value} (hg : a.eval g = .func (.func gf) #[] lb) (hFg : F.fn gf) (eg : ∀ args w, (callFunc gf args).run P w = .ok (.enter gf args) w)
    {encs : α → Array Value} {Z Zs : Nat → Prop} {xs : List α} (hseq : GivesN F (n - 1) P gf lb encs Z Zs xs w) (hsub : ∀ k, Zs k → Z k) (nZD : ¬ Z w.heap.size) (nZL : ¬ Z (w.heap.size + 1)) (hps : ∀ x, (encs x).size = ps.size)
    (I : List α → World → Prop) (Ix : Code → List α → World → Prop)
    (hI : ∀ s A B, I s A → Sep (fun k => Zs k ∨ k = w.heap.size ∨ k = w.heap.size + 1) A B → I s B)
    (hIx : ∀ c s A B, Ix c s A → Sep (fun k => Zs k ∨ k = w.heap.size ∨ k = w.heap.size + 1) A B → Ix c s B)
    (h0 : I [] w) (Ax : α → Act → World → Prop) (hAx : ∀ x a' A B, Ax x a' A → Sep (fun k => Zs k ∨ k = w.heap.size ∨ k = w.heap.size + 1) A B → Ax x a' B)
    (hassign : ∀ (l : Nat) (pre : List α) (x : α) (W : World) (K : Act → World → Prop), I pre W → w.heap.size + 1 < W.heap.size →
      (∀ a' W', Hold (fun k => Z k ∨ k = w.heap.size ∨ k = w.heap.size + 1) W W' → I pre W' → Ax x a' W' → K a' W') →
      assign.wpIn (F.inRound l) (n - 1 - 1) P (Exit.then K (fun _ _ _ => False)) { tmps := (ps.zip (encs x)).foldl (fun t (p, v) => t.setIfInBounds p v) a.tmps, defers := [] } W)
    (hbody : ∀ (l : Nat) (pre : List α) (x : α) (rest : List α) (a' : Act) (W : World), xs = pre ++ x :: rest → w.heap.size + 1 < W.heap.size → I pre W → Ax x a' W →
      body.wpIn (F.inRound l) (n - 1 - 1) P (roundEnd (fun k => Z k ∨ k = w.heap.size ∨ k = w.heap.size + 1) I Ix (pre ++ [x]) W) a' W)
    (hdone : ∀ (W : World), I xs W → W.heap[w.heap.size]? = some (.deferred (some [])) → Q .normal { a with defers := { target := .collected w.heap.size, args := #[] } :: a.defers } W)
    (hstop : ∀ (c : Code) (pre : List α) (W : World), pre <+: xs → Ix c pre W → W.heap[w.heap.size]? = some (.deferred (some [])) → c.wpIn F n P Q { a with defers := { target := .collected w.heap.size, args := #[] } :: a.defers } W) :
    (Code.rangeFunc g ps assign body).wpIn F n P Q a w := by
  refine wpIn_rangeFunc fun fn hfn => ?_
  rw [hro]
  -- the loop's record, in a state and with a jump that waits
  obtain ⟨rec, hrec⟩ : ∃ rec : LoopState → Option Code → Loop, rec = fun s j => { state := s, pending := j, fn, tmps := a.tmps, params := ps, assign, body, defers := w.heap.size } := ⟨_, rfl⟩
  have hrs : ∀ s j, (rec s j).state = s := fun s j => by rw [hrec]
  have hrp : ∀ s j, (rec s j).pending = j := fun s j => by rw [hrec]
  have hf1 : (rec .ready none).params = ps := by rw [hrec]
  have hf2 : (rec .ready none).fn = fn := by rw [hrec]
  have hf3 : (rec .ready none).tmps = a.tmps := by rw [hrec]
  have hf4 : (rec .ready none).assign = assign := by rw [hrec]
  have hf5 : (rec .ready none).body = body := by rw [hrec]
  have hset : ∀ s j s' j', ({ rec s j with state := s', pending := j' } : Loop) = rec s' j' := fun s j s' j' => by rw [hrec]
  have hset1 : ∀ s j s', ({ rec s j with state := s' } : Loop) = rec s' j := fun s j s' => by rw [hrec]
  generalize hW1 : (w.alloc (.deferred (some []))).alloc (.loop (rec .ready none)) = W1
  have sz1 : W1.heap.size = w.heap.size + 2 := by rw [← hW1]; simp
  have hL1 : W1.heap[w.heap.size + 1]? = some (.loop (rec .ready none)) := by
    rw [← hW1]; have := World.alloc_heap_new (w.alloc (.deferred (some []))) (.loop (rec .ready none)); rwa [World.size_alloc] at this
  have hD1 : W1.heap[w.heap.size]? = some (.deferred (some [])) := by
    rw [← hW1, Below.heap_alloc _ _ _ (by simp)]; exact World.alloc_heap_new w _
  have hI1 : I [] W1 := by rw [← hW1]; exact hI _ _ _ (hI _ _ _ h0 (.alloc _ _ _)) (.alloc _ _ _)
  have hH1 : Hold Z w W1 := by rw [← hW1]; exact (Hold.alloc Z w _).trans (.alloc Z _ _)
  refine ⟨w.heap.size + 1, [{ target := .collected w.heap.size, args := #[] }], W1, { target := .fn (.func gf) lb, args := #[.func (.yield (w.heap.size + 1)) #[] #[]] }, W1, gf,
    #[.func (.yield (w.heap.size + 1)) #[] #[]] ++ lb, W1, ?_, ?_, ?_, ?_, fun _ => h1, ?_⟩
  · rw [← hW1, hrec]; exact run_enterLoop_outer _ _ _ _ _
  · simp only [resolve, hg]; simp [go_sem]
  · intro f' hf'; simp [Target.leads] at hf'; subst hf'; exact hFg
  · simp [invoke, go_sem, eg]
  -- the iterator, at the caller's invariant and the loop's two blocks
  have keep : ∀ {o : Obj} {A B : World} {k : Nat}, ¬ Zs k → A.heap[k]? = some o → Sep Zs A B → B.heap[k]? = some o := fun hk ho hs => (hs.block _ (Array.getElem?_eq_some_iff.1 ho).1 hk).trans ho
  have wide : ∀ {A B : World}, Sep Zs A B → Sep (fun k => Zs k ∨ k = w.heap.size ∨ k = w.heap.size + 1) A B := fun h => h.mono fun _ e => .inl e
  have iz : ∀ {A : World} (o : Obj), Sep (fun k => Zs k ∨ k = w.heap.size ∨ k = w.heap.size + 1) A (A.putObj (w.heap.size + 1) o) := fun o => .putObj _ (.inr (.inr rfl)) o
  have hold : ∀ {A B : World}, Hold (fun k => Z k ∨ k = w.heap.size ∨ k = w.heap.size + 1) A B → Hold Z A B := fun h => h.mono fun _ e => .inl e
  refine (hseq (w.heap.size + 1)
    (fun pre W => I pre W ∧ W.heap[w.heap.size + 1]? = some (.loop (rec .ready none)) ∧ W.heap[w.heap.size]? = some (.deferred (some [])))
    (fun pre W => ∃ c, Ix c pre W ∧ W.heap[w.heap.size + 1]? = some (.loop (rec .done (some c))) ∧ W.heap[w.heap.size]? = some (.deferred (some [])))
    W1 (by omega) hH1 (fun s A B h hs => ⟨hI s A B h.1 (wide hs), keep (fun e => nZL (hsub _ e)) h.2.1 hs, keep (fun e => nZD (hsub _ e)) h.2.2 hs⟩)
    (fun s A B ⟨c, h, hl, hd⟩ hs => ⟨c, hIx c s A B h (wide hs), keep (fun e => nZL (hsub _ e)) hl hs, keep (fun e => nZD (hsub _ e)) hd hs⟩) ?_ ⟨hI1, hL1, hD1⟩).mono ?_
  · rintro pre x rest W hx ⟨hi, hl, hd⟩
    have hlt := (Array.getElem?_eq_some_iff.1 hl).1
    have hy := run_yield (P := P) (args := encs x) hl (by rw [hf1]; exact hps x)
    rw [hf1, hf2, hf3, hf4, hf5] at hy
    refine ⟨fn, _, assign, body, hy, roundIn_of_wpIn hfn ?_⟩
    refine hassign _ pre x W _ hi hlt fun a' Wa ha hia hax => ?_
    have hla : Wa.heap[w.heap.size + 1]? = some (.loop (rec .ready none)) := (ha.block _ hlt (.inr (.inr rfl))).trans hl
    have hda : Wa.heap[w.heap.size]? = some (.deferred (some [])) := (ha.block _ (by omega) (.inr (.inl rfl))).trans hd
    have hlta : w.heap.size + 1 < Wa.heap.size := (Array.getElem?_eq_some_iff.1 hla).1
    refine ⟨_, run_beginRound hla (hrs _ _), ?_⟩
    rw [hset1]
    generalize hWb : Wa.putObj (w.heap.size + 1) (.loop (rec .busy none)) = Wb
    have hlb : Wb.heap[w.heap.size + 1]? = some (.loop (rec .busy none)) := by rw [← hWb]; exact World.putObj_heap_same hlta
    have hdb : Wb.heap[w.heap.size]? = some (.deferred (some [])) := by rw [← hWb, World.putObj_heap_other (by omega)]; exact hda
    have hib : I pre Wb := by rw [← hWb]; exact hI _ _ _ hia (iz _)
    have hxb : Ax x a' Wb := by rw [← hWb]; exact hAx _ _ _ _ hax (iz _)
    have hWab : Hold Z W Wb := (hold ha).trans (by rw [← hWb]; exact .putObj _ nZL _)
    have hltb : w.heap.size + 1 < Wb.heap.size := (Array.getElem?_eq_some_iff.1 hlb).1
    refine wpIn_mono (hbody _ pre x rest a' Wb hx hltb hib hxb) ?_
    have fin : ∀ (j : Option Code) (W3 : World), Hold (fun k => Z k ∨ k = w.heap.size ∨ k = w.heap.size + 1) Wb W3 →
        ∃ W4, (Instr.endRound (w.heap.size + 1) j).run P W3 = .ok (.bool j.isNone) W4 ∧ Sep (fun k => Zs k ∨ k = w.heap.size ∨ k = w.heap.size + 1) W3 W4 ∧ Hold Z W W4 ∧
          W4.heap[w.heap.size + 1]? = some (.loop (rec (if j.isNone then .ready else .done) j)) ∧ W4.heap[w.heap.size]? = some (.deferred (some [])) := fun j W3 h3 => by
      have hl3 : W3.heap[w.heap.size + 1]? = some (.loop (rec .busy none)) := (h3.block _ hltb (.inr (.inr rfl))).trans hlb
      have hd3 : W3.heap[w.heap.size]? = some (.deferred (some [])) := (h3.block _ (by omega) (.inr (.inl rfl))).trans hdb
      refine ⟨_, run_endRound j hl3, iz _, hWab.trans ((hold h3).trans (.putObj _ nZL _)), ?_, ?_⟩
      · rw [hset]; exact World.putObj_heap_same (Array.getElem?_eq_some_iff.1 hl3).1
      · rw [World.putObj_heap_other (by omega)]; exact hd3
    rintro e a3 W3 hp
    cases e with
    | normal => obtain ⟨h3, hi3⟩ := hp; obtain ⟨W4, hr, hs, hh, hl4, hd4⟩ := fin none W3 h3; exact ⟨_, W4, hr, hh, .inl ⟨rfl, hI _ _ _ hi3 hs, hl4, hd4⟩⟩
    | ret => obtain ⟨h3, hi3⟩ := hp; obtain ⟨W4, hr, hs, hh, hl4, hd4⟩ := fin (some .ret) W3 h3; exact ⟨_, W4, hr, hh, .inr ⟨rfl, _, hIx _ _ _ _ hi3 hs, hl4, hd4⟩⟩
    | exit id => obtain ⟨h3, hi3⟩ := hp; obtain ⟨W4, hr, hs, hh, hl4, hd4⟩ := fin (some (.exit id)) W3 h3; exact ⟨_, W4, hr, hh, .inr ⟨rfl, _, hIx _ _ _ _ hi3 hs, hl4, hd4⟩⟩
    | goto t => obtain ⟨h3, hi3⟩ := hp; obtain ⟨W4, hr, hs, hh, hl4, hd4⟩ := fin (some (.goto t)) W3 h3; exact ⟨_, W4, hr, hh, .inr ⟨rfl, _, hIx _ _ _ _ hi3 hs, hl4, hd4⟩⟩
    | panic ch => exact hp.elim
    | outgrown => exact hp.elim
  · rintro e W2 ⟨⟨v, rfl⟩, hJ⟩
    rcases hJ with ⟨hi, hl, hd⟩ | ⟨pre, hpre, c, hi, hl, hd⟩
    · exact ⟨none, _, by rw [run_endLoop hl (by rw [hrs]; simp), hrp], hdone _ (hI _ _ _ hi (iz _)) (by rw [World.putObj_heap_other (by omega)]; exact hd)⟩
    · exact ⟨some c, _, by rw [run_endLoop hl (by rw [hrs]; simp), hrp], hstop c pre _ hpre (hIx _ _ _ _ hi (iz _)) (by rw [World.putObj_heap_other (by omega)]; exact hd)⟩

theorem range_own {α : Type} {g : Operand} {ps : Array Tmp} {assign body : Code} {Q : Exit → Act → World → Prop} {a : Act} {w : World}
    (hro : F.round = none) (h1 : 1 ≤ n) {gf : Nat} {lb : Array Value} (hg : a.eval g = .func (.func gf) #[] lb) (hFg : F.fn gf) (eg : ∀ args w, (callFunc gf args).run P w = .ok (.enter gf args) w)
    {encs : α → Array Value} {Z : Nat → Prop} {xs : List α} (hseq : Gives F (n - 1) P gf lb encs Z xs w) (hZ : ∀ k, Z k → k < w.heap.size) (hps : ∀ x, (encs x).size = ps.size)
    (I : List α → World → Prop) (Ix : Code → List α → World → Prop)
    (hI : ∀ s A B, I s A → Sep (fun k => Z k ∨ k = w.heap.size ∨ k = w.heap.size + 1) A B → I s B)
    (hIx : ∀ c s A B, Ix c s A → Sep (fun k => Z k ∨ k = w.heap.size ∨ k = w.heap.size + 1) A B → Ix c s B)
    (h0 : I [] w) (Ax : α → Act → World → Prop) (hAx : ∀ x a' A B, Ax x a' A → Sep (fun k => Z k ∨ k = w.heap.size ∨ k = w.heap.size + 1) A B → Ax x a' B)
    (hassign : ∀ (l : Nat) (pre : List α) (x : α) (W : World) (K : Act → World → Prop), I pre W → w.heap.size + 1 < W.heap.size →
      (∀ a' W', Hold (fun k => Z k ∨ k = w.heap.size ∨ k = w.heap.size + 1) W W' → I pre W' → Ax x a' W' → K a' W') →
      assign.wpIn (F.inRound l) (n - 1 - 1) P (Exit.then K (fun _ _ _ => False)) { tmps := (ps.zip (encs x)).foldl (fun t (p, v) => t.setIfInBounds p v) a.tmps, defers := [] } W)
    (hbody : ∀ (l : Nat) (pre : List α) (x : α) (rest : List α) (a' : Act) (W : World), xs = pre ++ x :: rest → w.heap.size + 1 < W.heap.size → I pre W → Ax x a' W →
      body.wpIn (F.inRound l) (n - 1 - 1) P (roundEnd (fun k => Z k ∨ k = w.heap.size ∨ k = w.heap.size + 1) I Ix (pre ++ [x]) W) a' W)
    (hdone : ∀ (W : World), I xs W → W.heap[w.heap.size]? = some (.deferred (some [])) → Q .normal { a with defers := { target := .collected w.heap.size, args := #[] } :: a.defers } W)
    (hstop : ∀ (c : Code) (pre : List α) (W : World), pre <+: xs → Ix c pre W → W.heap[w.heap.size]? = some (.deferred (some [])) → c.wpIn F n P Q { a with defers := { target := .collected w.heap.size, args := #[] } :: a.defers } W) :
    (Code.rangeFunc g ps assign body).wpIn F n P Q a w :=
  range_ownN hro h1 hg hFg eg hseq.n (fun _ e => e) (fun e => by have := hZ _ e; omega) (fun e => by have := hZ _ e; omega) hps I Ix hI hIx h0 Ax hAx hassign hbody hdone hstop

/-- The same where a round's variable lies in a slot: what the assignment leaves is named ahead of the world. -/
theorem range_own1N {α : Type} {g : Operand} {ps : Array Tmp} {assign body : Code} {Q : Exit → Act → World → Prop} {a : Act} {w : World}
    (hro : F.round = none) (h1 : 1 ≤ n) {gf : Nat} {lb : Array Value} (hg : a.eval g = .func (.func gf) #[] lb) (hFg : F.fn gf) (eg : ∀ args w, (callFunc gf args).run P w = .ok (.enter gf args) w)
    {encs : α → Array Value} {Z Zs : Nat → Prop} {xs : List α} (hseq : GivesN F (n - 1) P gf lb encs Z Zs xs w) (hsub : ∀ k, Zs k → Z k) (nZD : ¬ Z w.heap.size) (nZL : ¬ Z (w.heap.size + 1)) (hps : ∀ x, (encs x).size = ps.size)
    (I : List α → World → Prop) (Ix : Code → List α → World → Prop)
    (hI : ∀ s A B, I s A → Sep (fun k => Zs k ∨ k = w.heap.size ∨ k = w.heap.size + 1) A B → I s B)
    (hIx : ∀ c s A B, Ix c s A → Sep (fun k => Zs k ∨ k = w.heap.size ∨ k = w.heap.size + 1) A B → Ix c s B)
    (h0 : I [] w) (a₁ : α → Act)
    (hassign : ∀ (l : Nat) (x : α) (W : World) (K : Act → World → Prop), K (a₁ x) W →
      assign.wpIn (F.inRound l) (n - 1 - 1) P (Exit.then K (fun _ _ _ => False)) { tmps := (ps.zip (encs x)).foldl (fun t (p, v) => t.setIfInBounds p v) a.tmps, defers := [] } W)
    (hbody : ∀ (l : Nat) (pre : List α) (x : α) (rest : List α) (W : World), xs = pre ++ x :: rest → w.heap.size + 1 < W.heap.size → I pre W →
      body.wpIn (F.inRound l) (n - 1 - 1) P (roundEnd (fun k => Z k ∨ k = w.heap.size ∨ k = w.heap.size + 1) I Ix (pre ++ [x]) W) (a₁ x) W)
    (hdone : ∀ (W : World), I xs W → W.heap[w.heap.size]? = some (.deferred (some [])) → Q .normal { a with defers := { target := .collected w.heap.size, args := #[] } :: a.defers } W)
    (hstop : ∀ (c : Code) (pre : List α) (W : World), pre <+: xs → Ix c pre W → W.heap[w.heap.size]? = some (.deferred (some [])) → c.wpIn F n P Q { a with defers := { target := .collected w.heap.size, args := #[] } :: a.defers } W) :
    (Code.rangeFunc g ps assign body).wpIn F n P Q a w :=
  range_ownN hro h1 hg hFg eg hseq hsub nZD nZL hps I Ix hI hIx h0 (fun x a' _ => a' = a₁ x) (fun _ _ _ _ h _ => h)
    (fun l pre x W K hi _ hK => hassign l x W K (hK _ _ (.refl _ _) hi rfl)) (fun l pre x rest a' W hx hlt hi ha => by subst ha; exact hbody l pre x rest W hx hlt hi) hdone hstop

/-- The same in a plain walk. -/
theorem range_wpN {α : Type} {g : Operand} {ps : Array Tmp} {assign body : Code} {Q : Exit → Act → World → Prop} {a : Act} {w : World}
    {gf : Nat} {lb : Array Value} (hg : a.eval g = .func (.func gf) #[] lb) (eg : ∀ args w, (callFunc gf args).run P w = .ok (.enter gf args) w)
    {encs : α → Array Value} {Z Zs : Nat → Prop} {xs : List α} (hseq : GivesN Fence.wide 2 P gf lb encs Z Zs xs w) (hsub : ∀ k, Zs k → Z k) (nZD : ¬ Z w.heap.size) (nZL : ¬ Z (w.heap.size + 1)) (hps : ∀ x, (encs x).size = ps.size)
    (I : List α → World → Prop) (Ix : Code → List α → World → Prop)
    (hI : ∀ s A B, I s A → Sep (fun k => Zs k ∨ k = w.heap.size ∨ k = w.heap.size + 1) A B → I s B)
    (hIx : ∀ c s A B, Ix c s A → Sep (fun k => Zs k ∨ k = w.heap.size ∨ k = w.heap.size + 1) A B → Ix c s B)
    (h0 : I [] w) (a₁ : α → Act)
    (hassign : ∀ (l : Nat) (x : α) (W : World) (K : Act → World → Prop), K (a₁ x) W →
      assign.wpIn (Fence.wide.inRound l) 1 P (Exit.then K (fun _ _ _ => False)) { tmps := (ps.zip (encs x)).foldl (fun t (p, v) => t.setIfInBounds p v) a.tmps, defers := [] } W)
    (hbody : ∀ (l : Nat) (pre : List α) (x : α) (rest : List α) (W : World), xs = pre ++ x :: rest → w.heap.size + 1 < W.heap.size → I pre W →
      body.wpIn (Fence.wide.inRound l) 1 P (roundEnd (fun k => Z k ∨ k = w.heap.size ∨ k = w.heap.size + 1) I Ix (pre ++ [x]) W) (a₁ x) W)
    (hdone : ∀ (W : World), I xs W → W.heap[w.heap.size]? = some (.deferred (some [])) → Q .normal { a with defers := { target := .collected w.heap.size, args := #[] } :: a.defers } W)
    (hstop : ∀ (c : Code) (pre : List α) (W : World), pre <+: xs → Ix c pre W → W.heap[w.heap.size]? = some (.deferred (some [])) → c.wp P Q { a with defers := { target := .collected w.heap.size, args := #[] } :: a.defers } W) :
    (Code.rangeFunc g ps assign body).wp P Q a w :=
  (wpIn_wide (n := 3)).1 (range_own1N rfl (by omega) hg trivial eg hseq hsub nZD nZL hps I Ix hI hIx h0 a₁ hassign hbody hdone (fun c pre W h1 h2 h3 => wpIn_wide.2 (hstop c pre W h1 h2 h3)))

/-- The same where a round's variable lies in a slot: what the assignment leaves is named ahead of the world. -/
theorem range_own1 {α : Type} {g : Operand} {ps : Array Tmp} {assign body : Code} {Q : Exit → Act → World → Prop} {a : Act} {w : World}
    (hro : F.round = none) (h1 : 1 ≤ n) {gf : Nat} {lb : Array Value} (hg : a.eval g = .func (.func gf) #[] lb) (hFg : F.fn gf) (eg : ∀ args w, (callFunc gf args).run P w = .ok (.enter gf args) w)
    {encs : α → Array Value} {Z : Nat → Prop} {xs : List α} (hseq : Gives F (n - 1) P gf lb encs Z xs w) (hZ : ∀ k, Z k → k < w.heap.size) (hps : ∀ x, (encs x).size = ps.size)
    (I : List α → World → Prop) (Ix : Code → List α → World → Prop)
    (hI : ∀ s A B, I s A → Sep (fun k => Z k ∨ k = w.heap.size ∨ k = w.heap.size + 1) A B → I s B)
    (hIx : ∀ c s A B, Ix c s A → Sep (fun k => Z k ∨ k = w.heap.size ∨ k = w.heap.size + 1) A B → Ix c s B)
    (h0 : I [] w) (a₁ : α → Act)
    (hassign : ∀ (l : Nat) (x : α) (W : World) (K : Act → World → Prop), K (a₁ x) W →
      assign.wpIn (F.inRound l) (n - 1 - 1) P (Exit.then K (fun _ _ _ => False)) { tmps := (ps.zip (encs x)).foldl (fun t (p, v) => t.setIfInBounds p v) a.tmps, defers := [] } W)
    (hbody : ∀ (l : Nat) (pre : List α) (x : α) (rest : List α) (W : World), xs = pre ++ x :: rest → w.heap.size + 1 < W.heap.size → I pre W →
      body.wpIn (F.inRound l) (n - 1 - 1) P (roundEnd (fun k => Z k ∨ k = w.heap.size ∨ k = w.heap.size + 1) I Ix (pre ++ [x]) W) (a₁ x) W)
    (hdone : ∀ (W : World), I xs W → W.heap[w.heap.size]? = some (.deferred (some [])) → Q .normal { a with defers := { target := .collected w.heap.size, args := #[] } :: a.defers } W)
    (hstop : ∀ (c : Code) (pre : List α) (W : World), pre <+: xs → Ix c pre W → W.heap[w.heap.size]? = some (.deferred (some [])) → c.wpIn F n P Q { a with defers := { target := .collected w.heap.size, args := #[] } :: a.defers } W) :
    (Code.rangeFunc g ps assign body).wpIn F n P Q a w :=
  range_own hro h1 hg hFg eg hseq hZ hps I Ix hI hIx h0 (fun x a' _ => a' = a₁ x) (fun _ _ _ _ h _ => h)
    (fun l pre x W K hi _ hK => hassign l x W K (hK _ _ (.refl _ _) hi rfl)) (fun l pre x rest a' W hx hlt hi ha => by subst ha; exact hbody l pre x rest W hx hlt hi) hdone hstop

/-- The same in a plain walk. -/
theorem range_wp {α : Type} {g : Operand} {ps : Array Tmp} {assign body : Code} {Q : Exit → Act → World → Prop} {a : Act} {w : World}
    {gf : Nat} {lb : Array Value} (hg : a.eval g = .func (.func gf) #[] lb) (eg : ∀ args w, (callFunc gf args).run P w = .ok (.enter gf args) w)
    {encs : α → Array Value} {Z : Nat → Prop} {xs : List α} (hseq : Gives Fence.wide 2 P gf lb encs Z xs w) (hZ : ∀ k, Z k → k < w.heap.size) (hps : ∀ x, (encs x).size = ps.size)
    (I : List α → World → Prop) (Ix : Code → List α → World → Prop)
    (hI : ∀ s A B, I s A → Sep (fun k => Z k ∨ k = w.heap.size ∨ k = w.heap.size + 1) A B → I s B)
    (hIx : ∀ c s A B, Ix c s A → Sep (fun k => Z k ∨ k = w.heap.size ∨ k = w.heap.size + 1) A B → Ix c s B)
    (h0 : I [] w) (a₁ : α → Act)
    (hassign : ∀ (l : Nat) (x : α) (W : World) (K : Act → World → Prop), K (a₁ x) W →
      assign.wpIn (Fence.wide.inRound l) 1 P (Exit.then K (fun _ _ _ => False)) { tmps := (ps.zip (encs x)).foldl (fun t (p, v) => t.setIfInBounds p v) a.tmps, defers := [] } W)
    (hbody : ∀ (l : Nat) (pre : List α) (x : α) (rest : List α) (W : World), xs = pre ++ x :: rest → w.heap.size + 1 < W.heap.size → I pre W →
      body.wpIn (Fence.wide.inRound l) 1 P (roundEnd (fun k => Z k ∨ k = w.heap.size ∨ k = w.heap.size + 1) I Ix (pre ++ [x]) W) (a₁ x) W)
    (hdone : ∀ (W : World), I xs W → W.heap[w.heap.size]? = some (.deferred (some [])) → Q .normal { a with defers := { target := .collected w.heap.size, args := #[] } :: a.defers } W)
    (hstop : ∀ (c : Code) (pre : List α) (W : World), pre <+: xs → Ix c pre W → W.heap[w.heap.size]? = some (.deferred (some [])) → c.wp P Q { a with defers := { target := .collected w.heap.size, args := #[] } :: a.defers } W) :
    (Code.rangeFunc g ps assign body).wp P Q a w :=
  (wpIn_wide (n := 3)).1 (range_own1 rfl (by omega) hg trivial eg hseq hZ hps I Ix hI hIx h0 a₁ hassign hbody hdone (fun c pre W h1 h2 h3 => wpIn_wide.2 (hstop c pre W h1 h2 h3)))

/-- A function that holds a range over a function, from its body's plain walk. -/
theorem calls_of_marks {f : FuncId} {fn : Func} {c : Code} {args : Array Value} {w : World} {R : Ending → World → Prop} (hf : P.funcs[f]? = some fn) (hb : fn.body = some c)
    (h : c.wp P (bodyPostM Fence.wide 3 P fn R) { tmps := args ++ Array.replicate (fn.ntmps - args.size) undef, defers := [] } w) : Calls P f args w R :=
  (callsIn_wide (n := 3)).1 (callsIn_of_wp_marks hf hb trivial (wpIn_wide.2 h) rfl)

/-- At the function's return: the block for the rounds' deferred calls is shut. -/
theorem ret_mark {fn : Func} {tmps : Array Value} {R : Ending → World → Prop} {D : Nat} {w : World} {v : Value} (hK : w.heap[D]? = some (.deferred (some [])))
    (hres : (results fn tmps).run P (w.putObj D (.deferred none)) = .ok v (w.putObj D (.deferred none))) (hR : R (.returned v) (w.putObj D (.deferred none))) :
    bodyPostM F n P fn R .ret { tmps := tmps, defers := [{ target := .collected D, args := #[] }] } w :=
  ⟨by simp, .inl ⟨D, _, rfl, run_takeDeferred hK, _, hres, hR⟩⟩
theorem Below.putObj {m : Nat} {a w : World} {D : Nat} (h : Below m a w) (hD : m ≤ D) (o : Obj) : Below m a (w.putObj D o) :=
  h.trans ⟨rfl, rfl, rfl, by simp, fun k hk => World.putObj_heap_other (by omega)⟩
end Go.Proofs.YtmnhiagppicegaaGreat

/- A variable's cell that holds a slice of the call's own, through a loop's rounds; and what is known of a slice of integers of any kind. No condition. -/
namespace Go.Proofs.YtmnhiagppicegaaGreat
open Go.RowKit Go.Shelf

theorem boxed_sep {Z : Nat → Prop} {A B : World} {b : Nat} {t : TypeId} {v : Value} (h : Boxed A b t v) (hs : Sep Z A B) (hz : ¬ Z b) : Boxed B b t v := (hs.block b h.lt hz).trans h
theorem ownsRow_sep {Z : Nat → Prop} {A B : World} {base : Nat} {e : TypeId} {size : Nat} {v : Value} {n : Nat} {xs : List Value} (h : A.ownsRow base e size v n xs) (hs : Sep Z A B) (hz : ∀ k, base ≤ k → ¬ Z k) : B.ownsRow base e size v n xs := by
  obtain ⟨h1, h2⟩ := h
  refine ⟨h1, ?_⟩
  rcases h2 with h2 | ⟨g, cap, cur, rfl, hb, hg, r⟩
  · exact .inl h2
  · exact .inr ⟨g, cap, cur, rfl, hb, (hs.block g (Array.getElem?_eq_some_iff.1 hg).1 (hz g hb)).trans hg, r⟩
theorem ownsRow_base {A : World} {base base' : Nat} {e : TypeId} {size : Nat} {v : Value} {n : Nat} {xs : List Value} (h : A.ownsRow base e size v n xs) (hb : base' ≤ base) : A.ownsRow base' e size v n xs := by
  obtain ⟨h1, h2⟩ := h
  refine ⟨h1, ?_⟩
  rcases h2 with h2 | ⟨g, cap, cur, rfl, hg, r⟩
  · exact .inl h2
  · exact .inr ⟨g, cap, cur, rfl, Nat.le_trans hb hg, r⟩
/-- 'x = append(x, ..)', x in a cell of its own: all that a round owes behind it. -/
theorem pushed {W w1 : World} {base B : Nat} {t e : TypeId} {size : Nat} {v v' : Value} {k m : Nat} {xs ys : List Value} {tmp : Obj}
    (hv : Boxed W B t v) (hte : t ≠ e) (hrow : W.ownsRow base e size v k xs) (hown' : w1.ownsRow base e size v' m ys) (hgrow : (W.alloc tmp).grownBy w1 v.ownBlock) :
    Boxed w1 B t v ∧ Boxed (w1.setCell ⟨B, 0, none⟩ v') B t v' ∧ (w1.setCell ⟨B, 0, none⟩ v').ownsRow base e size v' m ys ∧
    (∀ Z : Nat → Prop, ¬ Z B → (∀ k, base ≤ k → ¬ Z k) → Hold Z W (w1.setCell ⟨B, 0, none⟩ v')) ∧
    (∀ m, m ≤ B → m ≤ base → m ≤ W.heap.size → Below m W (w1.setCell ⟨B, 0, none⟩ v')) := by
  have hb : ∀ j, v.ownBlock = some j → base ≤ j := fun j ej => (hrow.lt j ej).1
  have hv1 : Boxed w1 B t v := (hv.alloc tmp).kept hgrow (hv.not_row hte hrow)
  refine ⟨hv1, hv1.set v', hown'.kept (grownBy_setCell' w1 B v') (.inr (hv1.not_row hte hown').symm), fun Z hz hzb => ?_, fun m h1 h2 h3 => ?_⟩
  · exact ((Hold.alloc Z W tmp).trans (.grown hgrow fun j ej => hzb j (hb j ej))).trans (.setCell _ hz _)
  · exact (((Below.refl m W).alloc h3 tmp).grown hgrow (by simp; omega) fun j ej => Nat.le_trans h2 (hb j ej)).setCell (p := ⟨B, 0, none⟩) h1 v'

/-- WHAT IS KNOWN OF A SLICE OF INTEGERS OF KIND q: its length, and what its cells hold. -/
def SlK (q : IntKind) (w : World) (a : Option Addr) (len : Nat) (zs : List Int) : Prop :=
  zs.length = len ∧ (len = 0 ∨ ∃ blk off, a = some ⟨blk, off, none⟩ ∧ ∀ i, i < len → w.cell? ⟨blk, off + i, none⟩ = some (.int q (zs.getD i 0)))
theorem SlK.below {q : IntKind} {w w' : World} {a : Option Addr} {n : Nat} {zs : List Int} (h : SlK q w a n zs) (hb : Below w.heap.size w w') : SlK q w' a n zs := by
  obtain ⟨h1, h2⟩ := h
  refine ⟨h1, ?_⟩
  rcases h2 with h2 | ⟨blk, off, ha, hc⟩
  · exact .inl h2
  · exact .inr ⟨blk, off, ha, fun i hi => cell_later hb (hc i hi)⟩
/-- Integers in memory of the call's own. -/
def OwnK (q : IntKind) (base : Nat) (w : World) (ad : Option Addr) (zs : List Int) : Prop :=
  zs = [] ∨ ∃ g, ad = some ⟨g, 0, none⟩ ∧ base ≤ g ∧ g < w.heap.size ∧ (∀ i, i < zs.length → w.cell? ⟨g, i, none⟩ = some (.int q (zs.getD i 0))) ∧ (∀ i, w.frozen? ⟨g, i, none⟩ = false)
theorem OwnK.sl {q : IntKind} {base : Nat} {w : World} {ad : Option Addr} {zs : List Int} (h : OwnK q base w ad zs) : SlK q w ad zs.length zs := by
  refine ⟨rfl, ?_⟩
  rcases h with rfl | ⟨g, h1, _, _, h2, _⟩
  · exact .inl rfl
  · exact .inr ⟨g, 0, h1, fun i hi => by simpa using h2 i hi⟩
theorem OwnK.mono {q : IntKind} {base base' : Nat} {w : World} {ad : Option Addr} {zs : List Int} (h : OwnK q base w ad zs) (hb : base' ≤ base) : OwnK q base' w ad zs := by
  rcases h with h | ⟨g, h1, h2, h3⟩
  · exact .inl h
  · exact .inr ⟨g, h1, Nat.le_trans hb h2, h3⟩
theorem OwnK.later {q : IntKind} {base : Nat} {w w' : World} {ad : Option Addr} {zs : List Int} (h : OwnK q base w ad zs) (hb : Below w.heap.size w w') : OwnK q base w' ad zs := by
  rcases h with rfl | ⟨g, h1, h2, h3, h4, h5⟩
  · exact .inl rfl
  · exact .inr ⟨g, h1, h2, by have := hb.size; omega, fun i hi => cell_later hb (h4 i hi), fun i => by rw [hb.frozen (p := ⟨g, i, none⟩) h3]; exact h5 i⟩
theorem ownK_row {q : IntKind} {base : Nat} {w : World} {e : TypeId} {v : Value} {n : Nat} {zs : List Int} (hn : zs.length = n) (h : w.ownsRow base e 1 v n (zs.map (Value.int q))) :
    ∃ ad cap, v = .slice ad n cap ∧ OwnK q base w ad zs ∧ n ≤ cap := by
  have H := h
  obtain ⟨h1, h2⟩ := h
  rcases h2 with ⟨rfl, rfl⟩ | ⟨g, cap, cur, rfl, hb, hg, hle, hm, hsz, htk⟩
  · exact ⟨none, 0, rfl, .inl (by cases zs with | nil => rfl | cons => simp at hn), Nat.le_refl _⟩
  · refine ⟨_, cap, rfl, .inr ⟨g, rfl, hb, (H.lt g rfl).2, fun i hi => ?_, fun i => H.frozenAt i⟩, hle⟩
    rw [H.cellAt i (by omega), List.getElem?_map, List.getElem?_eq_getElem hi, List.getD_eq_getElem?_getD, List.getElem?_eq_getElem hi]; rfl
theorem ownsRow_cap {w : World} {base : Nat} {e : TypeId} {size : Nat} {g n cap : Nat} {xs : List Value} (h : w.ownsRow base e size (.slice (some ⟨g, 0, none⟩) n cap) n xs) : n ≤ cap := by
  rcases h.2 with ⟨e, _⟩ | ⟨_, _, _, e, _, _, hle, _⟩
  · cases e
  · cases e; exact hle
end Go.Proofs.YtmnhiagppicegaaGreat

/- What a law's walk is told of integers and of slices of integers that came in, and what follows of it. No condition. -/
namespace Go.Proofs.YtmnhiagppicegaaGreat
open Go.RowKit
set_option linter.unusedVariables false

theorem wfI {n : Int} (h : (Lit.int .i64 n).wf = true) : -9223372036854775808 ≤ n ∧ n ≤ 9223372036854775807 := by
  simp [Lit.wf, IntKind.min, IntKind.max, IntKind.bits, IntKind.signed] at h; omega
theorem bel_step {w a b : World} (h : Below w.heap.size w a) (k : Below a.heap.size a b) : Below w.heap.size w b := h.trans (k.mono h.size)
/-- It is nil; or it leads to a row of 'cap' cells, the numbers 'zs' (the first 'len' are its elements), each fitting its kind. -/
def IsRow (k : IntKind) (w : World) (a : Option Addr) (len cap : Nat) (zs : List Int) : Prop :=
  (a = none ∧ len = 0 ∧ cap = 0 ∧ zs = []) ∨
  ∃ x, a = some x ∧ len ≤ cap ∧ cap ≤ maxLen ∧ zs.length = cap ∧ (∀ i, i < zs.length → w.cell? (x.add i) = some (.int k (zs.getD i 0))) ∧ ∀ n ∈ zs, (Lit.int k n).wf = true
theorem isrow_len {k : IntKind} {w : World} {a : Option Addr} {len cap : Nat} {zs : List Int} (h : IsRow k w a len cap zs) : len ≤ 9223372036854775807 ∧ len ≤ zs.length ∧ len ≤ cap ∧ cap ≤ 9223372036854775807 := by
  rcases h with ⟨_, rfl, rfl, rfl⟩ | ⟨x, _, h1, h2, h3, _⟩
  · simp
  · unfold maxLen at h2; omega
theorem addrK_add (b off j : Nat) : (⟨b, off, none⟩ : Addr).add j = ⟨b, off + j, none⟩ := by cases j <;> simp [Addr.add]
/-- the first n elements, as a slice -/
theorem isrow_takeK {k : IntKind} {w : World} {a : Option Addr} {len cap : Nat} {zs : List Int} (h : IsRow k w a len cap zs) (n : Nat) (hn : n ≤ len) : SlK k w a n (zs.take n) := by
  have hl := isrow_len h
  refine ⟨by rw [List.length_take]; omega, ?_⟩
  rcases h with ⟨_, rfl, _, _⟩ | ⟨⟨b, o, sp⟩, rfl, h1, h2, h3, h4, _⟩
  · exact .inl (by omega)
  · by_cases h0 : n = 0
    · exact .inl h0
    · have hc := h4 0 (by omega)
      have hsp : sp = none := by simpa [Addr.add] using World.cell?_spot hc
      subst hsp
      refine .inr ⟨b, o, rfl, fun i hi => ?_⟩
      rw [← addrK_add, h4 i (by omega)]
      simp [List.getD_eq_getElem?_getD, List.getElem?_take_of_lt hi]
theorem isrow_wfK {k : IntKind} {w : World} {a : Option Addr} {len cap : Nat} {zs : List Int} (h : IsRow k w a len cap zs) : ∀ n ∈ zs, (Lit.int k n).wf = true := by
  rcases h with ⟨_, _, _, rfl⟩ | ⟨x, _, _, _, _, _, h5⟩
  · intro n hn; cases hn
  · exact h5
end Go.Proofs.YtmnhiagppicegaaGreat

/- The document's number made to lie below another one, over any memory. Condition: numbers fit their kinds. -/
namespace Go.Proofs.YtmnhiagppicegaaGreat
open Go.RowKit
set_option linter.unusedVariables false
namespace Ar
def around (n most : Int) : Int := (if n < 0 then -(n + 1) else n) % most
theorem around_lt (n most : Int) (h : 0 < most) : 0 ≤ around n most ∧ around n most < most := by
  unfold around; exact ⟨Int.emod_nonneg _ (by omega), Int.emod_lt_of_pos _ h⟩
theorem ret_i {k : IntKind} {a b : Int} (h : a = b) : Ending.returned (.int k a) = .returned (.int k b) := by rw [h]
end Ar
theorem aroundOf (n m : Int) (h1 : -9223372036854775808 ≤ n) (h2 : n ≤ 9223372036854775807) (hm : 0 < m) (hm' : m ≤ 9223372036854775807) (w : World) :
    Calls Tryz.prog 11 #[.int .i64 n, .int .i64 m] w fun e w' => e = .returned (.int .i64 (Ar.around n m)) ∧ w = w' := by
  have hz : (m == 0) = false := by simp; omega
  by_cases h : n < 0
  · have X := Lib.hid (show -((n + 1).tmod m) = Ar.around n m by unfold Ar.around; rw [if_pos h, ← Int.neg_tmod, Int.tmod_eq_emod_of_nonneg (by omega)])
    have e1 : 0 ≤ -(n + 1) := by omega
    go_enter Tryz.func11, Tryz.ntmps11
    go_wp2
    go_ret
    exact ⟨Ar.ret_i X.out, rfl⟩
  · have X := Lib.hid (show n % m = Ar.around n m by unfold Ar.around; rw [if_neg h])
    go_enter Tryz.func11, Tryz.ntmps11
    go_wp2
    go_ret
    exact ⟨Ar.ret_i X.out, rfl⟩
end Go.Proofs.YtmnhiagppicegaaGreat

/- Rectangles of numbers as plain lists: rows one behind the other, parts, where one stands in another. No run of a program. No condition. -/
namespace Go.Proofs.YtmnhiagppicegaaGreat
set_option linter.unusedVariables false
namespace Rc
open Go (splice)

def rowsOf (f : Nat → List Int) (n : Nat) : List Int := (List.range n).flatMap f
def sized (w h : Int) : Bool := decide (1 ≤ w) && (decide (w ≤ 4096) && (decide (1 ≤ h) && (decide (h ≤ 65536) && decide (w * h ≤ 16777216))))
def mayV (w h : Int) (n : Nat) : Bool := sized w h && decide ((n : Int) = w * h)
def insV (x n all : Int) : Bool := decide (0 ≤ x) && (decide (1 ≤ n) && (decide (n ≤ all) && decide (x ≤ all - n)))
theorem sized_iff {w h : Int} : sized w h = true ↔ 1 ≤ w ∧ w ≤ 4096 ∧ 1 ≤ h ∧ h ≤ 65536 ∧ w * h ≤ 16777216 := by simp [sized]
theorem mayV_iff {w h : Int} {n : Nat} : mayV w h n = true ↔ (1 ≤ w ∧ w ≤ 4096 ∧ 1 ≤ h ∧ h ≤ 65536 ∧ w * h ≤ 16777216) ∧ (n : Int) = w * h := by simp [mayV, sized_iff]
theorem insV_iff {x n all : Int} : insV x n all = true ↔ 0 ≤ x ∧ 1 ≤ n ∧ n ≤ all ∧ x ≤ all - n := by simp [insV]
def cutL (L : List Int) (W x y n : Int) : List Int := (L.drop (y.toNat * W.toNat + x.toNat)).take n.toNat
def subL (L : List Int) (W x y w h : Int) : List Int := rowsOf (fun k => cutL L W x (y + k) w) h.toNat
def subV (W H : Int) (L : List Int) (x y w h : Int) : Int × Int × List Int × Bool := if (insV x w W && insV y h H) = true then (w, h, subL L W x y w h, true) else (0, 0, [], false)
/-- what holds of a matrix that may be, by numbers -/
def Ok (W H : Int) (L : List Int) : Prop := 1 ≤ W ∧ W ≤ 4096 ∧ 1 ≤ H ∧ H ≤ 65536 ∧ W * H ≤ 16777216 ∧ L.length = H.toNat * W.toNat
end Rc
end Go.Proofs.YtmnhiagppicegaaGreat

/- The smallest functions of rect and of the document's own answer: sides, what may be, what lies inside, over any memory. Condition: numbers fit their kinds. -/
namespace Go.Proofs.YtmnhiagppicegaaGreat
open Go.RowKit
set_option linter.unusedVariables false

/-- a number that fits an int -/
def I64 (n : Int) : Prop := -9223372036854775808 ≤ n ∧ n ≤ 9223372036854775807
theorem ret_bR {a b : Bool} (h : a = b) : Ending.returned (.bool a) = .returned (.bool b) := by rw [h]

set_option maxHeartbeats 1000000 in
theorem mayMeasure_any (a b : Int) (w : World) :
    Calls Tryz.prog 129 #[.int .i64 a, .int .i64 b] w fun e w' => e = .returned (.bool (Rc.sized a b)) ∧ w = w' := by
  by_cases h1 : 1 ≤ a <;> by_cases h2 : a ≤ 4096 <;> by_cases h3 : 1 ≤ b <;> by_cases h4 : b ≤ 65536
  all_goals first
    | (
      have X := Lib.hid (show Rc.sized a b = false by simp [Rc.sized, h1, h2, h3, h4])
      go_enter Tryz.func129, Tryz.ntmps129
      go_wp2
      go_ret
      exact ⟨ret_bR X.out.symm, rfl⟩)
    | (
      have hm : wrap64 (a * b) = a * b := by
        have q1 : 0 ≤ a * b := Int.mul_nonneg (by omega) (by omega)
        have q2 : a * b ≤ 4096 * 65536 := Int.mul_le_mul h2 h4 (by omega) (by omega)
        rw [IntWalk.wrap64_in] <;> omega
      have X := Lib.hid (show decide (a * b ≤ 16777216) = Rc.sized a b by simp [Rc.sized, h1, h2, h3, h4])
      go_enter Tryz.func129, Tryz.ntmps129
      go_wp2
      go_ret
      exact ⟨ret_bR X.out, rfl⟩)
set_option maxHeartbeats 1000000 in
theorem refSized_any (a b : Int) (w : World) :
    Calls Tryz.prog 131 #[.int .i64 a, .int .i64 b] w fun e w' => e = .returned (.bool (Rc.sized a b)) ∧ w = w' := by
  by_cases h1 : a < 1 <;> by_cases h2 : 4096 < a <;> by_cases h3 : b < 1 <;> by_cases h4 : 65536 < b
  all_goals first
    | (
      have X := Lib.hid (show Rc.sized a b = false by cases e : Rc.sized a b; rfl; rw [Rc.sized_iff] at e; omega)
      go_enter Tryz.func131, Tryz.ntmps131
      go_wp2
      go_ret
      exact ⟨ret_bR X.out.symm, rfl⟩)
    | (
      have hm : wrap64 (a * b) = a * b := by
        have q1 : 0 ≤ a * b := Int.mul_nonneg (by omega) (by omega)
        have q2 : a * b ≤ 4096 * 65536 := Int.mul_le_mul (by omega) (by omega) (by omega) (by omega)
        rw [IntWalk.wrap64_in] <;> omega
      have X := Lib.hid (show decide (a * b ≤ 16777216) = Rc.sized a b by simp [Rc.sized, Int.not_lt.1 h1, Int.not_lt.1 h2, Int.not_lt.1 h3, Int.not_lt.1 h4])
      go_enter Tryz.func131, Tryz.ntmps131
      go_wp2
      go_ret
      exact ⟨ret_bR X.out, rfl⟩)
end Go.Proofs.YtmnhiagppicegaaGreat

/- What may be, what lies inside a matrix, and a matrix as the document, and the program, has it, over any memory. Condition: numbers fit their kinds. -/
namespace Go.Proofs.YtmnhiagppicegaaGreat
open Go.RowKit
set_option linter.unusedVariables false

theorem box1 (w : World) (o : Obj) : Below w.heap.size w (w.alloc o) := (Below.refl w.heap.size w).alloc (Nat.le_refl _) o
theorem box2 (w : World) (o p : Obj) : Below w.heap.size w ((w.alloc o).alloc p) := (box1 w o).alloc (by simp) p
/-- a matrix in a cell of its own -/
def Mb (w : World) (b : Nat) (W H : Int) (a : Option Addr) (n c : Nat) : Prop :=
  w.cell? ⟨b, 0, none⟩ = some (.int .i64 W) ∧ w.cell? ⟨b, 1, none⟩ = some (.int .i64 H) ∧ w.cell? ⟨b, 2, none⟩ = some (.slice a n c)
theorem Mb.later {w w' : World} {b : Nat} {W H : Int} {a : Option Addr} {n c : Nat} (h : Mb w b W H a n c) (hb : Below w.heap.size w w') : Mb w' b W H a n c :=
  ⟨cell_later hb h.1, cell_later hb h.2.1, cell_later hb h.2.2⟩
/-- two numbers in cells of their own -/
def Pb (w : World) (b : Nat) (x y : Int) : Prop := w.cell? ⟨b, 0, none⟩ = some (.int .i64 x) ∧ w.cell? ⟨b, 1, none⟩ = some (.int .i64 y)
theorem Pb.later {w w' : World} {b : Nat} {x y : Int} (h : Pb w b x y) (hb : Below w.heap.size w w') : Pb w' b x y := ⟨cell_later hb h.1, cell_later hb h.2⟩

set_option maxHeartbeats 1000000 in
theorem may_any (W H : Int) (a : Option Addr) (n c : Nat) (hn : n ≤ 9223372036854775807) (w : World) :
    Calls Tryz.prog 83 #[.agg #[.int .i64 W, .int .i64 H, .slice a n c]] w fun e w' => e = .returned (.bool (Rc.mayV W H n)) ∧ Below w.heap.size w w' := by
  have B := box1 w (.cells #[.int .i64 W, .int .i64 H, .slice a n c] 38)
  cases h : Rc.sized W H
  · have X := Lib.hid (show Rc.mayV W H n = false by simp [Rc.mayV, h])
    go_enter Tryz.func83, Tryz.ntmps83
    go_wp2_with (go_at_call 129; refine (mayMeasure_any W H _).mono ?_; rw [h]; rintro e w1 ⟨rfl, rfl⟩)
    go_ret
    exact ⟨ret_bR X.out.symm, B⟩
  · have X := Lib.hid (show ((n : Int) == W * H) = Rc.mayV W H n by simp [Rc.mayV, h]; rfl)
    have hm : wrap64 (W * H) = W * H := by
      obtain ⟨h1, h2, h3, h4, h5⟩ := Rc.sized_iff.1 h
      have q1 : 0 ≤ W * H := Int.mul_nonneg (by omega) (by omega)
      rw [IntWalk.wrap64_in] <;> omega
    go_enter Tryz.func83, Tryz.ntmps83
    go_wp2_with (go_at_call 129; refine (mayMeasure_any W H _).mono ?_; rw [h]; rintro e w1 ⟨rfl, rfl⟩)
    go_ret
    exact ⟨ret_bR X.out, B⟩
set_option maxHeartbeats 1000000 in
theorem refMayM_any (W H : Int) (a : Option Addr) (n c : Nat) (hn : n ≤ 9223372036854775807) (w : World) :
    Calls Tryz.prog 85 #[.agg #[.int .i64 W, .int .i64 H, .slice a n c]] w fun e w' => e = .returned (.bool (Rc.mayV W H n)) ∧ Below w.heap.size w w' := by
  have B := box1 w (.cells #[.int .i64 W, .int .i64 H, .slice a n c] 31)
  cases h : Rc.sized W H
  · have X := Lib.hid (show Rc.mayV W H n = false by simp [Rc.mayV, h])
    go_enter Tryz.func85, Tryz.ntmps85
    go_wp2_with (go_at_call 131; refine (refSized_any W H _).mono ?_; rw [h]; rintro e w1 ⟨rfl, rfl⟩)
    go_ret
    exact ⟨ret_bR X.out.symm, B⟩
  · have X := Lib.hid (show ((n : Int) == W * H) = Rc.mayV W H n by simp [Rc.mayV, h]; rfl)
    have hm : wrap64 (W * H) = W * H := by
      obtain ⟨h1, h2, h3, h4, h5⟩ := Rc.sized_iff.1 h
      have q1 : 0 ≤ W * H := Int.mul_nonneg (by omega) (by omega)
      rw [IntWalk.wrap64_in] <;> omega
    go_enter Tryz.func85, Tryz.ntmps85
    go_wp2_with (go_at_call 131; refine (refSized_any W H _).mono ?_; rw [h]; rintro e w1 ⟨rfl, rfl⟩)
    go_ret
    exact ⟨ret_bR X.out, B⟩
end Go.Proofs.YtmnhiagppicegaaGreat

/- A row's numbers, cut out of a matrix; a number of it; over any memory. Condition: the places lie in it. -/
namespace Go.Proofs.YtmnhiagppicegaaGreat
open Go.RowKit
set_option linter.unusedVariables false

theorem slk_pos {k : IntKind} {w : World} {a : Option Addr} {n : Nat} {zs : List Int} (h : SlK k w a n zs) (hn : 0 < n) : ∃ b off, a = some ⟨b, off, none⟩ ∧ ∀ i, i < n → w.cell? ⟨b, off + i, none⟩ = some (.int k (zs.getD i 0)) := by
  rcases h.2 with h | ⟨b, off, rfl, hc⟩
  · omega
  · exact ⟨b, off, rfl, hc⟩
/-- where a row of n numbers from x, y on lies -/
theorem place {W H x y n : Int} {L : List Int} (h : Rc.Ok W H L) (hx : Rc.insV x n W = true) (hy : Rc.insV y 1 H = true) :
    y * W + x = ((y.toNat * W.toNat + x.toNat : Nat) : Int) ∧ y * W = ((y.toNat * W.toNat : Nat) : Int) ∧ y.toNat * W.toNat + x.toNat + n.toNat ≤ L.length ∧ y.toNat * W.toNat + W.toNat ≤ L.length := by
  obtain ⟨h1, h2, h3, h4, h5, h6⟩ := h
  obtain ⟨a1, a2, a3, a4⟩ := Rc.insV_iff.1 hx
  obtain ⟨b1, b2, b3, b4⟩ := Rc.insV_iff.1 hy
  have e : y * W = ((y.toNat * W.toNat : Nat) : Int) := by rw [Int.natCast_mul, Int.toNat_of_nonneg (by omega), Int.toNat_of_nonneg (by omega)]
  have k : (y.toNat + 1) * W.toNat ≤ H.toNat * W.toNat := Nat.mul_le_mul_right _ (by omega)
  rw [Nat.succ_mul] at k
  exact ⟨by rw [Int.natCast_add, ← e]; omega, e, by omega, by omega⟩
end Go.Proofs.YtmnhiagppicegaaGreat

/- When two rows, and two matrices, are the same, by the program and by the document's own answer, over any memory. Condition: a length fits an int. -/
namespace Go.Proofs.YtmnhiagppicegaaGreat
open Go.RowKit
set_option linter.unusedVariables false

/-- two lists are the same up to k -/
def Alike (x y : List Int) (k : Nat) : Prop := ∀ i, i < k → x.getD i 0 = y.getD i 0
theorem alike_all {x y : List Int} {n : Nat} (hx : x.length = n) (hy : y.length = n) (h : Alike x y n) : x = y := by
  refine List.ext_getElem (by rw [hx, hy]) fun i h1 h2 => ?_
  have := h i (by omega)
  rw [List.getD_eq_getElem?_getD, List.getD_eq_getElem?_getD, List.getElem?_eq_getElem h1, List.getElem?_eq_getElem h2] at this
  simpa using this
theorem alike_succ {x y : List Int} {k : Nat} (h : Alike x y k) (e : x.getD k 0 = y.getD k 0) : Alike x y (k + 1) := fun i hi => by
  rcases Nat.lt_or_ge i k with h1 | h1
  · exact h i h1
  · obtain rfl : i = k := by omega
    exact e

set_option maxHeartbeats 1000000 in
theorem equal_any (a b : Option Addr) (n m ca cb : Nat) (x y : List Int) (w : World) (hn : n ≤ 9223372036854775807) (ha : SlK .u64 w a n x) (hb : SlK .u64 w b m y) :
    Calls Tryz.prog 106 #[.slice a n ca, .slice b m cb] w fun e w' => e = .returned (.bool (decide (x = y))) ∧ Below w.heap.size w w' := by
  by_cases h : n = m
  · subst h
    obtain ⟨lx, ha⟩ := ha
    obtain ⟨ly, hb⟩ := hb
    have LX := Lib.hid lx; clear lx
    have LY := Lib.hid ly; clear ly
    by_cases h0 : n = 0
    · subst h0
      have X := Lib.hid (show decide (x = y) = true by rw [decide_eq_true_iff, List.eq_nil_of_length_eq_zero LX.out, List.eq_nil_of_length_eq_zero LY.out])
      clear ha hb
      go_enter Tryz.func106, Tryz.ntmps106
      go_wp2
      go_rounds 1
      go_ret
      exact ⟨ret_bR X.out.symm, Below.refl _ _⟩
    · rcases ha with ha | ⟨ba, oa, rfl, ha⟩
      · omega
      rcases hb with hb | ⟨bb, ob, rfl, hb⟩
      · omega
      have HA := Lib.hid ha; clear ha
      have HB := Lib.hid hb; clear hb
      go_enter Tryz.func106, Tryz.ntmps106
      go_wp2
      go_loopw [13] (fun i wr => ∃ k q : Nat, k ≤ n ∧ i = .int .i64 k ∧ Alike x y k ∧ wr = w.drewN q) (fun i _ => n - (intOf i).toNat)
      case atStart => exact ⟨0, 0, Nat.zero_le _, rfl, (fun i hi => by omega), rfl⟩
      case round =>
        obtain ⟨k, q, hk, rfl, hal, rfl⟩ := hrel
        by_cases hlt : k < n
        · have hx := HA.out k hlt
          have hy := HB.out k hlt
          obtain ⟨u, hu⟩ : ∃ u, x.getD k 0 = u := ⟨_, rfl⟩
          obtain ⟨v, hv⟩ : ∃ v, y.getD k 0 = v := ⟨_, rfl⟩
          rw [hu] at hx; rw [hv] at hy
          have HU := Lib.hid hu; clear hu
          have HV := Lib.hid hv; clear hv
          have i0 : (0 : Int) ≤ (k : Int) := Int.natCast_nonneg _
          have i1 : (k : Int) < (n : Int) := by omega
          by_cases huv : u = v
          · subst huv
            go_wp2_with (go_quiet (fail))
            go_roundw
            case rel => exact ⟨k + 1, _, by omega, by go_num, alike_succ hal (by rw [HU.out, HV.out]), rfl⟩
            case measure => simp [intOf]; omega
          · have kk : (u != v) = true := by rw [bne_iff_ne]; exact huv
            have X := Lib.hid (show decide (x = y) = false by rw [decide_eq_false_iff_not]; intro e; apply huv; rw [← HU.out, ← HV.out, e])
            go_wp2_with (go_quiet (fail))
            go_ret
            exact ⟨ret_bR X.out.symm, below_drewN (below_drewN (Below.refl _ _) _) _⟩
        · obtain rfl : k = n := by omega
          have X := Lib.hid (show decide (x = y) = true by rw [decide_eq_true_iff]; exact alike_all LX.out LY.out hal)
          go_wp2
          go_ret
          exact ⟨ret_bR X.out.symm, below_drewN (Below.refl _ _) _⟩
  · have X := Lib.hid (show decide (x = y) = false by rw [decide_eq_false_iff_not]; intro e; apply h; rw [← ha.1, ← hb.1, e])
    have k : ((n : Int) != m) = true := by simp; omega
    go_enter Tryz.func106, Tryz.ntmps106
    go_wp2
    go_ret
    exact ⟨ret_bR X.out.symm, Below.refl _ _⟩

set_option maxHeartbeats 1000000 in
theorem sameRow_any (a b : Option Addr) (n m ca cb : Nat) (x y : List Int) (w : World) (hn : n ≤ 9223372036854775807) (ha : SlK .u64 w a n x) (hb : SlK .u64 w b m y) :
    Calls Tryz.prog 77 #[.slice a n ca, .slice b m cb] w fun e w' => e = .returned (.bool (decide (x = y))) ∧ Below w.heap.size w w' := by
  by_cases h : n = m
  · subst h
    obtain ⟨lx, ha⟩ := ha
    obtain ⟨ly, hb⟩ := hb
    have LX := Lib.hid lx; clear lx
    have LY := Lib.hid ly; clear ly
    by_cases h0 : n = 0
    · subst h0
      have X := Lib.hid (show decide (x = y) = true by rw [decide_eq_true_iff, List.eq_nil_of_length_eq_zero LX.out, List.eq_nil_of_length_eq_zero LY.out])
      clear ha hb
      go_enter Tryz.func77, Tryz.ntmps77
      go_wp2
      go_rounds 1
      go_ret
      exact ⟨ret_bR X.out.symm, Below.refl _ _⟩
    · rcases ha with ha | ⟨ba, oa, rfl, ha⟩
      · omega
      rcases hb with hb | ⟨bb, ob, rfl, hb⟩
      · omega
      have HA := Lib.hid ha; clear ha
      have HB := Lib.hid hb; clear hb
      go_enter Tryz.func77, Tryz.ntmps77
      go_wp2
      go_loopw [5] (fun i wr => ∃ k q : Nat, k ≤ n ∧ i = .int .i64 k ∧ Alike x y k ∧ wr = w.drewN q) (fun i _ => n - (intOf i).toNat)
      case atStart => exact ⟨0, 0, Nat.zero_le _, rfl, (fun i hi => by omega), rfl⟩
      case round =>
        obtain ⟨k, q, hk, rfl, hal, rfl⟩ := hrel
        by_cases hlt : k < n
        · have hx := HA.out k hlt
          have hy := HB.out k hlt
          obtain ⟨u, hu⟩ : ∃ u, x.getD k 0 = u := ⟨_, rfl⟩
          obtain ⟨v, hv⟩ : ∃ v, y.getD k 0 = v := ⟨_, rfl⟩
          rw [hu] at hx; rw [hv] at hy
          have HU := Lib.hid hu; clear hu
          have HV := Lib.hid hv; clear hv
          have i0 : (0 : Int) ≤ (k : Int) := Int.natCast_nonneg _
          have i1 : (k : Int) < (n : Int) := by omega
          by_cases huv : u = v
          · subst huv
            go_wp2_with (go_quiet (fail))
            go_roundw
            case rel => exact ⟨k + 1, _, by omega, by go_num, alike_succ hal (by rw [HU.out, HV.out]), rfl⟩
            case measure => simp [intOf]; omega
          · have kk : (u != v) = true := by rw [bne_iff_ne]; exact huv
            have X := Lib.hid (show decide (x = y) = false by rw [decide_eq_false_iff_not]; intro e; apply huv; rw [← HU.out, ← HV.out, e])
            go_wp2_with (go_quiet (fail))
            go_ret
            exact ⟨ret_bR X.out.symm, below_drewN (below_drewN (Below.refl _ _) _) _⟩
        · obtain rfl : k = n := by omega
          have X := Lib.hid (show decide (x = y) = true by rw [decide_eq_true_iff]; exact alike_all LX.out LY.out hal)
          go_wp2
          go_ret
          exact ⟨ret_bR X.out.symm, below_drewN (Below.refl _ _) _⟩
  · have X := Lib.hid (show decide (x = y) = false by rw [decide_eq_false_iff_not]; intro e; apply h; rw [← ha.1, ← hb.1, e])
    have k : ((n : Int) != m) = true := by simp; omega
    go_enter Tryz.func77, Tryz.ntmps77
    go_wp2
    go_ret
    exact ⟨ret_bR X.out.symm, Below.refl _ _⟩

set_option maxHeartbeats 1000000 in
theorem same_any (W H W2 H2 : Int) (a a2 : Option Addr) (n m c c2 : Nat) (L M : List Int) (w : World) (hn : n ≤ 9223372036854775807) (ha : SlK .u64 w a n L) (hb : SlK .u64 w a2 m M) :
    Calls Tryz.prog 61 #[.agg #[.int .i64 W, .int .i64 H, .slice a n c], .agg #[.int .i64 W2, .int .i64 H2, .slice a2 m c2]] w fun e w' => e = .returned (.bool (decide (W = W2) && (decide (H = H2) && decide (L = M)))) ∧ Below w.heap.size w w' := by
  have B := (box2 w (.cells #[.int .i64 W, .int .i64 H, .slice a n c] 38) (.cells #[.int .i64 W2, .int .i64 H2, .slice a2 m c2] 38))
  have HA := Lib.hid (ha.below B)
  have HB := Lib.hid (hb.below B)
  clear ha hb
  by_cases h1 : W = W2
  · by_cases h2 : H = H2
    · have X := Lib.hid (show (decide (W = W2) && (decide (H = H2) && decide (L = M))) = decide (L = M) by simp [h1, h2])
      subst h1 h2
      go_enter Tryz.func61, Tryz.ntmps61
      go_wp2_with (go_at_call 106; refine (equal_any a a2 n m c c2 L M _ hn HA.out HB.out).mono ?_; rintro e w1 ⟨rfl, hb⟩; replace B := bel_step B hb)
      go_ret
      exact ⟨ret_bR X.out.symm, B⟩
    · have X := Lib.hid (show (decide (W = W2) && (decide (H = H2) && decide (L = M))) = false by simp [h2])
      have k : (H == H2) = false := by simpa using h2
      have k1 : (W == W2) = true := by simpa using h1
      clear h1
      go_enter Tryz.func61, Tryz.ntmps61
      go_wp2
      go_ret
      exact ⟨ret_bR X.out.symm, B⟩
  · have X := Lib.hid (show (decide (W = W2) && (decide (H = H2) && decide (L = M))) = false by simp [h1])
    have k : (W == W2) = false := by simpa using h1
    go_enter Tryz.func61, Tryz.ntmps61
    go_wp2
    go_ret
    exact ⟨ret_bR X.out.symm, B⟩

set_option maxHeartbeats 1000000 in
theorem refSame_any (W H W2 H2 : Int) (a a2 : Option Addr) (n m c c2 : Nat) (L M : List Int) (w : World) (hn : n ≤ 9223372036854775807) (ha : SlK .u64 w a n L) (hb : SlK .u64 w a2 m M) :
    Calls Tryz.prog 60 #[.agg #[.int .i64 W, .int .i64 H, .slice a n c], .agg #[.int .i64 W2, .int .i64 H2, .slice a2 m c2]] w fun e w' => e = .returned (.bool (decide (W = W2) && (decide (H = H2) && decide (L = M)))) ∧ Below w.heap.size w w' := by
  have B := (box2 w (.cells #[.int .i64 W, .int .i64 H, .slice a n c] 31) (.cells #[.int .i64 W2, .int .i64 H2, .slice a2 m c2] 31))
  have HA := Lib.hid (ha.below B)
  have HB := Lib.hid (hb.below B)
  clear ha hb
  by_cases h1 : W = W2
  · by_cases h2 : H = H2
    · have X := Lib.hid (show (decide (W = W2) && (decide (H = H2) && decide (L = M))) = decide (L = M) by simp [h1, h2])
      subst h1 h2
      go_enter Tryz.func60, Tryz.ntmps60
      go_wp2_with (go_at_call 77; refine (sameRow_any a a2 n m c c2 L M _ hn HA.out HB.out).mono ?_; rintro e w1 ⟨rfl, hb⟩; replace B := bel_step B hb)
      go_ret
      exact ⟨ret_bR X.out.symm, B⟩
    · have X := Lib.hid (show (decide (W = W2) && (decide (H = H2) && decide (L = M))) = false by simp [h2])
      have k : (H == H2) = false := by simpa using h2
      have k1 : (W == W2) = true := by simpa using h1
      clear h1
      go_enter Tryz.func60, Tryz.ntmps60
      go_wp2
      go_ret
      exact ⟨ret_bR X.out.symm, B⟩
  · have X := Lib.hid (show (decide (W = W2) && (decide (H = H2) && decide (L = M))) = false by simp [h1])
    have k : (W == W2) = false := by simpa using h1
    go_enter Tryz.func60, Tryz.ntmps60
    go_wp2
    go_ret
    exact ⟨ret_bR X.out.symm, B⟩
end Go.Proofs.YtmnhiagppicegaaGreat

/- A matrix of noughts, and numbers in memory of the call's own, over any memory. Condition: numbers fit their kinds. -/
namespace Go.Proofs.YtmnhiagppicegaaGreat
open Go.RowKit
set_option linter.unusedVariables false

/-- numbers in a block of the call's own -/
def OwnG (base : Nat) (w : World) (g : Nat) (L : List Int) : Prop := base ≤ g ∧ w.heap[g]? = some (.cells (L.map (Value.int .u64)).toArray 26 (0, 0))
theorem OwnG.lt {base g : Nat} {w : World} {L : List Int} (h : OwnG base w g L) : g < w.heap.size := (Array.getElem?_eq_some_iff.1 h.2).1
theorem OwnG.later {base g : Nat} {w w' : World} {L : List Int} (h : OwnG base w g L) (hb : Below w.heap.size w w') : OwnG base w' g L := ⟨h.1, (hb.block g h.lt).trans h.2⟩
theorem OwnG.mono {base base' g : Nat} {w : World} {L : List Int} (h : OwnG base w g L) (hb : base' ≤ base) : OwnG base' w g L := ⟨Nat.le_trans hb h.1, h.2⟩
theorem OwnG.cell {base g : Nat} {w : World} {L : List Int} (h : OwnG base w g L) {i : Nat} (hi : i < L.length) : w.cell? ⟨g, i, none⟩ = some (.int .u64 (L.getD i 0)) := by
  simp [World.cell?, h.2, List.getD_eq_getElem?_getD, List.getElem?_eq_getElem hi]
theorem OwnG.sl {base g : Nat} {w : World} {L : List Int} (h : OwnG base w g L) : SlK .u64 w (some ⟨g, 0, none⟩) L.length L := by
  refine ⟨rfl, .inr ⟨g, 0, rfl, fun i hi => ?_⟩⟩
  rw [Nat.zero_add]; exact h.cell hi
theorem OwnG.own {base g : Nat} {w : World} {L : List Int} (h : OwnG base w g L) : OwnK .u64 base w (some ⟨g, 0, none⟩) L :=
  .inr ⟨g, rfl, h.1, h.lt, fun i hi => h.cell hi, fun i => by simp [World.frozen?, h.2]⟩
theorem heapNew (w : World) (o : Obj) : (w.alloc o).heap[w.heap.size]? = some o := World.alloc_heap_new w o
theorem heapOld (w : World) (o : Obj) {g : Nat} {x : Obj} (h : w.heap[g]? = some x) : (w.alloc o).heap[g]? = some x := by
  rw [Below.heap_alloc w o g (Array.getElem?_eq_some_iff.1 h).1]; exact h
theorem heapSet (w : World) (a : Addr) (v : Value) {g : Nat} {x : Obj} (h : w.heap[g]? = some x) (hne : g ≠ a.block) : (w.setCell a v).heap[g]? = some x := by
  rw [Below.heap_setCell w a v g hne]; exact h
theorem Tryz.info_px : (Tryz.prog.info? 26).map (fun i => (i.zero, i.size, i.bytes)) = some (some (.int .u64 0), 1, 8) := by kernel_rfl
theorem made_noughts (n : Nat) : madeCells #[Value.int .u64 0] n = ((List.replicate n (0 : Int)).map (Value.int .u64)).toArray := by
  apply Array.ext
  · simp [madeCells]
  · intro i h1 h2
    simp [madeCells, Nat.mod_one]

end Go.Proofs.YtmnhiagppicegaaGreat

/- A struct of three cells in a block of the call's own, as a result too; a row that is copied into one. No condition. -/
namespace Go.Proofs.YtmnhiagppicegaaGreat
open Go.RowKit
set_option linter.unusedVariables false

/-- three cells in a block of the call's own -/
def Sb (w : World) (b : Nat) (t : TypeId) (u v x : Value) : Prop := w.heap[b]? = some (.cells #[u, v, x] t (0, 0))
section
variable {w w' : World} {b : Nat} {t : TypeId} {u v x : Value}
theorem Sb.lt (h : Sb w b t u v x) : b < w.heap.size := (Array.getElem?_eq_some_iff.1 h).1
theorem Sb.later (h : Sb w b t u v x) (hb : Below w.heap.size w w') : Sb w' b t u v x := (hb.block b h.lt).trans h
theorem Sb.row (h : Sb w b t u v x) {g : Nat} (cs : Array Value) (hne : b ≠ g) : Sb (w.setRow g cs) b t u v x := (setRow_other w g b cs hne).trans h
theorem Sb.cells (h : Sb w b t u v x) : w.cell? ⟨b, 0, none⟩ = some u ∧ w.cell? ⟨b, 1, none⟩ = some v ∧ w.cell? ⟨b, 2, none⟩ = some x := by
  have h' : w.heap[b]? = _ := h
  refine ⟨?_, ?_, ?_⟩ <;> simp [World.cell?, h']
theorem Sb.fr (h : Sb w b t u v x) : w.frozen? ⟨b, 0, none⟩ = false ∧ w.frozen? ⟨b, 1, none⟩ = false ∧ w.frozen? ⟨b, 2, none⟩ = false := by
  have h' : w.heap[b]? = _ := h
  refine ⟨?_, ?_, ?_⟩ <;> simp [World.frozen?, h']
theorem Sb.new (w : World) (t : TypeId) (u v x : Value) : Sb (w.alloc (.cells #[u, v, x] t)) w.heap.size t u v x := World.alloc_heap_new w _
theorem Sb.alloc (h : Sb w b t u v x) (o : Obj) : Sb (w.alloc o) b t u v x := heapOld w o h
theorem Sb.put (h : Sb w b t u v x) (u' v' x' : Value) : Sb (((w.setCell ⟨b, 0, none⟩ u').setCell ⟨b, 1, none⟩ v').setCell ⟨b, 2, none⟩ x') b t u' v' x' := by
  have h' : w.heap[b]? = _ := h
  have h1 := Go.heap_setCell_same w b 0 _ t u' h'
  have h2 := Go.heap_setCell_same _ b 1 _ t v' h1
  have h3 := Go.heap_setCell_same _ b 2 _ t x' h2
  simpa [Sb] using h3
theorem Sb.set (h : Sb w b t u v x) (a : Addr) (y : Value) (hne : b ≠ a.block) : Sb (w.setCell a y) b t u v x := heapSet w a y h hne
theorem Sb.drew (h : Sb w b t u v x) : Sb w.drew b t u v x := h
theorem OwnG.drew {base g : Nat} {L : List Int} (h : OwnG base w g L) : OwnG base w.drew g L := h
theorem OwnG.set {base g : Nat} {L : List Int} (h : OwnG base w g L) (a : Addr) (y : Value) (hne : g ≠ a.block) : OwnG base (w.setCell a y) g L := ⟨h.1, heapSet w a y h.2 hne⟩
theorem OwnG.alloc {base g : Nat} {L : List Int} (h : OwnG base w g L) (o : Obj) : OwnG base (w.alloc o) g L := ⟨h.1, heapOld w o h.2⟩
end
theorem ret_cell2 {P : Program} {fn : Func} {p u : Tmp} {ty : TypeId} (h : fn.results = #[.cell p ty, .tmp u]) (tmps : Array Value) (w : World) (b : Nat) (val : Value) (hp : tmps.getD p undef = .pointer (some ⟨b, 0, none⟩)) (hl : (loadVar ty ⟨b, 0, none⟩).run P w = .ok val w) :
    (results fn tmps).run P w = .ok (.tuple #[val, tmps.getD u undef]) w := by
  rw [results_cell_tmp h, hp]
  simp [asAddr, Result.andThen, hl]
theorem Tryz.size_px : (Tryz.prog.info? 26).map (·.size) = some 1 := by kernel_rfl
theorem ownG_row {base g : Nat} {w : World} {L : List Int} (h : OwnG base w g L) (off : Nat) (cs : List Int) : OwnG base (w.setRow g (splice (L.map (Value.int .u64)) off (cs.map (Value.int .u64))).toArray) g (splice L off cs) := by
  refine ⟨h.1, ?_⟩
  rw [setRow_heap w g _ _ _ _ h.2]
  simp [splice]
theorem one_px (zs : List Int) : ∀ u ∈ zs.map (Value.int .u64), u.oneCell' = true := by
  intro u hu
  obtain ⟨y, _, rfl⟩ := List.mem_map.1 hu
  rfl
end Go.Proofs.YtmnhiagppicegaaGreat

/- A part of a matrix, in memory of the call's own. Condition: numbers fit their kinds. -/
namespace Go.Proofs.YtmnhiagppicegaaGreat
open Go.RowKit
end Go.Proofs.YtmnhiagppicegaaGreat

/- A part of a matrix, its rows, its columns, whatever places are told. Condition: numbers fit their kinds. -/
namespace Go.Proofs.YtmnhiagppicegaaGreat
open Go.RowKit
set_option linter.unusedVariables false

def rowV (W H : Int) (L : List Int) (y : Int) : List Int := (Rc.subV W H L 0 y W 1).2.2.1
end Go.Proofs.YtmnhiagppicegaaGreat

/- Where a matrix stands in another one, by the program's own search. Condition: the places lie within. -/
namespace Go.Proofs.YtmnhiagppicegaaGreat
open Go.RowKit
set_option linter.unusedVariables false

/-- two cells in a block of the call's own -/
def Pc (w : World) (b : Nat) (t : TypeId) (x y : Int) : Prop := w.heap[b]? = some (.cells #[.int .i64 x, .int .i64 y] t (0, 0))
theorem Pc.cells {w : World} {b : Nat} {t : TypeId} {x y : Int} (h : Pc w b t x y) : w.cell? ⟨b, 0, none⟩ = some (.int .i64 x) ∧ w.cell? ⟨b, 1, none⟩ = some (.int .i64 y) := by
  have h' : w.heap[b]? = _ := h
  refine ⟨?_, ?_⟩ <;> simp [World.cell?, h']
theorem Sb.below {w w' : World} {b B : Nat} {t : TypeId} {u v x : Value} (h : Sb w b t u v x) (hb : Below B w w') (hlt : b < B) : Sb w' b t u v x := (hb.block b hlt).trans h
theorem Pc.below {w w' : World} {b B : Nat} {t : TypeId} {x y : Int} (h : Pc w b t x y) (hb : Below B w w') (hlt : b < B) : Pc w' b t x y := (hb.block b hlt).trans h
/-- what stands through all rounds of a search -/
structure SF (w wr : World) (t s : TypeId) (u1 v1 x1 u2 v2 x2 : Value) (fx fy lx ly : Int) : Prop where
  bel : Below w.heap.size w wr
  m : Sb wr w.heap.size t u1 v1 x1
  o : Sb wr (w.heap.size + 1) t u2 v2 x2
  lo : Pc wr (w.heap.size + 1 + 1) s fx fy
  hi : Pc wr (w.heap.size + 1 + 1 + 1) s lx ly
  size : w.heap.size + 4 ≤ wr.heap.size
theorem SF.later {w wr w' : World} {t s : TypeId} {u1 v1 x1 u2 v2 x2 : Value} {fx fy lx ly : Int} (h : SF w wr t s u1 v1 x1 u2 v2 x2 fx fy lx ly) (hb : Below (w.heap.size + 4) wr w') : SF w w' t s u1 v1 x1 u2 v2 x2 fx fy lx ly :=
  ⟨h.bel.trans (hb.mono (by omega)), h.m.below hb (by omega), h.o.below hb (by omega), h.lo.below hb (by omega), h.hi.below hb (by omega), Nat.le_trans h.size hb.size⟩
theorem flat_succ {α : Type} (f : Nat → List α) (n : Nat) : (List.range (n + 1)).flatMap f = (List.range n).flatMap f ++ f n := by rw [List.range_succ, List.flatMap_append]; simp
/-- how many places at most -/
theorem flat_le {n : Nat} {f : Nat → List (Int × Int)} {m : Nat} (h : ∀ k, (f k).length ≤ m) : ((List.range n).flatMap f).length ≤ n * m := by
  induction n with
  | zero => simp
  | succ n ih => rw [flat_succ, List.length_append, Nat.succ_mul]; have := h n; omega
theorem ownsRow_later {w w' : World} {base size n : Nat} {e : TypeId} {v : Value} {xs : List Value} (h : w.ownsRow base e size v n xs) (hb : Below w.heap.size w w') : w'.ownsRow base e size v n xs := by
  obtain ⟨h1, h2⟩ := h
  refine ⟨h1, ?_⟩
  rcases h2 with h2 | ⟨g, cap, cur, rfl, hbs, hg, r⟩
  · exact .inl h2
  · exact .inr ⟨g, cap, cur, rfl, hbs, (hb.block g (Array.getElem?_eq_some_iff.1 hg).1).trans hg, r⟩
end Go.Proofs.YtmnhiagppicegaaGreat

/- Whether, and where, a matrix stands in another one, by the program. Condition: both may be. -/
namespace Go.Proofs.YtmnhiagppicegaaGreat
open Go.RowKit
set_option linter.unusedVariables false

end Go.Proofs.YtmnhiagppicegaaGreat

/- A matrix of rows, by the program. Condition: rows' lengths fit an int. -/
namespace Go.Proofs.YtmnhiagppicegaaGreat
open Go.RowKit
set_option linter.unusedVariables false

/-- what is known of a slice of slices of integers -/
def RowsK (w : World) (a : Option Addr) (n : Nat) (R : List (List Int)) : Prop :=
  R.length = n ∧ (n = 0 ∨ ∃ b off, a = some ⟨b, off, none⟩ ∧ ∀ i, i < n → ∃ ai ci, w.cell? ⟨b, off + i, none⟩ = some (.slice ai (R.getD i []).length ci) ∧ SlK .u64 w ai (R.getD i []).length (R.getD i []))
theorem RowsK.later {w w' : World} {a : Option Addr} {n : Nat} {R : List (List Int)} (h : RowsK w a n R) (hb : Below w.heap.size w w') : RowsK w' a n R := by
  obtain ⟨h1, h2⟩ := h
  refine ⟨h1, ?_⟩
  rcases h2 with h2 | ⟨b, off, ha, hc⟩
  · exact .inl h2
  · refine .inr ⟨b, off, ha, fun i hi => ?_⟩
    obtain ⟨ai, ci, k1, k2⟩ := hc i hi
    exact ⟨ai, ci, cell_later hb k1, k2.below hb⟩
end Go.Proofs.YtmnhiagppicegaaGreat

/- A matrix of rows, by the program, and its example. Condition: rows' lengths fit an int. -/
namespace Go.Proofs.YtmnhiagppicegaaGreat
open Go.RowKit
set_option linter.unusedVariables false

theorem slk_src {w : World} {a : Option Addr} {n : Nat} {zs : List Int} (h : SlK .u64 w a n zs) (hn : 0 < n) : ∃ ad, a = some ad ∧ ∀ j v, (zs.map (Value.int .u64))[j]? = some v → w.cell? (ad.add j) = some v := by
  obtain ⟨b, off, rfl, hc⟩ := slk_pos h hn
  refine ⟨_, rfl, fun j v hv => ?_⟩
  rw [List.getElem?_map] at hv
  rcases Nat.lt_or_ge j zs.length with hj | hj
  · rw [List.getElem?_eq_getElem hj] at hv
    rw [addrK_add, hc j (by rw [← h.1]; exact hj), ← hv, List.getD_eq_getElem?_getD, List.getElem?_eq_getElem hj]; rfl
  · rw [List.getElem?_eq_none hj] at hv; cases hv
theorem wpList_copy_row {P : Program} {w : World} {ops : Array Oper} {rest : List Oper} {o : Oper} {a : Act} {Q : Exit → Act → World → Prop} (hgd : o.guard = none) (d s : Operand) (dT sT : TypeId)
    (ho : o.op = .call { callee := .builtin .copy, args := #[d, s], argTypes := #[dT, sT] }) (elem : TypeId) (hu : P.underlying dT = some (.slice elem)) (hsz : (P.info? elem).map (·.size) = some 1)
    (g off dLen dCap : Nat) (ad : Addr) (sLen sCap : Nat) (hd : a.eval d = .slice (some ⟨g, off, none⟩) dLen dCap) (hs : a.eval s = .slice (some ad) sLen sCap)
    (cur : List Value) (t : TypeId) (hg : w.heap[g]? = some (.cells cur.toArray t (0, 0))) (cs : List Value) (hn : cs.length = Nat.min sLen dLen)
    (hsrc : ∀ j v, cs[j]? = some v → w.cell? (ad.add j) = some v) (hfit : off + cs.length ≤ cur.length) (h1 : ∀ v ∈ cs, v.oneCell' = true)
    (h : ∀ v9, wpList P ops Q rest (a.put o.dst v9) (w.setRow g (splice cur off cs).toArray)) : wpList P ops Q (o :: rest) a w := by
  refine wpList_copy_own hgd d s dT sT ho elem hu hsz g off dLen dCap ad sLen sCap hd hs cur.toArray t hg cs hn hsrc (by simpa using hfit) h1 ?_
  have h' := h (goInt cs.length)
  unfold splice at h'
  exact h'
end Go.Proofs.YtmnhiagppicegaaGreat

/- The chapter's example, over any memory. No condition. -/
namespace Go.Proofs.YtmnhiagppicegaaGreat
open Go.RowKit
set_option linter.unusedVariables false

end Go.Proofs.YtmnhiagppicegaaGreat

/- A struct's slice that grows, the struct in a block of the call's own. No condition. -/
namespace Go.Proofs.YtmnhiagppicegaaGreat
open Go.RowKit
set_option linter.unusedVariables false

theorem Sb.setL {w : World} {b : Nat} {t : TypeId} {u v x : Value} (h : Sb w b t u v x) (y : Value) : Sb (w.setCell ⟨b, 2, none⟩ y) b t u v y := by
  have h' : w.heap[b]? = _ := h
  have h1 := Go.heap_setCell_same w b 2 _ t y h'
  simpa [Sb] using h1
theorem ownsRow_set {w : World} {base size n : Nat} {e : TypeId} {v : Value} {xs : List Value} (h : w.ownsRow base e size v n xs) {a : Addr} (ha : a.block < base) (y : Value) : (w.setCell a y).ownsRow base e size v n xs := by
  obtain ⟨h1, h2⟩ := h
  refine ⟨h1, ?_⟩
  rcases h2 with h2 | ⟨g, cap, cur, rfl, hbs, hg, r⟩
  · exact .inl h2
  · exact .inr ⟨g, cap, cur, rfl, hbs, heapSet w a y hg (by omega), r⟩
theorem pushL0 {W w1 : World} {b base : Nat} {T e : TypeId} {u1 u2 v v' : Value} {k m size : Nat} {xs ys : List Value}
    (hbox : Sb W b T u1 u2 v) (hrow : W.ownsRow base e size v k xs) (hlt : b < base) (hsz : base ≤ W.heap.size) (hown' : w1.ownsRow base e size v' m ys) (hgrow : W.grownBy w1 v.ownBlock) :
    Sb w1 b T u1 u2 v ∧ Sb (w1.setCell ⟨b, 2, none⟩ v') b T u1 u2 v' ∧ (w1.setCell ⟨b, 2, none⟩ v').ownsRow base e size v' m ys ∧ (∀ B, B ≤ b → Below B W (w1.setCell ⟨b, 2, none⟩ v')) ∧ base ≤ (w1.setCell ⟨b, 2, none⟩ v').heap.size := by
  have hb : ∀ j, v.ownBlock = some j → base ≤ j := fun j ej => (hrow.lt j ej).1
  have hBe : Below base W w1 := (Below.refl base W).grown hgrow hsz hb
  have h1 : Sb w1 b T u1 u2 v := hbox.below hBe hlt
  refine ⟨h1, h1.setL v', ownsRow_set hown' hlt v', fun B hB => (hBe.mono (by omega)).setCell hB v', ?_⟩
  have := hBe.size
  simp; omega
theorem pushL {W w1 : World} {b base : Nat} {T e : TypeId} {u1 u2 v v' : Value} {k m size : Nat} {xs ys : List Value} {tmp : Obj}
    (hbox : Sb W b T u1 u2 v) (hrow : W.ownsRow base e size v k xs) (hlt : b < base) (hsz : base ≤ W.heap.size) (hown' : w1.ownsRow base e size v' m ys) (hgrow : (W.alloc tmp).grownBy w1 v.ownBlock) :
    Sb w1 b T u1 u2 v ∧ Sb (w1.setCell ⟨b, 2, none⟩ v') b T u1 u2 v' ∧ (w1.setCell ⟨b, 2, none⟩ v').ownsRow base e size v' m ys ∧ (∀ B, B ≤ b → Below B W (w1.setCell ⟨b, 2, none⟩ v')) ∧ base ≤ (w1.setCell ⟨b, 2, none⟩ v').heap.size := by
  obtain ⟨h1, h2, h3, h4, h5⟩ := pushL0 (hbox.alloc tmp) (hrow.alloc tmp) hlt (by simp; omega) hown' hgrow
  exact ⟨h1, h2, h3, fun B hB => ((Below.refl B W).alloc (by omega) tmp).trans (h4 B hB), h5⟩
theorem bel_drewN {B : Nat} {a w : World} (h : Below B a w) (n : Nat) : Below B a (w.drewN n) := ⟨h.os, h.tape, h.output, h.size, h.block⟩
end Go.Proofs.YtmnhiagppicegaaGreat

/- A matrix that may be, made of any, by the document. Condition: numbers fit their kinds. -/
namespace Go.Proofs.YtmnhiagppicegaaGreat
open Go.RowKit
set_option linter.unusedVariables false

theorem around_i {n m : Int} (h : I64 n) (hm : 0 < m) (hm2 : m ≤ 9223372036854775807) (w : World) :
    Calls Tryz.prog 11 #[.int .i64 n, .int .i64 m] w fun e w' => e = .returned (.int .i64 (Ar.around n m)) ∧ w = w' := aroundOf n m h.1 h.2 hm hm2 w
theorem Pc.lt {w : World} {b : Nat} {t : TypeId} {x y : Int} (h : Pc w b t x y) : b < w.heap.size := (Array.getElem?_eq_some_iff.1 h).1
/-- the i-th number of a matrix made of others -/
def goodAt (zs : List Int) (i : Nat) : Int := if zs = [] then 0 else zs.getD (i % zs.length) 0 % 3
def goodL (zs : List Int) (n : Nat) : List Int := (List.range n).map (goodAt zs)
def goodW (W most : Int) : Int := 1 + Ar.around W most
theorem goodL_len (zs : List Int) (n : Nat) : (goodL zs n).length = n := by simp [goodL]
theorem goodW_in (W most : Int) (h : 0 < most) : 1 ≤ goodW W most ∧ goodW W most ≤ most := by have := Ar.around_lt W most h; unfold goodW; omega
/-- the matrix -/
def goodM (W H most : Int) (zs : List Int) : List Int := goodL zs ((goodW H most).toNat * (goodW W most).toNat)
theorem good_ok (W H most : Int) (zs : List Int) (h : 0 < most) (h8 : most ≤ 8) : Rc.Ok (goodW W most) (goodW H most) (goodM W H most zs) := by
  obtain ⟨a1, a2⟩ := goodW_in W most h
  obtain ⟨b1, b2⟩ := goodW_in H most h
  refine ⟨a1, by omega, b1, by omega, ?_, goodL_len _ _⟩
  have := Int.mul_le_mul a2 b2 (by omega) (by omega : (0:Int) ≤ most)
  have h64 : most * most ≤ 8 * 8 := Int.mul_le_mul h8 h8 (by omega) (by omega)
  omega
theorem ownK_set {q : IntKind} {base : Nat} {w : World} {ad : Option Addr} {zs : List Int} (h : OwnK q base w ad zs) {a : Addr} (ha : a.block < base) (y : Value) : OwnK q base (w.setCell a y) ad zs := by
  rcases h with h | ⟨g, h1, h2, h3, h4, h5⟩
  · exact .inl h
  · refine .inr ⟨g, h1, h2, by simpa using h3, fun i hi => ?_, fun i => ?_⟩
    · rw [World.cell?_setCell_other _ _ _ _ (fun e => by have := congrArg Addr.block e; simp at this; omega)]; exact h4 i hi
    · rw [World.frozen?_setCell]; exact h5 i
end Go.Proofs.YtmnhiagppicegaaGreat

/- A row, a column, a part, by the document. Condition: the matrix may be. -/
namespace Go.Proofs.YtmnhiagppicegaaGreat
open Go.RowKit
set_option linter.unusedVariables false

end Go.Proofs.YtmnhiagppicegaaGreat

/- A part of a matrix by the document's own answer, over any memory. Condition: the matrix may be. -/
namespace Go.Proofs.YtmnhiagppicegaaGreat
open Go.RowKit
set_option linter.unusedVariables false

end Go.Proofs.YtmnhiagppicegaaGreat

/- Plain facts on pixels as numbers: which numbers are pixels, which samples they have, and what is made of them. No condition. -/
namespace Go.Proofs.YtmnhiagppicegaaGreat
open Go.RowKit
namespace Pq
namespace Px

def hiP (p : Int) : Int := p / 281474976710656
def loP (p : Int) : Int := p % 281474976710656
/-- a pixel's samples -/
def smp (p : Int) : List Int :=
  if hiP p = 3 then [loP p / 4294967296, loP p / 65536 % 65536, loP p % 65536]
  else if hiP p = 1 ∧ loP p < 65536 then [loP p] else []
def Is3 (p a b c : Int) : Prop := p = 844424930131968 + a * 4294967296 + b * 65536 + c ∧ 0 ≤ a ∧ a ≤ 65535 ∧ 0 ≤ b ∧ b ≤ 65535 ∧ 0 ≤ c ∧ c ≤ 65535
def Is1 (p a : Int) : Prop := p = 281474976710656 + a ∧ 0 ≤ a ∧ a ≤ 65535
def Is0 (p : Int) : Prop := ¬ hiP p = 3 ∧ ¬ (hiP p = 1 ∧ loP p < 65536)
/-- a number fits a pixel's kind -/
def U (p : Int) : Prop := 0 ≤ p ∧ p ≤ 18446744073709551615
def I (n : Int) : Prop := -9223372036854775808 ≤ n ∧ n ≤ 9223372036854775807

theorem tri {p : Int} (h : U p) : (∃ a b c, Is3 p a b c) ∨ (∃ a, Is1 p a) ∨ Is0 p := by
  obtain ⟨h0, h1⟩ := h
  by_cases h3 : hiP p = 3
  · refine .inl ⟨loP p / 4294967296, loP p / 65536 % 65536, loP p % 65536, ?_⟩
    unfold hiP at h3; unfold Is3 loP; omega
  · by_cases h2 : hiP p = 1 ∧ loP p < 65536
    · refine .inr (.inl ⟨loP p, ?_⟩)
      unfold hiP loP at h2; unfold Is1 loP; omega
    · exact .inr (.inr ⟨h3, h2⟩)
theorem smp3 {p a b c : Int} (h : Is3 p a b c) : smp p = [a, b, c] := by
  obtain ⟨h0, h⟩ := h
  have e : hiP p = 3 := by unfold hiP; omega
  have e1 : loP p / 4294967296 = a := by unfold loP; omega
  have e2 : loP p / 65536 % 65536 = b := by unfold loP; omega
  have e3 : loP p % 65536 = c := by unfold loP; omega
  unfold smp; rw [if_pos e, e1, e2, e3]
theorem smp1 {p a : Int} (h : Is1 p a) : smp p = [a] := by
  obtain ⟨h0, h⟩ := h
  have e : ¬ hiP p = 3 := by unfold hiP; omega
  have e1 : loP p = a := by unfold loP; omega
  have e2 : hiP p = 1 ∧ loP p < 65536 := by unfold hiP loP; omega
  unfold smp; rw [if_neg e, if_pos e2, e1]
theorem smp0 {p : Int} (h : Is0 p) : smp p = [] := by
  unfold smp; rw [if_neg h.1, if_neg h.2]

theorem and16 (x : Int) (h0 : 0 ≤ x) (h1 : x ≤ 18446744073709551615) : bits .and .u64 x 65535 = x % 65536 := by
  rw [u64_and x 65535 h0 (by omega) (by omega) (by omega)]
  have e : (65535 : Int).toNat = 2 ^ 16 - 1 := by decide
  rw [e, Nat.and_two_pow_sub_one_eq_mod]
  omega
theorem or16 (x s : Int) (h0 : 0 ≤ x) (h1 : x < 281474976710656) (h2 : 0 ≤ s) (h3 : s < 65536) : bits .or .u64 (x * 65536) s = x * 65536 + s := by
  rw [u64_or (x * 65536) s (by omega) (by omega) h2 (by omega)]
  obtain ⟨X, rfl⟩ := Int.eq_ofNat_of_zero_le h0
  obtain ⟨S, rfl⟩ := Int.eq_ofNat_of_zero_le h2
  have e1 : ((X : Int) * 65536).toNat = 2 ^ 16 * X := by omega
  rw [e1, Int.toNat_natCast, ← Nat.two_pow_add_eq_or_of_lt (by omega : S < 2 ^ 16)]
  omega
theorem or48 (n s : Int) (h0 : 0 ≤ n) (h1 : n < 65536) (h2 : 0 ≤ s) (h3 : s < 281474976710656) : bits .or .u64 (n * 281474976710656) s = n * 281474976710656 + s := by
  rw [u64_or (n * 281474976710656) s (by omega) (by omega) h2 (by omega)]
  obtain ⟨X, rfl⟩ := Int.eq_ofNat_of_zero_le h0
  obtain ⟨S, rfl⟩ := Int.eq_ofNat_of_zero_le h2
  have e1 : ((X : Int) * 281474976710656).toNat = 2 ^ 48 * X := by omega
  rw [e1, Int.toNat_natCast, ← Nat.two_pow_add_eq_or_of_lt (by omega : S < 2 ^ 48)]
  omega
theorem or0 (s : Int) (h2 : 0 ≤ s) (h3 : s < 65536) : bits .or .u64 0 s = s := by
  have := or16 0 s (by omega) (by omega) h2 h3; simpa using this

theorem u64w (n : Int) (h0 : 0 ≤ n) (h1 : n ≤ 18446744073709551615) : IntKind.u64.wrap n = n := IntWalk.u64_in n ⟨h0, h1⟩
theorem join3v (a b c : Int) (ha0 : 0 ≤ a) (ha1 : a ≤ 65535) (hb0 : 0 ≤ b) (hb1 : b ≤ 65535) (hc0 : 0 ≤ c) (hc1 : c ≤ 65535) :
    bits .or .u64 844424930131968 (bits .or .u64 (IntKind.u64.wrap (bits .or .u64 (IntKind.u64.wrap (bits .or .u64 0 a * 65536)) b * 65536)) c) = 844424930131968 + a * 4294967296 + b * 65536 + c := by
  have e1 := or0 a ha0 (by omega)
  have e2 := u64w (a * 65536) (by omega) (by omega)
  have e3 := or16 a b ha0 (by omega) hb0 (by omega)
  have e4 := u64w ((a * 65536 + b) * 65536) (by omega) (by omega)
  have e5 := or16 (a * 65536 + b) c (by omega) (by omega) hc0 (by omega)
  have e6 := or48 3 ((a * 65536 + b) * 65536 + c) (by omega) (by omega) (by omega) (by omega)
  have e7 : (3 : Int) * 281474976710656 = 844424930131968 := rfl
  rw [e1, e2, e3, e4, e5, ← e7, e6]; omega
theorem join1v (a : Int) (ha0 : 0 ≤ a) (ha1 : a ≤ 65535) : bits .or .u64 281474976710656 (bits .or .u64 0 a) = 281474976710656 + a := by
  have e1 := or0 a ha0 (by omega)
  have e6 := or48 1 a (by omega) (by omega) (by omega) (by omega)
  have e7 : (1 : Int) * 281474976710656 = 281474976710656 := rfl
  rw [e1, ← e7, e6]

/-- what the document makes of samples -/
def okS (s : Int) : Bool := decide (0 ≤ s) && decide (s ≤ 65535)
def packV : List Int → Int × Int
  | [a] => if okS a then (281474976710656 + a, 0) else (0, 4)
  | [a, b, c] => if okS a && okS b && okS c then (844424930131968 + a * 4294967296 + b * 65536 + c, 0) else (0, 4)
  | _ => (0, 1)
theorem packV3_bad {x y z : Int} (h : x < 0 ∨ 65535 < x ∨ y < 0 ∨ 65535 < y ∨ z < 0 ∨ 65535 < z) : packV [x, y, z] = (0, 4) := by
  show (if (okS x && okS y && okS z) = true then _ else _) = _
  rw [if_neg]; simp [okS]; omega
theorem packV3 {x y z : Int} (hx0 : 0 ≤ x) (hx1 : x ≤ 65535) (hy0 : 0 ≤ y) (hy1 : y ≤ 65535) (hz0 : 0 ≤ z) (hz1 : z ≤ 65535) : packV [x, y, z] = (844424930131968 + x * 4294967296 + y * 65536 + z, 0) := by
  simp [packV, okS, hx0, hx1, hy0, hy1, hz0, hz1]
theorem packV3_badS {x y z : Int} (h : okS x = false ∨ okS y = false ∨ okS z = false) : packV [x, y, z] = (0, 4) := by
  show (if (okS x && okS y && okS z) = true then _ else _) = _
  rw [if_neg]; rcases h with h | h | h <;> simp [h]
theorem packV1_badS {x : Int} (h : okS x = false) : packV [x] = (0, 4) := by
  show (if okS x = true then _ else _) = _
  rw [if_neg]; simp [h]
theorem okS_of {x : Int} (h : okS x = true) : 0 ≤ x ∧ x ≤ 65535 := by simpa [okS] using h
theorem packV1_bad {x : Int} (h : x < 0 ∨ 65535 < x) : packV [x] = (0, 4) := by
  show (if okS x = true then _ else _) = _
  rw [if_neg]; simp [okS]; omega
theorem packV1 {x : Int} (hx0 : 0 ≤ x) (hx1 : x ≤ 65535) : packV [x] = (281474976710656 + x, 0) := by
  simp [packV, okS, hx0, hx1]
theorem packV_len {zs : List Int} (h1 : ¬ zs.length = 1) (h3 : ¬ zs.length = 3) : packV zs = (0, 1) := by
  match zs with
  | [] => rfl
  | [_] => simp at h1
  | [_, _] => rfl
  | [_, _, _] => simp at h3
  | _ :: _ :: _ :: _ :: _ => rfl
def mayV (p : Int) : Bool := !(smp p).isEmpty
def formatV (c m : Int) : Bool := (c == 1 || c == 3) && (decide (1 ≤ m) && decide (m ≤ 65535))
def fitsV (p c m : Int) : Bool := formatV c m && ((smp p).length == c.toNat && (smp p).all fun s => decide (s ≤ m))
def aroundV (n most : Int) : Int := (if n < 0 then -(n + 1) else n) % most
def formM (m : Int) : Int := 1 + aroundV m 65535
def goodL (zs : List Int) (m : Int) : Nat → List Int
  | 0 => []
  | k + 1 => (match zs with | [] => 0 | z :: _ => aroundV z (m + 1)) :: goodL zs.tail m k
def goodV (zs : List Int) (c m : Int) : Int := (packV (goodL zs m c.toNat)).1

theorem fitsV3 {p a b d : Int} (h : Is3 p a b d) (m : Int) : fitsV p 3 m = (formatV 3 m && decide (max (max a b) d ≤ m)) := by
  unfold fitsV; rw [smp3 h]
  by_cases h1 : a ≤ m <;> by_cases h2 : b ≤ m <;> by_cases h3 : d ≤ m <;> simp [h1, h2, h3] <;> omega
theorem fitsV1 {p a : Int} (h : Is1 p a) (m : Int) : fitsV p 1 m = (formatV 1 m && decide (a ≤ m)) := by
  unfold fitsV; rw [smp1 h]
  by_cases h1 : a ≤ m <;> simp [h1]
theorem fitsV_bad {p c m : Int} (h : formatV c m = false) : fitsV p c m = false := by unfold fitsV; rw [h]; rfl
theorem formatC {c m : Int} (h : formatV c m = true) : c = 1 ∨ c = 3 := by
  simp [formatV] at h; exact h.1
theorem formatM {c m : Int} (h : formatV c m = true) : 1 ≤ m ∧ m ≤ 65535 := by
  simp [formatV] at h; exact h.2
theorem fitsV_len {p c m : Int} (h : ((smp p).length : Int) ≠ c) : fitsV p c m = false := by
  cases hf : formatV c m
  · exact fitsV_bad hf
  · unfold fitsV
    have := formatC hf
    rw [show ((smp p).length == c.toNat) = false by rw [beq_eq_false_iff_ne]; omega]; simp
theorem around_lt (n most : Int) (h : 0 < most) : 0 ≤ aroundV n most ∧ aroundV n most < most := by
  unfold aroundV; exact ⟨Int.emod_nonneg _ (by omega), Int.emod_lt_of_pos _ h⟩
end Px
end Pq
end Go.Proofs.YtmnhiagppicegaaGreat

/- More plain facts on pixels as numbers: formats, gray, dark for light, another greatest sample. No condition. -/
namespace Go.Proofs.YtmnhiagppicegaaGreat
open Go.RowKit
namespace Pq
namespace Px
theorem fitsV_iff {p c m : Int} : fitsV p c m = (formatV c m && (((smp p).length : Int) == c && (smp p).all fun s => decide (s ≤ m))) := by
  cases hf : formatV c m
  · exact fitsV_bad hf
  · have hc := formatC hf
    unfold fitsV
    rw [hf, show ((smp p).length == c.toNat) = (((smp p).length : Int) == c) by rw [Bool.eq_iff_iff, beq_iff_eq, beq_iff_eq]; omega]
theorem fitsV3_all {p a b d c m : Int} (h : Is3 p a b d) (ha : a ≤ m) (hb : b ≤ m) (hd : d ≤ m) : fitsV p c m = (formatV c m && ((3 : Int) == c)) := by
  rw [fitsV_iff, smp3 h]; simp [ha, hb, hd]
theorem fitsV3_bad {p a b d c m : Int} (h : Is3 p a b d) (hx : m < a ∨ m < b ∨ m < d) : fitsV p c m = false := by
  rw [fitsV_iff, smp3 h]; simp; intros; omega
theorem fitsV1_all {p a c m : Int} (h : Is1 p a) (ha : a ≤ m) : fitsV p c m = (formatV c m && ((1 : Int) == c)) := by
  rw [fitsV_iff, smp1 h]; simp [ha]
theorem fitsV1_bad {p a c m : Int} (h : Is1 p a) (hx : m < a) : fitsV p c m = false := by
  rw [fitsV_iff, smp1 h]; simp; intros; omega
theorem fitsV0 {p c m : Int} (h : Is0 p) : fitsV p c m = false := by
  cases hf : formatV c m
  · exact fitsV_bad hf
  · have := formatC hf
    exact fitsV_len (by rw [smp0 h]; simp; omega)
theorem fits3_get {p a b d c m : Int} (h : Is3 p a b d) (hf : fitsV p c m = true) : c = 3 ∧ a ≤ m ∧ b ≤ m ∧ d ≤ m ∧ 1 ≤ m ∧ m ≤ 65535 := by
  rw [fitsV_iff, smp3 h] at hf
  simp at hf
  have := formatM hf.1
  omega
theorem fits1_get {p a c m : Int} (h : Is1 p a) (hf : fitsV p c m = true) : c = 1 ∧ a ≤ m ∧ 1 ≤ m ∧ m ≤ 65535 := by
  rw [fitsV_iff, smp1 h] at hf
  simp at hf
  have := formatM hf.1
  omega
theorem fits0_no {p c m : Int} (h : Is0 p) (hf : fitsV p c m = true) : False := by rw [fitsV0 h] at hf; cases hf
end Px
end Pq
end Go.Proofs.YtmnhiagppicegaaGreat

/- Plain facts on numbers as texts and as bytes: digits, decimals, bytes of a number. No condition. -/
namespace Go.Proofs.YtmnhiagppicegaaGreat
open Go.RowKit
set_option linter.unusedVariables false
namespace Nu

def I (n : Int) : Prop := -9223372036854775808 ≤ n ∧ n ≤ 9223372036854775807
/-- a number's digits to a base, the lowest first -/
def dig (b n : Int) : List Int :=
  if h : 2 ≤ b ∧ b ≤ n then n % b :: dig b (n / b) else [n % b]
termination_by n.toNat
decreasing_by
  have h1 : 0 ≤ n / b := Int.ediv_nonneg (by omega) (by omega)
  have h2 : n / b < n := Int.ediv_lt_self_of_pos_of_ne_one (by omega) (by omega)
  omega
theorem dig_more {b n : Int} (h2 : 2 ≤ b) (h : b ≤ n) : dig b n = n % b :: dig b (n / b) := by rw [dig, dif_pos ⟨h2, h⟩]
theorem dig_last {b n : Int} (h : n < b) : dig b n = [n % b] := by rw [dig, dif_neg (by omega)]
theorem dig_ne (b n : Int) : dig b n ≠ [] := by rw [dig]; split <;> simp
theorem dig_lt {b : Int} (hb : 0 < b) (n : Int) : ∀ x ∈ dig b n, 0 ≤ x ∧ x < b := by
  induction n using dig.induct (b := b) with
  | case1 n h ih =>
    rw [dig_more h.1 h.2]
    intro x hx
    rcases List.mem_cons.1 hx with rfl | hx
    · exact ⟨Int.emod_nonneg _ (by omega), Int.emod_lt_of_pos _ hb⟩
    · exact ih x hx
  | case2 n h =>
    rw [dig, dif_neg h]
    intro x hx
    obtain rfl : x = n % b := by simpa using hx
    exact ⟨Int.emod_nonneg _ (by omega), Int.emod_lt_of_pos _ hb⟩
/-- no more than 64 digits -/
theorem dig_len {b : Int} (h2 : 2 ≤ b) : ∀ (k : Nat) (n : Int), n < 2 ^ k → (dig b n).length ≤ k + 1 := by
  intro k
  induction k with
  | zero => intro n h; rw [dig_last (by simp at h; omega)]; simp
  | succ k ih =>
    intro n h
    by_cases hb : b ≤ n
    · rw [dig_more h2 hb]
      have : n / b < 2 ^ k := by
        have e : (2 : Int) ^ (k + 1) = 2 ^ k * 2 := by rw [Int.pow_succ]
        rw [e] at h
        refine Int.ediv_lt_of_lt_mul (by omega) (Int.lt_of_lt_of_le h ?_)
        exact Int.mul_le_mul_of_nonneg_left h2 (Int.pow_nonneg (by omega))
      have := ih _ this
      simp; omega
    · rw [dig_last (by omega)]; simp
theorem dig_len64 {b n : Int} (h2 : 2 ≤ b) (h : n ≤ 18446744073709551615) : (dig b n).length ≤ 65 := by
  have e : (2 : Int) ^ 64 = 18446744073709551616 := by decide
  exact dig_len h2 64 n (by rw [e]; omega)
end Nu
end Go.Proofs.YtmnhiagppicegaaGreat

/- Steps of a number, sums and products, over any memory, of num and of the document's own answer. Condition: numbers fit their kinds. -/
namespace Go.Proofs.YtmnhiagppicegaaGreat
open Go.RowKit
set_option linter.unusedVariables false

def Nu.stepV (n c most : Int) : Int × Int :=
  if c < 48 ∨ 57 < c then (0, 3) else if most / 10 < n ∨ (n = most / 10 ∧ most % 10 < c - 48) then (0, 4) else (10 * n + (c - 48), 0)
theorem ret_step {a b : Int} {t : Int × Int} (h : t = (a, b)) : Ending.returned (.tuple #[.int .i64 a, .int .i64 b]) = .returned (.tuple #[.int .i64 t.1, .int .i64 t.2]) := by rw [h]
def StepR (n c most : Int) (w : World) (e : Ending) (w' : World) : Prop := e = .returned (.tuple #[.int .i64 (Nu.stepV n c most).1, .int .i64 (Nu.stepV n c most).2]) ∧ w = w'

theorem step_any (n c most : Int) (n0 : 0 ≤ n) (n1 : n ≤ most) (m1 : most ≤ 4611686018427387903) (c0 : 0 ≤ c) (c1 : c ≤ 255) (w : World) :
    Calls Tryz.prog 205 #[.int .i64 n, .int .u8 c, .int .i64 most] w (StepR n c most w) := by
  by_cases h1 : c < 48
  · have X := Lib.hid (show Nu.stepV n c most = (0, 3) by unfold Nu.stepV; rw [if_pos (.inl h1)])
    go_enter Tryz.func205, Tryz.ntmps205
    go_wp2
    go_ret2
    exact ⟨ret_step X.out, rfl⟩
  by_cases h2 : 57 < c
  · have X := Lib.hid (show Nu.stepV n c most = (0, 3) by unfold Nu.stepV; rw [if_pos (.inr h2)])
    go_enter Tryz.func205, Tryz.ntmps205
    go_wp2
    go_ret2
    exact ⟨ret_step X.out, rfl⟩
  have hs : ¬ (c < 48 ∨ 57 < c) := by omega
  by_cases h3 : most / 10 < n
  · have X := Lib.hid (show Nu.stepV n c most = (0, 4) by unfold Nu.stepV; rw [if_neg hs, if_pos (.inl h3)])
    clear hs
    go_enter Tryz.func205, Tryz.ntmps205
    go_wp2
    go_ret2
    exact ⟨ret_step X.out, rfl⟩
  by_cases h4 : n = most / 10
  · by_cases h5 : most % 10 < c - 48
    · have X := Lib.hid (show Nu.stepV n c most = (0, 4) by unfold Nu.stepV; rw [if_neg hs, if_pos (.inr ⟨h4, h5⟩)])
      have k4 : (n == most / 10) = true := by simp [h4]
      clear hs h4
      go_enter Tryz.func205, Tryz.ntmps205
      go_wp2
      go_ret2
      exact ⟨ret_step X.out, rfl⟩
    · have X := Lib.hid (show Nu.stepV n c most = (10 * n + (c - 48), 0) by unfold Nu.stepV; rw [if_neg hs, if_neg (by omega)])
      have k4 : (n == most / 10) = true := by simp [h4]
      have k5 : decide (most % 10 < c - 48) = false := by simp; omega
      clear hs h4
      go_enter Tryz.func205, Tryz.ntmps205
      go_wp2
      go_ret2
      exact ⟨ret_step X.out, rfl⟩
  · have X := Lib.hid (show Nu.stepV n c most = (10 * n + (c - 48), 0) by unfold Nu.stepV; rw [if_neg hs, if_neg (by omega)])
    have k4 : (n == most / 10) = false := by simp [h4]
    clear hs h4
    go_enter Tryz.func205, Tryz.ntmps205
    go_wp2
    go_ret2
    exact ⟨ret_step X.out, rfl⟩

theorem refStep_any (n c most : Int) (n0 : 0 ≤ n) (n1 : n ≤ most) (m1 : most ≤ 4611686018427387903) (c0 : 0 ≤ c) (c1 : c ≤ 255) (w : World) :
    Calls Tryz.prog 155 #[.int .i64 n, .int .u8 c, .int .i64 most] w (StepR n c most w) := by
  by_cases h1 : c < 48
  · have X := Lib.hid (show Nu.stepV n c most = (0, 3) by unfold Nu.stepV; rw [if_pos (.inl h1)])
    go_enter Tryz.func155, Tryz.ntmps155
    go_wp2
    go_ret2
    exact ⟨ret_step X.out, rfl⟩
  by_cases h2 : 57 < c
  · have X := Lib.hid (show Nu.stepV n c most = (0, 3) by unfold Nu.stepV; rw [if_pos (.inr h2)])
    go_enter Tryz.func155, Tryz.ntmps155
    go_wp2
    go_ret2
    exact ⟨ret_step X.out, rfl⟩
  have hs : ¬ (c < 48 ∨ 57 < c) := by omega
  by_cases h3 : most / 10 < n
  · have X := Lib.hid (show Nu.stepV n c most = (0, 4) by unfold Nu.stepV; rw [if_neg hs, if_pos (.inl h3)])
    clear hs
    go_enter Tryz.func155, Tryz.ntmps155
    go_wp2
    go_ret2
    exact ⟨ret_step X.out, rfl⟩
  by_cases h4 : n = most / 10
  · by_cases h5 : most % 10 < c - 48
    · have X := Lib.hid (show Nu.stepV n c most = (0, 4) by unfold Nu.stepV; rw [if_neg hs, if_pos (.inr ⟨h4, h5⟩)])
      have k4 : (n == most / 10) = true := by simp [h4]
      clear hs h4
      go_enter Tryz.func155, Tryz.ntmps155
      go_wp2
      go_ret2
      exact ⟨ret_step X.out, rfl⟩
    · have X := Lib.hid (show Nu.stepV n c most = (n * 10 + (c - 48), 0) by unfold Nu.stepV; rw [if_neg hs, if_neg (by omega), Int.mul_comm])
      have k4 : (n == most / 10) = true := by simp [h4]
      have k5 : decide (most % 10 < c - 48) = false := by simp; omega
      clear hs h4
      go_enter Tryz.func155, Tryz.ntmps155
      go_wp2
      go_ret2
      exact ⟨ret_step X.out, rfl⟩
  · have X := Lib.hid (show Nu.stepV n c most = (n * 10 + (c - 48), 0) by unfold Nu.stepV; rw [if_neg hs, if_neg (by omega), Int.mul_comm])
    have k4 : (n == most / 10) = false := by simp [h4]
    clear hs h4
    go_enter Tryz.func155, Tryz.ntmps155
    go_wp2
    go_ret2
    exact ⟨ret_step X.out, rfl⟩
end Go.Proofs.YtmnhiagppicegaaGreat

/- The bytes of a text, a step of a number told as two numbers. Condition: numbers fit their kinds. -/
namespace Go.Proofs.YtmnhiagppicegaaGreat
open Go.RowKit
set_option linter.unusedVariables false

/-- the bytes of a text, as numbers -/
def bytesOf (s : ByteArray) : List Int := s.data.toList.map fun c => (c.toNat : Int)
theorem bytesOf_length (s : ByteArray) : (bytesOf s).length = s.size := by simp [bytesOf]
theorem bytesOf_drop (s : ByteArray) (k : Nat) (h : k < s.size) : (bytesOf s).drop k = (s[k].toNat : Int) :: (bytesOf s).drop (k + 1) := by
  rw [List.drop_eq_getElem_cons (by rw [bytesOf_length]; exact h)]
  simp [bytesOf, ByteArray.getElem_eq_getElem_data]
theorem Nu.stepV_le (n c most : Int) (n0 : 0 ≤ n) (n1 : n ≤ most) (h : (Nu.stepV n c most).2 = 0) : 0 ≤ (Nu.stepV n c most).1 ∧ (Nu.stepV n c most).1 ≤ most := by
  unfold Nu.stepV at *
  split at h
  · simp at h
  · split at h
    · simp at h
    · rename_i h1 h2
      rw [if_neg h1, if_neg h2]
      simp only []
      omega
/-- Step, told as a number and whether it is one -/
theorem step_two (n c most : Int) (n0 : 0 ≤ n) (n1 : n ≤ most) (m1 : most ≤ 4611686018427387903) (c0 : 0 ≤ c) (c1 : c ≤ 255) (m e : Int) (h : Nu.stepV n c most = (m, e)) (w : World) :
    Calls Tryz.prog 205 #[.int .i64 n, .int .u8 c, .int .i64 most] w fun r w' => r = .returned (.tuple #[.int .i64 m, .int .i64 e]) ∧ w = w' := by
  refine (step_any n c most n0 n1 m1 c0 c1 w).mono ?_
  rintro r w' ⟨rfl, rfl⟩
  rw [h]; exact ⟨rfl, rfl⟩

theorem refStep_two (n c most : Int) (n0 : 0 ≤ n) (n1 : n ≤ most) (m1 : most ≤ 4611686018427387903) (c0 : 0 ≤ c) (c1 : c ≤ 255) (m e : Int) (h : Nu.stepV n c most = (m, e)) (w : World) :
    Calls Tryz.prog 155 #[.int .i64 n, .int .u8 c, .int .i64 most] w fun r w' => r = .returned (.tuple #[.int .i64 m, .int .i64 e]) ∧ w = w' := by
  refine (refStep_any n c most n0 n1 m1 c0 c1 w).mono ?_
  rintro r w' ⟨rfl, rfl⟩
  rw [h]; exact ⟨rfl, rfl⟩
def Nu.parseF (most : Int) : Int → List Int → Int × Int
  | n, [] => (n, 0)
  | n, c :: cs => if (Nu.stepV n c most).2 = 0 then Nu.parseF most (Nu.stepV n c most).1 cs else (0, (Nu.stepV n c most).2)
def Nu.parseV (l : List Int) (most : Int) : Int × Int := if l = [] then (0, 3) else Nu.parseF most 0 l
end Go.Proofs.YtmnhiagppicegaaGreat

/- Plain facts on words of a header: a reader of a number as a plain function, all numbers of a text, what is left out. No condition. -/
namespace Go.Proofs.YtmnhiagppicegaaGreat
open Go.RowKit
set_option linter.unusedVariables false
namespace Tk
def blank (c : Int) : Bool := decide (c = 32 ∨ (9 ≤ c ∧ c ≤ 13))
def line (c : Int) : Bool := decide (c = 10 ∨ c = 13)
/-- a reader: how far it is (0 ahead, 1 a remark ahead, 2 digits, 3 a remark behind, 4 over, 5 wrong), the number, the error, whether it took a digit -/
structure S where
  k : Nat
  n : Int
  e : Int
  bg : Bool
def new : S := ⟨0, 0, 9, false⟩
def put (m : Int) (s : S) (c : Int) : S :=
  if s.k = 4 ∨ s.k = 5 then s
  else if s.k = 1 then (if line c = true then ⟨0, s.n, s.e, s.bg⟩ else s)
  else if s.k = 3 then (if line c = true then ⟨4, s.n, 0, s.bg⟩ else s)
  else if c = 35 then ⟨s.k + 1, s.n, s.e, s.bg⟩
  else if blank c = true then (if s.k = 0 then s else ⟨4, s.n, 0, s.bg⟩)
  else if (Nu.stepV s.n c m).2 = 0 then ⟨2, (Nu.stepV s.n c m).1, s.e, true⟩
  else ⟨5, 0, (Nu.stepV s.n c m).2, s.bg⟩
def st (s : S) : Int := if s.k = 4 then 1 else if s.k = 5 then 2 else 0
def val (s : S) : Int × Int := if s.e = 0 then (s.n, 0) else (0, s.e)
def Good (m : Int) (s : S) : Prop :=
  s.k ≤ 5 ∧ 0 ≤ s.n ∧ s.n ≤ m ∧ (s.k ≤ 3 → s.e = 9) ∧ (s.k = 4 → s.e = 0) ∧ (s.k = 5 → (s.e = 3 ∨ s.e = 4)) ∧ (s.k ≤ 1 → s.n = 0 ∧ s.bg = false) ∧ (2 ≤ s.k → s.k ≤ 4 → s.bg = true)
theorem stepV_e (n c m : Int) : (Nu.stepV n c m).2 = 0 ∨ (Nu.stepV n c m).2 = 3 ∨ (Nu.stepV n c m).2 = 4 := by
  unfold Nu.stepV; split
  · exact .inr (.inl rfl)
  · split
    · exact .inr (.inr rfl)
    · exact .inl rfl
theorem good_new {m : Int} (h : 0 ≤ m) : Good m new := by unfold Good new; simp; exact h
theorem good_put {m : Int} {s : S} (h : Good m s) (c : Int) : Good m (put m s c) := by
  have H := h
  obtain ⟨h1, h2, h3, h4, h5, h6, h7, h8⟩ := h
  obtain ⟨k, n, e, bg⟩ := s
  simp only at h1 h2 h3 h4 h5 h6 h7 h8
  unfold put; simp only
  split
  · exact H
  rename_i hk
  split
  · rename_i hk1; subst hk1
    split
    · exact ⟨by simp, h2, h3, fun _ => h4 (by omega), fun h => absurd h (by simp), fun h => absurd h (by simp), fun _ => h7 (by omega), fun h => absurd h (by simp)⟩
    · exact H
  split
  · rename_i hk1 hk3; subst hk3
    split
    · exact ⟨by simp, h2, h3, fun h => absurd h (by simp), fun _ => rfl, fun h => absurd h (by simp), fun h => absurd h (by simp), fun _ _ => h8 (by omega) (by omega)⟩
    · exact H
  rename_i hk1 hk3
  split
  · refine ⟨by simp; omega, h2, h3, fun _ => h4 (by omega), fun h => absurd h (by simp; omega), fun h => absurd h (by simp; omega), fun hh => h7 (by simp at hh; omega), fun hh _ => h8 (by simp at hh; omega) (by omega)⟩
  split
  · split
    · exact H
    · exact ⟨by simp, h2, h3, fun h => absurd h (by simp), fun _ => rfl, fun h => absurd h (by simp), fun h => absurd h (by simp), fun _ _ => h8 (by omega) (by omega)⟩
  split
  · rename_i he
    obtain ⟨g1, g2⟩ := Nu.stepV_le n c m h2 h3 he
    exact ⟨by simp, g1, g2, fun _ => h4 (by omega), fun h => absurd h (by simp), fun h => absurd h (by simp), fun h => absurd h (by simp), fun _ _ => rfl⟩
  · rename_i he
    exact ⟨by simp, by simp, by simp; omega, fun h => absurd h (by simp), fun h => absurd h (by simp), fun _ => (stepV_e n c m).resolve_left he, fun h => absurd h (by simp), fun _ h => absurd h (by simp)⟩
end Tk
end Go.Proofs.YtmnhiagppicegaaGreat

/- Plain facts on what an image begins with: a reader of a head as a plain function, the head that a text begins with. No condition. -/
namespace Go.Proofs.YtmnhiagppicegaaGreat
open Go.RowKit
set_option linter.unusedVariables false
namespace Hd
/-- brought to where it may be: from 1 to hi -/
def lim (n hi : Int) : Int := if n < 1 then 1 else if hi < n then hi else n
theorem lim_at {n hi : Int} (h : 1 ≤ hi) : 1 ≤ lim n hi ∧ lim n hi ≤ hi := by
  unfold lim; split
  · omega
  · split <;> omega
/-- the greatest numbers -/
structure L where
  m0 : Int
  m1 : Int
  m2 : Int
def L.at (l : L) (i : Nat) : Int := if i = 0 then l.m0 else if i = 1 then l.m1 else l.m2
def L.Ok (l : L) : Prop := (1 ≤ l.m0 ∧ l.m0 ≤ 65536) ∧ (1 ≤ l.m1 ∧ l.m1 ≤ 65536) ∧ (1 ≤ l.m2 ∧ l.m2 ≤ 65536)
theorem L.at_ok {l : L} (h : l.Ok) (i : Nat) : 1 ≤ l.at i ∧ l.at i ≤ 65536 := by
  obtain ⟨h1, h2, h3⟩ := h
  unfold L.at; split
  · exact h1
  · split
    · exact h2
    · exact h3
def limits (w h m : Int) : L := ⟨lim w 4096, lim h 65536, lim m 65535⟩
theorem limits_ok (w h m : Int) : (limits w h m).Ok := by
  have a := lim_at (n := w) (hi := 4096) (by omega)
  have b := lim_at (n := h) (hi := 65536) (by omega)
  have c := lim_at (n := m) (hi := 65535) (by omega)
  exact ⟨⟨a.1, by simp only [limits]; omega⟩, ⟨b.1, b.2⟩, ⟨c.1, by simp only [limits]; omega⟩⟩
/-- a reader: how far it is (0 ahead, 1 behind P, 2 behind the kind, 3 in a number, 4 over, 5 wrong), the kind, how many numbers are over, these, the number's reader, the error -/
structure S where
  p : Nat
  kd : Int
  i : Nat
  v0 : Int
  v1 : Int
  v2 : Int
  t : Tk.S
  e : Int
/-- a head -/
structure H where
  kd : Int
  w : Int
  h : Int
  m : Int
def none : H := ⟨0, 0, 0, 0⟩
def new : S := ⟨0, 0, 0, 0, 0, 1, Tk.new, 0⟩
def bits (kd : Int) : Bool := decide (kd = 1 ∨ kd = 4)
def many (kd : Int) : Nat := if bits kd = true then 2 else 3
def S.wrong (s : S) (e : Int) : S := ⟨5, s.kd, s.i, s.v0, s.v1, s.v2, s.t, e⟩
def S.tok (s : S) (t : Tk.S) : S := ⟨3, s.kd, s.i, s.v0, s.v1, s.v2, t, s.e⟩
/-- a number more -/
def S.num (s : S) (n : Int) : S :=
  ⟨if s.i + 1 = many s.kd then 4 else 3, s.kd, s.i + 1, if s.i = 0 then n else s.v0, if s.i = 1 then n else s.v1, if 2 ≤ s.i then n else s.v2, Tk.new, s.e⟩
/-- what it is when its number's reader is where t says -/
def take (s : S) (t : Tk.S) : S :=
  if t.k = 5 then s.wrong t.e
  else if t.k = 4 then (if t.n = 0 then s.wrong 4 else s.num t.n)
  else s.tok t
def inNum (l : L) (s : S) (c : Int) : S := take s (Tk.put (l.at s.i) s.t c)
def put (l : L) (s : S) (c : Int) : S :=
  if s.p = 0 then (if c = 80 then ⟨1, s.kd, s.i, s.v0, s.v1, s.v2, s.t, s.e⟩ else s.wrong 2)
  else if s.p = 1 then (if 49 ≤ c ∧ c ≤ 54 then ⟨2, c - 48, s.i, s.v0, s.v1, s.v2, s.t, s.e⟩ else s.wrong 2)
  else if s.p = 2 then (if Tk.blank c = true ∨ c = 35 then inNum l s c else s.wrong 3)
  else if s.p = 3 then inNum l s c
  else s
def st (s : S) : Int := if s.p = 4 then 1 else if s.p = 5 then 2 else 0
def hd (s : S) : H := ⟨s.kd, s.v0, s.v1, s.v2⟩
/-- the head, and its error -/
def val (s : S) : H × Int := if s.p = 4 then (hd s, 0) else if s.p = 5 then (none, s.e) else (none, 9)
/-- told the rest of a text, i bytes in: the head, how many bytes it took, the error -/
def parseF (l : L) : S → Nat → List Int → H × Int × Int
  | s, i, [] => if s.p = 4 then (hd s, (i : Int), 0) else if s.p = 5 then (none, (i : Int), s.e) else (none, (i : Int), 6)
  | s, i, c :: cs => if s.p = 4 then (hd s, (i : Int), 0) else if s.p = 5 then (none, (i : Int), s.e) else parseF l (put l s c) (i + 1) cs
def parseV (l : L) (x : List Int) : H × Int × Int := parseF l new 0 x
theorem parse_over {l : L} {s : S} (i : Nat) (x : List Int) (h : s.p = 4) : parseF l s i x = (hd s, (i : Int), 0) := by cases x <;> rw [parseF, if_pos h]
theorem parse_wrong {l : L} {s : S} (i : Nat) (x : List Int) (h : s.p = 5) : parseF l s i x = (none, (i : Int), s.e) := by cases x <;> rw [parseF, if_neg (by omega), if_pos h]
theorem parse_nil {l : L} {s : S} (i : Nat) (h : s.p ≤ 3) : parseF l s i [] = (none, (i : Int), 6) := by rw [parseF, if_neg (by omega), if_neg (by omega)]
theorem parse_cons {l : L} {s : S} (i : Nat) (c : Int) (cs : List Int) (h : s.p ≤ 3) : parseF l s i (c :: cs) = parseF l (put l s c) (i + 1) cs := by rw [parseF, if_neg (by omega), if_neg (by omega)]
/-- what is so of each reader -/
def Good (l : L) (s : S) : Prop :=
  s.p ≤ 5 ∧ (s.p ≤ 3 → Tk.Good (l.at s.i) s.t ∧ s.t.k ≤ 3) ∧ (s.p ≤ 2 → s.i = 0 ∧ s.v0 = 0 ∧ s.v1 = 0 ∧ s.v2 = 1 ∧ s.t = Tk.new) ∧ (s.p ≤ 1 → s.kd = 0) ∧ (2 ≤ s.p → s.p ≤ 4 → 1 ≤ s.kd ∧ s.kd ≤ 6) ∧ (s.p ≤ 3 → s.i < many s.kd) ∧ (s.p = 5 → (s.e = 2 ∨ s.e = 3 ∨ s.e = 4)) ∧ s.i ≤ 3
theorem many_at (kd : Int) : many kd = 2 ∨ many kd = 3 := by unfold many; split <;> simp
theorem good_new {l : L} (h : l.Ok) : Good l new := by
  have := L.at_ok h 0
  refine ⟨by decide, fun _ => ⟨Tk.good_new (by show (0 : Int) ≤ l.at 0; omega), by decide⟩, fun _ => ⟨rfl, rfl, rfl, rfl, rfl⟩, fun _ => rfl, fun h => absurd h (by decide), fun _ => by have := many_at (0 : Int); show 0 < many 0; omega, fun h => absurd h (by decide), by decide⟩
theorem good_wrong {l : L} {s : S} (hi : s.i ≤ 3) {e : Int} (he : e = 2 ∨ e = 3 ∨ e = 4) : Good l (s.wrong e) :=
  ⟨Nat.le_refl 5, fun h => absurd h (by simp [S.wrong]), fun h => absurd h (by simp [S.wrong]), fun h => absurd h (by simp [S.wrong]), fun _ h => absurd h (by simp [S.wrong]), fun h => absurd h (by simp [S.wrong]), fun _ => he, hi⟩
theorem good_take {l : L} (hl : l.Ok) {s : S} (hk : 1 ≤ s.kd ∧ s.kd ≤ 6) (hi : s.i < many s.kd) {t : Tk.S} (ht : Tk.Good (l.at s.i) t) : Good l (take s t) := by
  have hm := many_at s.kd
  unfold take
  split
  · rename_i h5; exact good_wrong (by omega) (.inr (ht.2.2.2.2.2.1 h5))
  split
  · split
    · exact good_wrong (by omega) (.inr (.inr rfl))
    · unfold S.num
      by_cases h : s.i + 1 = many s.kd
      · rw [if_pos h]
        exact ⟨by simp, fun h => absurd h (by simp), fun h => absurd h (by simp), fun h => absurd h (by simp), fun _ _ => hk, fun h => absurd h (by simp), fun h => absurd h (by simp), by simp only []; omega⟩
      · rw [if_neg h]
        have := L.at_ok hl (s.i + 1)
        exact ⟨by simp, fun _ => ⟨Tk.good_new (by simp only []; omega), Nat.zero_le _⟩, fun h => absurd h (by simp), fun h => absurd h (by simp), fun _ _ => hk, fun _ => by simp only []; omega, fun h => absurd h (by simp), by simp only []; omega⟩
  · rename_i h5 h4
    have := ht.1
    exact ⟨by simp [S.tok], fun _ => ⟨ht, by show t.k ≤ 3; omega⟩, fun h => absurd h (by simp [S.tok]), fun h => absurd h (by simp [S.tok]), fun _ _ => hk, fun _ => hi, fun h => absurd h (by simp [S.tok]), by show s.i ≤ 3; omega⟩
theorem good_put {l : L} (hl : l.Ok) {s : S} (h : Good l s) (c : Int) : Good l (put l s c) := by
  obtain ⟨h1, h2, h3, h4, h5, h6, h7, h8⟩ := h
  unfold put
  split
  · rename_i hp
    obtain ⟨a1, a2, a3, a4, a5⟩ := h3 (by omega)
    split
    · exact ⟨by simp, fun _ => h2 (by omega), fun _ => ⟨a1, a2, a3, a4, a5⟩, fun _ => h4 (by omega), fun h => absurd h (by simp), fun _ => h6 (by omega), fun h => absurd h (by simp), h8⟩
    · exact good_wrong h8 (.inl rfl)
  split
  · rename_i hp0 hp
    obtain ⟨a1, a2, a3, a4, a5⟩ := h3 (by omega)
    split
    · rename_i hc
      exact ⟨by simp, fun _ => h2 (by omega), fun _ => ⟨a1, a2, a3, a4, a5⟩, fun h => absurd h (by simp), fun _ _ => by simp only []; omega, fun _ => by have := many_at (c - 48); simp only []; omega, fun h => absurd h (by simp), h8⟩
    · exact good_wrong h8 (.inl rfl)
  split
  · rename_i hp0 hp1 hp
    split
    · exact good_take hl (h5 (by omega) (by omega)) (h6 (by omega)) (Tk.good_put (h2 (by omega)).1 c)
    · exact good_wrong h8 (.inr (.inl rfl))
  split
  · exact good_take hl (h5 (by omega) (by omega)) (h6 (by omega)) (Tk.good_put (h2 (by omega)).1 c)
  · exact ⟨h1, h2, h3, h4, h5, h6, h7, h8⟩
/-- what a text's head comes to, told while a reader is told it -/
theorem parse_ends {l : L} (hl : l.Ok) : ∀ (x : List Int) (s : S) (i : Nat), Good l s → s.p ≤ 3 → (i : Int) ≤ (parseF l s i x).2.1 ∧ ((parseF l s i x).2.2 ≠ 6 → (i : Int) + 1 ≤ (parseF l s i x).2.1) ∧ ((parseF l s i x).2.2 = 0 ∨ (parseF l s i x).2.2 = 2 ∨ (parseF l s i x).2.2 = 3 ∨ (parseF l s i x).2.2 = 4 ∨ (parseF l s i x).2.2 = 6)
  | [], s, i, h, hp => by rw [parse_nil i hp]; simp
  | c :: cs, s, i, h, hp => by
    rw [parse_cons i c cs hp]
    have hg := good_put hl h c
    by_cases h4 : (put l s c).p = 4
    · rw [parse_over _ _ h4]; simp; omega
    by_cases h5 : (put l s c).p = 5
    · rw [parse_wrong _ _ h5]
      have := hg.2.2.2.2.2.2.1 h5
      simp only []; omega
    · have := hg.1
      have h := parse_ends hl cs (put l s c) (i + 1) hg (by omega)
      omega
end Hd
end Go.Proofs.YtmnhiagppicegaaGreat

/- A head in four cells of a block of the call's own, over any memory. No condition. -/
namespace Go.Proofs.YtmnhiagppicegaaGreat
open Go.RowKit
set_option linter.unusedVariables false

/-- a head, as a value -/
def agH (h : Hd.H) : Value := .agg #[.int .i64 h.kd, .int .i64 h.w, .int .i64 h.h, .int .i64 h.m]
/-- four cells in a block of the call's own -/
def Hb (w : World) (b : Nat) (t : TypeId) (h : Hd.H) : Prop := w.heap[b]? = some (.cells #[.int .i64 h.kd, .int .i64 h.w, .int .i64 h.h, .int .i64 h.m] t (0, 0))
section
variable {w w' : World} {b : Nat} {t : TypeId} {h : Hd.H}
theorem Hb.lt (hh : Hb w b t h) : b < w.heap.size := (Array.getElem?_eq_some_iff.1 hh).1
theorem Hb.later (hh : Hb w b t h) (hb : Below w.heap.size w w') : Hb w' b t h := (hb.block b hh.lt).trans hh
theorem Hb.sep {Z : Nat → Prop} (hh : Hb w b t h) (hs : Sep Z w w') (hz : ¬ Z b) : Hb w' b t h := (hs.block b hh.lt hz).trans hh
theorem Hb.kept {row : Option Nat} (hh : Hb w b t h) (hg : w.grownBy w' row) (hne : some b ≠ row) : Hb w' b t h := (hg.block b hh.lt hne).trans hh
theorem Hb.cells (hh : Hb w b t h) : w.cell? ⟨b, 0, none⟩ = some (.int .i64 h.kd) ∧ w.cell? ⟨b, 1, none⟩ = some (.int .i64 h.w) ∧ w.cell? ⟨b, 2, none⟩ = some (.int .i64 h.h) ∧ w.cell? ⟨b, 3, none⟩ = some (.int .i64 h.m) := by
  have h' : w.heap[b]? = _ := hh
  refine ⟨?_, ?_, ?_, ?_⟩ <;> simp [World.cell?, h']
theorem Hb.fr (hh : Hb w b t h) : w.frozen? ⟨b, 0, none⟩ = false ∧ w.frozen? ⟨b, 1, none⟩ = false ∧ w.frozen? ⟨b, 2, none⟩ = false ∧ w.frozen? ⟨b, 3, none⟩ = false := by
  have h' : w.heap[b]? = _ := hh
  refine ⟨?_, ?_, ?_, ?_⟩ <;> simp [World.frozen?, h']
theorem Hb.new (w : World) (t : TypeId) (h : Hd.H) : Hb (w.alloc (.cells #[.int .i64 h.kd, .int .i64 h.w, .int .i64 h.h, .int .i64 h.m] t)) w.heap.size t h := World.alloc_heap_new w _
theorem Hb.alloc (hh : Hb w b t h) (o : Obj) : Hb (w.alloc o) b t h := hh.kept (World.grownBy_alloc w o none) (by simp)
theorem Hb.drew (hh : Hb w b t h) : Hb w.drew b t h := hh
theorem Hb.put (hh : Hb w b t h) (k : Hd.H) : Hb ((((w.setCell ⟨b, 0, none⟩ (.int .i64 k.kd)).setCell ⟨b, 1, none⟩ (.int .i64 k.w)).setCell ⟨b, 2, none⟩ (.int .i64 k.h)).setCell ⟨b, 3, none⟩ (.int .i64 k.m)) b t k := by
  have h' : w.heap[b]? = _ := hh
  have h1 := Go.heap_setCell_same w b 0 _ _ (.int .i64 k.kd) h'
  have h2 := Go.heap_setCell_same _ b 1 _ _ (.int .i64 k.w) h1
  have h3 := Go.heap_setCell_same _ b 2 _ _ (.int .i64 k.h) h2
  have h4 := Go.heap_setCell_same _ b 3 _ _ (.int .i64 k.m) h3
  simpa [Hb] using h4
end
theorem load_hd {w : World} {b : Nat} {t : TypeId} {h : Hd.H} (hh : Hb w b t h) : (loadVar 49 ⟨b, 0, none⟩).run Tryz.prog w = .ok (agH h) w := by
  obtain ⟨h0, h1, h2, h3⟩ := hh.cells
  simp [go_sem, h0, h1, h2, h3, agH]
theorem Hj.ret3 {P : Program} {fn : Func} {p u v : Tmp} {ty : TypeId} (h : fn.results = #[.cell p ty, .tmp u, .tmp v]) (tmps : Array Value) (w : World) (b : Nat) (val : Value) (hp : tmps.getD p undef = .pointer (some ⟨b, 0, none⟩)) (hl : (loadVar ty ⟨b, 0, none⟩).run P w = .ok val w) :
    (results fn tmps).run P w = .ok (.tuple #[val, tmps.getD u undef, tmps.getD v undef]) w := by
  have hp' : tmps[p]?.getD undef = .pointer (some ⟨b, 0, none⟩) := by simpa using hp
  simp only [results, h]
  simp [hp', asAddr, hl, Result.andThen]
theorem Hj.ret1 {P : Program} {fn : Func} {p : Tmp} {ty : TypeId} (h : fn.results = #[.cell p ty]) (tmps : Array Value) (w : World) (b : Nat) (val : Value) (hp : tmps.getD p undef = .pointer (some ⟨b, 0, none⟩)) (hl : (loadVar ty ⟨b, 0, none⟩).run P w = .ok val w) :
    (results fn tmps).run P w = .ok val w := by
  have hp' : tmps[p]?.getD undef = .pointer (some ⟨b, 0, none⟩) := by simpa using hp
  simp only [results, h]
  simp [hp', asAddr, hl]
end Go.Proofs.YtmnhiagppicegaaGreat

/- Whether two heads, or two formats, are the same, by '==' and '!='. No condition. -/
namespace Go.Proofs.YtmnhiagppicegaaGreat
open Go.RowKit
set_option linter.unusedVariables false
def Hj.same4 (a b c d x y z u : Int) : Bool := ((a == x) && (b == y)) && (c == z) && (d == u)
def Hj.same2 (a b x y : Int) : Bool := (a == x) && (b == y)
theorem Hj.same2_self (a b : Int) : Hj.same2 a b a b = true := by simp [Hj.same2]
theorem heq_run (a b c d x y z u : Int) (w : World) : (binOp .eql 49 (.agg #[.int .i64 a, .int .i64 b, .int .i64 c, .int .i64 d]) (.agg #[.int .i64 x, .int .i64 y, .int .i64 z, .int .i64 u])).run Tryz.prog w = .ok (.bool (Hj.same4 a b c d x y z u)) w := by
  rw [run_eql_struct]
  unfold Hj.same4
  cases h1 : (a == x) <;> cases h2 : (b == y) <;> cases h3 : (c == z) <;> cases h4 : (d == u) <;> simp [go_sem, h1, h2, h3, h4]
theorem feq_run (a b x y : Int) (w : World) : (binOp .eql 28 (.agg #[.int .i64 a, .int .i64 b]) (.agg #[.int .i64 x, .int .i64 y])).run Tryz.prog w = .ok (.bool (Hj.same2 a b x y)) w := by
  rw [run_eql_struct]
  unfold Hj.same2
  cases h1 : (a == x) <;> cases h2 : (b == y) <;> simp [go_sem, h1, h2]
theorem heq_guard (a b : Operand) (xs ys : Array Value) (w : World) : (eqGuard .eql 49 a b (.agg xs) (.agg ys)).run Tryz.prog w = .ok () w := run_eqGuard_agg _ _ _ _ _ _ _ (by kernel_rfl)
theorem feq_guard (a b : Operand) (xs ys : Array Value) (w : World) : (eqGuard .eql 28 a b (.agg xs) (.agg ys)).run Tryz.prog w = .ok () w := run_eqGuard_agg _ _ _ _ _ _ _ (by kernel_rfl)
end Go.Proofs.YtmnhiagppicegaaGreat

/- A number's decimals by the document, over any memory. Condition: the number fits its kind. -/
namespace Go.Proofs.YtmnhiagppicegaaGreat
open Go.RowKit
set_option linter.unusedVariables false

theorem strOfNums_append (xs ys : List Int) : strOfNums (xs ++ ys) = strOfNums xs ++ strOfNums ys := by
  apply ByteArray.ext
  simp [strOfNums]
/-- the decimals of a number, from the last one on, and its sign -/
def Nu.backV (n : Int) : List Int := (Nu.dig 10 n.natAbs).map (48 + ·) ++ (if n < 0 then [45] else [])
def Nu.decV (n : Int) : List Int := (Nu.backV n).reverse
theorem Nu.decV_pos {n : Int} (h0 : 0 ≤ n) (h : n < 10) : Nu.decV n = [48 + n] := by
  unfold Nu.decV Nu.backV
  rw [Nu.dig_last (by omega), if_neg (by omega), show (n.natAbs : Int) % 10 = n by omega]; rfl
theorem Nu.decV_neg {n : Int} (h0 : n < 0) (h : -10 < n) : Nu.decV n = [45] ++ [48 + -n] := by
  unfold Nu.decV Nu.backV
  rw [Nu.dig_last (by omega), if_pos h0, show (n.natAbs : Int) % 10 = -n by omega]; rfl
theorem Nu.decV_more {n q r : Int} (h : 10 ≤ n.natAbs) (hq : (q.natAbs : Int) = n.natAbs / 10) (hs : q < 0 ↔ n < 0) (hr : (n.natAbs : Int) % 10 = r) : Nu.decV n = Nu.decV q ++ [48 + r] := by
  unfold Nu.decV Nu.backV
  rw [Nu.dig_more (by omega) (show (10 : Int) ≤ n.natAbs by omega), ← hq, hr]
  by_cases h0 : n < 0
  · rw [if_pos h0, if_pos (hs.2 h0)]; simp
  · rw [if_neg h0, if_neg (fun e => h0 (hs.1 e))]; simp
theorem Nu.conv_one (W : World) (x : Int) : (convert 43 9 (.slice (some ⟨W.heap.size, 0, none⟩) 1 1)).run Tryz.prog (W.alloc (.cells #[.int .u8 x] 5)) = .ok (.string (strOfNums [x])) (W.alloc (.cells #[.int .u8 x] 5)) :=
  run_convert_bytes_arg (P := Tryz.prog) _ 43 5 Tryz.underlying43 Tryz.underlying5 W.heap.size 0 1 1 [x] rfl (by
    intro i hi
    obtain rfl : i = 0 := by omega
    simp [go_sem]) 9 Tryz.underlying9
theorem ret_s {a b : ByteArray} (h : a = b) : Ending.returned (.string a) = .returned (.string b) := by rw [h]

theorem Nu.decV_len {n : Int} (hn : Nu.I n) : (Nu.decV n).length ≤ 66 := by
  have := Nu.dig_len64 (b := 10) (n := n.natAbs) (by omega) (by unfold Nu.I at hn; omega)
  unfold Nu.decV Nu.backV
  split <;> simp <;> omega

set_option maxRecDepth 100000 in
set_option maxHeartbeats 2000000 in
theorem refDecimal_go (k : Nat) : ∀ (n : Int), n.natAbs ≤ k → Nu.I n → ∀ w : World,
    Calls Tryz.prog 94 #[.int .i64 n] w fun e w' => e = .returned (.string (strOfNums (Nu.decV n))) ∧ Below w.heap.size w w' := by
  induction k using Nat.strongRecOn with
  | ind k ih =>
  intro n hk hn w
  have hI := hn
  obtain ⟨n1, n2⟩ := hn
  have hc := fun x => Nu.conv_one w x
  by_cases h0 : n < 0
  · by_cases hb : -10 < n
    · have X := Lib.hid (Nu.decV_neg h0 hb)
      have hm : n.tmod 10 = n := by
        have : (-n).tmod 10 = (-n) % 10 := Int.tmod_eq_emod_of_nonneg (by omega)
        rw [Int.neg_tmod] at this; omega
      have hcx := hc (48 + -n)
      have hL : (⟨#[45]⟩ : ByteArray).size + (strOfNums [48 + -n]).size ≤ 9223372036854775807 := by rw [strOfNums_size]; simp [ByteArray.size]
      clear hc ih
      go_enter Tryz.func94, Tryz.ntmps94
      go_wp2
      go_ret
      exact ⟨ret_s (by rw [X.out, strOfNums_append]; rfl), (Below.refl _ _).alloc (Nat.le_refl _) _⟩
    · obtain ⟨r, hr⟩ : ∃ r, (-n) % 10 = r := ⟨_, rfl⟩
      obtain ⟨q, hq⟩ : ∃ q, -((-n) / 10) = q := ⟨_, rfl⟩
      have hm : n.tmod 10 = -r := by
        have : (-n).tmod 10 = (-n) % 10 := Int.tmod_eq_emod_of_nonneg (by omega)
        rw [Int.neg_tmod] at this; omega
      have hd : n.tdiv 10 = q := by
        have : (-n).tdiv 10 = (-n) / 10 := Int.tdiv_eq_ediv_of_nonneg (by omega)
        rw [Int.neg_tdiv] at this; omega
      have X := Lib.hid (Nu.decV_more (n := n) (q := q) (r := r) (by omega) (by omega) (by omega) (by omega))
      have r0 : 0 ≤ r := by omega
      have r1 : r < 10 := by omega
      have q0 : -9223372036854775808 ≤ q := by omega
      have q1 : q < 0 := by omega
      have hL : (strOfNums (Nu.decV q)).size + (strOfNums [48 + r]).size ≤ 9223372036854775807 := by
        have := Nu.decV_len (n := q) (by unfold Nu.I; omega)
        rw [strOfNums_size, strOfNums_size]; simp; omega
      have hcx := hc (48 + r)
      have hrec := Lib.hid (ih q.natAbs (by omega) q (Nat.le_refl _) (by unfold Nu.I; omega))
      have hc48 := hc 48
      clear hc ih hq hr
      by_cases hz : r = 0
      · subst hz
        have hm' : n.tmod 10 = 0 := by omega
        have hL' : (strOfNums (Nu.decV q)).size + (strOfNums [48]).size ≤ 9223372036854775807 := hL
        clear hm hcx hL
        go_enter Tryz.func94, Tryz.ntmps94
        go_wp2_with (go_at_call 94; refine (hrec.out _).mono ?_; rintro e w1 ⟨rfl, hb1⟩)
        go_ret
        exact ⟨ret_s (by rw [X.out, strOfNums_append]; rfl), ((Below.refl _ _).alloc (Nat.le_refl _) _).trans (hb1.mono (by simp))⟩
      · have rp : 0 < r := by omega
        clear hz
        go_enter Tryz.func94, Tryz.ntmps94
        go_wp2_with (go_at_call 94; refine (hrec.out _).mono ?_; rintro e w1 ⟨rfl, hb1⟩)
        go_ret
        exact ⟨ret_s (by rw [X.out, strOfNums_append]), ((Below.refl _ _).alloc (Nat.le_refl _) _).trans (hb1.mono (by simp))⟩
  · have hm : n.tmod 10 = n % 10 := Int.tmod_eq_emod_of_nonneg (by omega)
    have r0 : 0 ≤ n % 10 := by omega
    have r1 : n % 10 < 10 := by omega
    have p0 : 0 ≤ n := by omega
    by_cases hb : n < 10
    · have X := Lib.hid (show Nu.decV n = [48 + n % 10] by rw [Nu.decV_pos p0 hb, show n % 10 = n by omega])
      have hcx := hc (48 + n % 10)
      clear hc hm
      go_enter Tryz.func94, Tryz.ntmps94
      go_wp2
      go_ret
      exact ⟨ret_s (by rw [X.out]), (Below.refl _ _).alloc (Nat.le_refl _) _⟩
    · have X := Lib.hid (Nu.decV_more (n := n) (q := n / 10) (r := n % 10) (by omega) (by omega) (by omega) (by omega))
      have hL : (strOfNums (Nu.decV (n / 10))).size + (strOfNums [48 + n % 10]).size ≤ 9223372036854775807 := by
        have := Nu.decV_len (n := n / 10) (by unfold Nu.I; omega)
        rw [strOfNums_size, strOfNums_size]; simp; omega
      have hcx := hc (48 + n % 10)
      have hrec := Lib.hid (ih (n / 10).natAbs (by omega) (n / 10) (Nat.le_refl _) (by unfold Nu.I; omega))
      clear hc hm ih
      go_enter Tryz.func94, Tryz.ntmps94
      go_wp2_with (go_at_call 94; refine (hrec.out _).mono ?_; rintro e w1 ⟨rfl, hb1⟩)
      go_ret
      exact ⟨ret_s (by rw [X.out, strOfNums_append]), ((Below.refl _ _).alloc (Nat.le_refl _) _).trans (hb1.mono (by simp))⟩
theorem refDecimal_any (n : Int) (hn : Nu.I n) (w : World) :
    Calls Tryz.prog 94 #[.int .i64 n] w fun e w' => e = .returned (.string (strOfNums (Nu.decV n))) ∧ Below w.heap.size w w' :=
  refDecimal_go _ n (Nat.le_refl _) hn w
end Go.Proofs.YtmnhiagppicegaaGreat

/- A number's decimals are read as it was: plain facts. No condition. -/
namespace Go.Proofs.YtmnhiagppicegaaGreat
open Go.RowKit
set_option linter.unusedVariables false

theorem bytesOf_strOfNums {xs : List Int} (h : ∀ x ∈ xs, 0 ≤ x ∧ x ≤ 255) : bytesOf (strOfNums xs) = xs := by
  unfold bytesOf strOfNums
  simp only [List.map_map]
  conv => rhs; rw [← List.map_id xs]
  refine List.map_congr_left fun x hx => ?_
  obtain ⟨h0, h1⟩ := h x hx
  simp; omega
theorem bytesOf_append (a b : ByteArray) : bytesOf (a ++ b) = bytesOf a ++ bytesOf b := by simp [bytesOf]
theorem Nu.parseF_append (most : Int) : ∀ (xs ys : List Int) (n : Int), Nu.parseF most n (xs ++ ys) = if (Nu.parseF most n xs).2 = 0 then Nu.parseF most (Nu.parseF most n xs).1 ys else (0, (Nu.parseF most n xs).2)
  | [], ys, n => by simp [Nu.parseF]
  | c :: cs, ys, n => by
    rw [List.cons_append, Nu.parseF, Nu.parseF]
    by_cases h : (Nu.stepV n c most).2 = 0
    · rw [if_pos h, if_pos h]; exact Nu.parseF_append most cs ys _
    · rw [if_neg h, if_neg h, if_neg h]
theorem Nu.parse_dig (most : Int) (m0 : 0 ≤ most) (k : Int) (h0 : 0 ≤ k) : Nu.parseF most 0 (((Nu.dig 10 k).map (48 + ·)).reverse) = if k ≤ most then (k, 0) else (0, 4) := by
  induction k using Nu.dig.induct (b := 10) with
  | case1 k h ih =>
    have hq := ih (by omega)
    rw [Nu.dig_more h.1 h.2, List.map_cons, List.reverse_cons, Nu.parseF_append, hq]
    by_cases hk : k / 10 ≤ most
    · rw [if_pos hk, if_pos rfl, Nu.parseF]
      have hs : Nu.stepV (k / 10) (48 + k % 10) most = if k ≤ most then (k, 0) else (0, 4) := by
        unfold Nu.stepV
        rw [if_neg (by omega)]
        by_cases hm : k ≤ most
        · rw [if_neg (by omega), if_pos hm]; refine Prod.ext ?_ rfl; simp only []; omega
        · rw [if_pos (by omega), if_neg hm]
      rw [hs]
      by_cases hm : k ≤ most
      · rw [if_pos hm, if_pos rfl]; rfl
      · rw [if_neg hm, if_neg (by simp)]
    · rw [if_neg hk, if_neg (by simp), if_neg (by omega)]
  | case2 k h =>
    rw [Nu.dig_last (by omega)]
    have hk : k % 10 = k := by omega
    rw [hk]
    show Nu.parseF most 0 [48 + k] = _
    rw [Nu.parseF]
    have hs : Nu.stepV 0 (48 + k) most = if k ≤ most then (k, 0) else (0, 4) := by
      unfold Nu.stepV
      rw [if_neg (by omega)]
      by_cases hm : k ≤ most
      · rw [if_neg (by omega), if_pos hm]; refine Prod.ext ?_ rfl; simp only []; omega
      · rw [if_pos (by omega), if_neg hm]
    rw [hs]
    by_cases hm : k ≤ most
    · rw [if_pos hm, if_pos rfl]; rfl
    · rw [if_neg hm, if_neg (by simp)]
theorem Nu.decV_up {k : Int} (h : 0 ≤ k) : Nu.decV k = ((Nu.dig 10 k).map (48 + ·)).reverse := by
  unfold Nu.decV Nu.backV
  rw [if_neg (by omega), List.append_nil, show (k.natAbs : Int) = k by omega]
theorem Nu.decV_bytes (k : Int) : ∀ x ∈ Nu.decV k, 0 ≤ x ∧ x ≤ 255 := by
  intro x hx
  unfold Nu.decV Nu.backV at hx
  rw [List.mem_reverse, List.mem_append] at hx
  rcases hx with hx | hx
  · obtain ⟨d, hd, rfl⟩ := List.mem_map.1 hx
    have := Nu.dig_lt (b := 10) (by omega) _ d hd
    omega
  · split at hx
    · obtain rfl : x = 45 := by simpa using hx
      omega
    · cases hx
theorem Nu.decV_ne {k : Int} (h : 0 ≤ k) : Nu.decV k ≠ [] := by
  rw [Nu.decV_up h]; simp [Nu.dig_ne]
end Go.Proofs.YtmnhiagppicegaaGreat

/- What a reader says of a number's decimals, of blanks and of remarks: plain facts. No condition. -/
namespace Go.Proofs.YtmnhiagppicegaaGreat
open Go.RowKit
set_option linter.unusedVariables false
namespace Tk
/-- told the list it goes on, and is then where t says -/
def runs (m : Int) : S → List Int → S → Prop
  | s, [], t => s = t
  | s, c :: cs, t => (put m s c).k ≤ 3 ∧ runs m (put m s c) cs t
/-- told digits it took digits, and goes on -/
def digs (m : Int) : S → List Int → S → Prop
  | s, [], t => s = t
  | s, c :: cs, t => (put m s c).k = 2 ∧ digs m (put m s c) cs t
theorem digs_runs {m : Int} : ∀ (l : List Int) {s t : S}, digs m s l t → runs m s l t
  | [], s, t, h => h
  | c :: cs, s, t, h => ⟨by have := h.1; omega, digs_runs cs h.2⟩
theorem step_digit {n c m : Int} (h : (Nu.stepV n c m).2 = 0) : 48 ≤ c ∧ c ≤ 57 := by
  unfold Nu.stepV at h
  split at h
  · simp at h
  · rename_i h1; omega
theorem put_digit {m : Int} {s : S} {c : Int} (hk : s.k = 0 ∨ s.k = 2) (he : s.e = 9) (h : (Nu.stepV s.n c m).2 = 0) : put m s c = ⟨2, (Nu.stepV s.n c m).1, 9, true⟩ := by
  obtain ⟨h1, h2⟩ := step_digit h
  have hb : ¬ blank c = true := by unfold blank; simp; omega
  unfold put
  rw [if_neg (by omega), if_neg (by omega), if_neg (by omega), if_neg (by omega), if_neg hb, if_pos h, he]
theorem digs_parse {m v : Int} : ∀ (l : List Int) (s : S), (s.k = 0 ∨ s.k = 2) → s.e = 9 → (l = [] → s = ⟨2, v, 9, true⟩) → Nu.parseF m s.n l = (v, 0) → digs m s l ⟨2, v, 9, true⟩
  | [], s, hk, he, h0, h => h0 rfl
  | c :: cs, s, hk, he, h0, h => by
    rw [Nu.parseF] at h
    by_cases hs : (Nu.stepV s.n c m).2 = 0
    · rw [if_pos hs] at h
      have hp := put_digit hk he hs
      refine ⟨by rw [hp], ?_⟩
      rw [hp]
      refine digs_parse cs _ (.inr rfl) rfl (fun e => ?_) h
      subst e
      simp only [Nu.parseF] at h
      have := (Prod.mk.inj h).1
      rw [this]
    · rw [if_neg hs] at h
      have h2 := (Prod.mk.inj h).2
      exact absurd h2 hs
theorem digs_dec {m k : Int} (h0 : 0 ≤ k) (h1 : k ≤ m) : digs m new (Nu.decV k) ⟨2, k, 9, true⟩ := by
  refine digs_parse _ _ (.inl rfl) rfl (fun e => absurd e (Nu.decV_ne h0)) ?_
  show Nu.parseF m 0 _ = _
  rw [Nu.decV_up h0, Nu.parse_dig m (by omega) k h0, if_pos h1]
theorem blank_35 {c : Int} (h : blank c = true) : ¬ c = 35 := by unfold blank at h; simp at h; omega
theorem put_end {m k c : Int} (h : blank c = true) : put m ⟨2, k, 9, true⟩ c = ⟨4, k, 0, true⟩ := by simp [put, blank_35 h, h]
theorem put_ahead {m c : Int} (h : blank c = true) : put m new c = new := by
  have := blank_35 h
  simp [put, new, this, h]
end Tk
end Go.Proofs.YtmnhiagppicegaaGreat

/- A head's bytes, and what a reader says of them: plain facts. No condition. -/
namespace Go.Proofs.YtmnhiagppicegaaGreat
open Go.RowKit
set_option linter.unusedVariables false
namespace Hd
theorem take_more {s : S} {t : Tk.S} (h : t.k ≤ 3) : take s t = s.tok t := by unfold take; rw [if_neg (by omega), if_neg (by omega)]
theorem take_over {s : S} {k : Int} (h : k ≠ 0) {b : Bool} {e : Int} : take s ⟨4, k, e, b⟩ = s.num k := by
  unfold take; rw [if_neg (by simp), if_pos rfl, if_neg h]
theorem put_in {l : L} {s : S} {c : Int} (h : s.p = 3) : put l s c = take s (Tk.put (l.at s.i) s.t c) := by
  unfold put; rw [if_neg (by omega), if_neg (by omega), if_neg (by omega), if_pos h]; rfl
theorem tok_tok (s : S) (t u : Tk.S) : (s.tok t).tok u = s.tok u := rfl
theorem tok_self {s : S} (h : s.p = 3) : s.tok s.t = s := by
  obtain ⟨p, kd, i, v0, v1, v2, t, e⟩ := s
  have : p = 3 := h
  subst this; rfl
/-- told what its number's reader goes on with it goes on -/
theorem parse_runs {l : L} : ∀ (x : List Int) (s : S) (i : Nat) (r : List Int) {t : Tk.S}, s.p = 3 → Tk.runs (l.at s.i) s.t x t → parseF l s i (x ++ r) = parseF l (s.tok t) (i + x.length) r
  | [], s, i, r, t, hp, h => by
    have h' : s.t = t := h
    rw [← h', tok_self hp]; rfl
  | c :: cs, s, i, r, t, hp, h => by
    have h1 := h.1
    rw [List.cons_append, parse_cons i c _ (by omega), put_in hp, take_more h1]
    have := parse_runs (l := l) cs (s.tok (Tk.put (l.at s.i) s.t c)) (i + 1) r (t := t) rfl h.2
    rw [this, tok_tok, List.length_cons, show i + 1 + cs.length = i + (cs.length + 1) by omega]
/-- behind the kind a number's reader begins -/
theorem parse_third {l : L} {s : S} (hp : s.p = 2) (i : Nat) {c : Int} (hc : Tk.blank c = true ∨ c = 35) (cs : List Int) : parseF l s i (c :: cs) = parseF l (s.tok s.t) i (c :: cs) := by
  rw [parse_cons i c cs (by omega), parse_cons i c cs (by show (3 : Nat) ≤ 3; omega), put_in (s := s.tok s.t) rfl]
  congr 1
  unfold put
  rw [if_neg (by omega), if_neg (by omega), if_pos hp, if_pos hc]
  unfold inNum take
  rfl
/-- the blank behind a number's digits -/
theorem parse_ends_num {l : L} {s : S} {k : Int} (h : k ≠ 0) (i : Nat) {c : Int} (hc : Tk.blank c = true) (cs : List Int) : parseF l (s.tok ⟨2, k, 9, true⟩) i (c :: cs) = parseF l (s.num k) (i + 1) cs := by
  rw [parse_cons i c cs (by show (3 : Nat) ≤ 3; omega), put_in rfl]
  congr 1
  show take (s.tok _) (Tk.put (l.at s.i) ⟨2, k, 9, true⟩ c) = _
  rw [Tk.put_end hc, take_over h]; rfl
/-- a number and a blank -/
theorem parse_num {l : L} {s : S} (hp : s.p = 3) (ht : s.t = Tk.new) {k : Int} (h0 : 1 ≤ k) (h1 : k ≤ l.at s.i) (i : Nat) {c : Int} (hc : Tk.blank c = true) (r : List Int) :
    parseF l s i (Nu.decV k ++ (c :: r)) = parseF l (s.num k) (i + (Nu.decV k).length + 1) r := by
  rw [parse_runs _ s i _ hp (by rw [ht]; exact Tk.digs_runs _ (Tk.digs_dec (by omega) h1)), parse_ends_num (by omega) _ hc]
/-- what a head may be -/
def May (h : H) : Prop := (1 ≤ h.kd ∧ h.kd ≤ 6) ∧ (1 ≤ h.w ∧ h.w ≤ 4096) ∧ (1 ≤ h.h ∧ h.h ≤ 65536) ∧ (1 ≤ h.m ∧ h.m ≤ 65535) ∧ (bits h.kd = true → h.m = 1)
instance (h : H) : Decidable (May h) := by unfold May; infer_instance
/-- a head's bytes -/
def bytes (h : H) : List Int := [80] ++ Nu.decV h.kd ++ [10] ++ Nu.decV h.w ++ [32] ++ Nu.decV h.h ++ [10] ++ (if bits h.kd = true then [] else Nu.decV h.m ++ [10])
/-- behind P and the kind -/
def s2 (kd : Int) : S := ⟨2, kd, 0, 0, 0, 1, Tk.new, 0⟩
def s3 (kd : Int) : S := ⟨3, kd, 0, 0, 0, 1, Tk.new, 0⟩
theorem parse_kind {l : L} {kd : Int} (h1 : 1 ≤ kd) (h6 : kd ≤ 6) (r : List Int) : parseF l new 0 (80 :: (Nu.decV kd ++ r)) = parseF l (s2 kd) 2 r := by
  rw [Nu.decV_pos (by omega) (by omega), parse_cons _ _ _ (by decide), List.singleton_append]
  have e1 : put l new 80 = ⟨1, 0, 0, 0, 0, 1, Tk.new, 0⟩ := rfl
  rw [e1, parse_cons _ _ _ (by decide)]
  congr 1
  unfold put
  rw [if_neg (by simp), if_pos rfl, if_pos (by omega), show 48 + kd - 48 = kd by omega]
  rfl
theorem num_over {s : S} {k : Int} (h : s.i + 1 = many s.kd) : (s.num k).p = 4 := by unfold S.num; rw [if_pos h]
theorem num_more {s : S} {k : Int} (h : s.i + 1 ≠ many s.kd) : (s.num k).p = 3 := by unfold S.num; rw [if_neg h]
theorem runs_blank {m c : Int} (h : Tk.blank c = true) : Tk.runs m Tk.new [c] Tk.new := by
  refine ⟨by rw [Tk.put_ahead h]; decide, ?_⟩
  rw [Tk.put_ahead h]; rfl
theorem s3_tok (kd : Int) : (s2 kd).tok (s2 kd).t = s3 kd := rfl
theorem many_bits {kd : Int} (h : bits kd = true) : many kd = 2 := by unfold many; rw [if_pos h]
theorem many_more {kd : Int} (h : bits kd ≠ true) : many kd = 3 := by unfold many; rw [if_neg h]
/-- a head's bytes are parsed as it was -/
theorem parse_bytes {l : L} {h : H} (hm : May h) (hw : h.w ≤ l.m0) (hh : h.h ≤ l.m1) (hx : bits h.kd = true ∨ h.m ≤ l.m2) (r : List Int) : parseV l (bytes h ++ r) = (h, ((bytes h).length : Int), 0) := by
  obtain ⟨kd, w, hh', m⟩ := h
  obtain ⟨⟨a1, a2⟩, ⟨b1, b2⟩, ⟨c1, c2⟩, ⟨d1, d2⟩, e1⟩ := hm
  simp only at a1 a2 b1 b2 c1 c2 d1 d2 e1 hw hh hx
  have bl10 : Tk.blank 10 = true := by decide
  have bl32 : Tk.blank 32 = true := by decide
  unfold parseV bytes
  simp only [List.append_assoc, List.cons_append, List.nil_append]
  rw [parse_kind a1 a2, parse_third rfl _ (.inl bl10), s3_tok]
  have r1 := parse_runs (l := l) [10] (s3 kd) 2 (Nu.decV w ++ (32 :: (Nu.decV hh' ++ (10 :: ((if bits kd = true then [] else Nu.decV m ++ [10]) ++ r))))) rfl (runs_blank bl10)
  rw [List.singleton_append] at r1
  rw [r1, show (s3 kd).tok Tk.new = s3 kd from rfl, parse_num (s := s3 kd) rfl rfl b1 hw _ bl32]
  have p1 : ((s3 kd).num w).p = 3 := num_more (by have := many_at kd; show 0 + 1 ≠ many kd; omega)
  have i1 : ((s3 kd).num w).i = 1 := rfl
  rw [parse_num (s := (s3 kd).num w) p1 rfl c1 (by rw [i1]; exact hh) _ bl10]
  by_cases hb : bits kd = true
  · rw [if_pos hb, parse_over _ _ (num_over (by rw [i1]; show 1 + 1 = many kd; rw [many_bits hb]))]
    obtain rfl : m = 1 := e1 hb
    refine Prod.ext rfl (Prod.ext ?_ rfl)
    rw [Nu.decV_pos (n := kd) (by omega) (by omega)]
    simp only [List.length_append, List.length_cons, List.length_nil]
    omega
  · rw [if_neg hb]
    have p2 : (((s3 kd).num w).num hh').p = 3 := num_more (by rw [i1]; show 1 + 1 ≠ many kd; rw [many_more hb]; decide)
    have i2 : (((s3 kd).num w).num hh').i = 2 := rfl
    rw [List.append_assoc, List.singleton_append, parse_num (s := ((s3 kd).num w).num hh') p2 rfl d1 (by rw [i2]; exact hx.resolve_left hb) _ bl10, parse_over _ _ (num_over (by rw [i2]; show 2 + 1 = many kd; rw [many_more hb]))]
    refine Prod.ext rfl (Prod.ext ?_ rfl)
    rw [Nu.decV_pos (n := kd) (by omega) (by omega)]
    simp only [List.length_append, List.length_cons, List.length_nil]
    omega
end Hd
end Go.Proofs.YtmnhiagppicegaaGreat

/- Heads that may be, made of any; the greatest limits; the format of a head's pixels and how many bytes its raster has, over any memory. Condition: numbers fit their kinds. -/
namespace Go.Proofs.YtmnhiagppicegaaGreat
open Go.RowKit
set_option linter.unusedVariables false
namespace Hj
/-- a head whose numbers fit their kinds -/
def Fit (h : Hd.H) : Prop := Nu.I h.kd ∧ Nu.I h.w ∧ Nu.I h.h ∧ Nu.I h.m
/-- how many samples a pixel has -/
def chan (h : Hd.H) : Int := if h.kd = 3 ∨ h.kd = 6 then 3 else 1
def size (h : Hd.H) : Int := if h.kd < 4 then 0 else if h.kd = 4 then h.h * ((h.w + 7) / 8) else h.w * h.h * chan h * (if 255 < h.m then 2 else 1)
end Hj
set_option maxHeartbeats 1000000 in
theorem hall_any (w : World) : Calls Tryz.prog 19 #[] w fun e w' => e = .returned (.agg #[.int .i64 4096, .int .i64 65536, .int .i64 65535]) ∧ Below w.heap.size w w' := by
  go_enter Tryz.func19, Tryz.ntmps19
  go_wp2
  go_returns
  exact ⟨rfl, by go_grown⟩
set_option maxHeartbeats 1000000 in
theorem bits_any (k : Int) (w : World) :
    Calls Tryz.prog 95 #[.int .i64 k] w fun e w' => e = .returned (.bool (Hd.bits k)) ∧ w = w' := by
  have rb : ∀ {a b : Bool}, a = b → Ending.returned (.bool a) = .returned (.bool b) := fun h => by rw [h]
  by_cases h1 : k = 1
  · subst h1
    have X := Lib.hid (show Hd.bits 1 = true by decide)
    go_enter Tryz.func95, Tryz.ntmps95
    go_wp2
    go_ret
    exact ⟨rb X.out.symm, rfl⟩
  by_cases h4 : k = 4
  · subst h4
    have X := Lib.hid (show Hd.bits 4 = true by decide)
    go_enter Tryz.func95, Tryz.ntmps95
    go_wp2
    go_ret
    exact ⟨rb X.out.symm, rfl⟩
  · have X := Lib.hid (show Hd.bits k = false by unfold Hd.bits; exact decide_eq_false (by omega))
    have k1 : (k == 1) = false := by simpa using h1
    have k4 : (k == 4) = false := by simpa using h4
    go_enter Tryz.func95, Tryz.ntmps95
    go_wp2
    go_ret
    exact ⟨rb X.out.symm, rfl⟩
end Go.Proofs.YtmnhiagppicegaaGreat

/- A reader of a number in a block of its own, over any memory: what it is made of, and what its parts do. Condition: its greatest number fits. -/
namespace Go.Proofs.YtmnhiagppicegaaGreat
open Go.RowKit
set_option linter.unusedVariables false

/-- the six cells of a reader -/
def RdC (w : World) (b : Nat) (m v : Int) (g : Bool) (t f : Int) (x : Value) : Prop :=
  w.heap[b]? = some (.cells #[.int .i64 m, .int .i64 v, .bool g, .int .i64 t, .int .i64 f, x] 283 (0, 0))
section
variable {w w' : World} {b : Nat} {m v : Int} {g : Bool} {t f : Int} {x : Value}
theorem RdC.lt (h : RdC w b m v g t f x) : b < w.heap.size := (Array.getElem?_eq_some_iff.1 h).1
theorem RdC.later (h : RdC w b m v g t f x) (hb : Below w.heap.size w w') : RdC w' b m v g t f x := (hb.block b h.lt).trans h
theorem RdC.kept {row : Option Nat} (h : RdC w b m v g t f x) (hg : w.grownBy w' row) (hne : some b ≠ row) : RdC w' b m v g t f x := (hg.block b h.lt hne).trans h
theorem RdC.c0 (h : RdC w b m v g t f x) : w.cell? ⟨b, 0, none⟩ = some (.int .i64 m) := by have h' : w.heap[b]? = _ := h; simp [World.cell?, h']
theorem RdC.c1 (h : RdC w b m v g t f x) : w.cell? ⟨b, 1, none⟩ = some (.int .i64 v) := by have h' : w.heap[b]? = _ := h; simp [World.cell?, h']
theorem RdC.c2 (h : RdC w b m v g t f x) : w.cell? ⟨b, 2, none⟩ = some (.bool g) := by have h' : w.heap[b]? = _ := h; simp [World.cell?, h']
theorem RdC.c3 (h : RdC w b m v g t f x) : w.cell? ⟨b, 3, none⟩ = some (.int .i64 t) := by have h' : w.heap[b]? = _ := h; simp [World.cell?, h']
theorem RdC.c4 (h : RdC w b m v g t f x) : w.cell? ⟨b, 4, none⟩ = some (.int .i64 f) := by have h' : w.heap[b]? = _ := h; simp [World.cell?, h']
theorem RdC.c5 (h : RdC w b m v g t f x) : w.cell? ⟨b, 5, none⟩ = some x := by have h' : w.heap[b]? = _ := h; simp [World.cell?, h']
theorem RdC.fr (h : RdC w b m v g t f x) (o : Nat) : w.frozen? ⟨b, o, none⟩ = false := by have h' : w.heap[b]? = _ := h; simp [World.frozen?, h']
theorem RdC.drewN (h : RdC w b m v g t f x) (n : Nat) : RdC (w.drewN n) b m v g t f x := h
theorem RdC.put1 (h : RdC w b m v g t f x) (y : Int) : RdC (w.setCell ⟨b, 1, none⟩ (.int .i64 y)) b m y g t f x := by
  have h' : w.heap[b]? = _ := h
  simpa [RdC] using Go.heap_setCell_same w b 1 _ _ (.int .i64 y) h'
theorem RdC.put2 (h : RdC w b m v g t f x) (y : Bool) : RdC (w.setCell ⟨b, 2, none⟩ (.bool y)) b m v y t f x := by
  have h' : w.heap[b]? = _ := h
  simpa [RdC] using Go.heap_setCell_same w b 2 _ _ (.bool y) h'
theorem RdC.put3 (h : RdC w b m v g t f x) (y : Int) : RdC (w.setCell ⟨b, 3, none⟩ (.int .i64 y)) b m v g y f x := by
  have h' : w.heap[b]? = _ := h
  simpa [RdC] using Go.heap_setCell_same w b 3 _ _ (.int .i64 y) h'
theorem RdC.put4 (h : RdC w b m v g t f x) (y : Int) : RdC (w.setCell ⟨b, 4, none⟩ (.int .i64 y)) b m v g t y x := by
  have h' : w.heap[b]? = _ := h
  simpa [RdC] using Go.heap_setCell_same w b 4 _ _ (.int .i64 y) h'
theorem RdC.put5 (h : RdC w b m v g t f x) (y : Value) : RdC (w.setCell ⟨b, 5, none⟩ y) b m v g t f y := by
  have h' : w.heap[b]? = _ := h
  simpa [RdC] using Go.heap_setCell_same w b 5 _ _ y h'
end
theorem grown_set (W : World) (b o : Nat) (v : Value) : W.grownBy (W.setCell ⟨b, o, none⟩ v) (some b) :=
  ⟨rfl, rfl, rfl, by simp, fun k hk hn => Below.heap_setCell W _ v k (by intro e; exact hn (by rw [e]))⟩
theorem grown_drew (W : World) (n : Nat) (row : Option Nat) : W.grownBy (W.drewN n) row := ⟨rfl, rfl, rfl, Nat.le_refl _, fun _ _ _ => rfl⟩
def nxA (b : Nat) : Value := .func (.func 215) #[.pointer (some ⟨b, 0, none⟩)] #[]
def nxR (b : Nat) : Value := .func (.func 216) #[.pointer (some ⟨b, 0, none⟩)] #[]
def nxD (b : Nat) : Value := .func (.func 217) #[.pointer (some ⟨b, 0, none⟩)] #[]
def nxB (b : Nat) : Value := .func (.func 220) #[.pointer (some ⟨b, 0, none⟩)] #[]

set_option maxHeartbeats 1000000 in
theorem tokNew_any (m : Int) (w : World) :
    Calls Tryz.prog 209 #[.int .i64 m] w fun e w' => e = .returned (.pointer (some ⟨w.heap.size, 0, none⟩)) ∧ RdC w' w.heap.size m 0 false 0 0 (nxA w.heap.size) ∧ Below w.heap.size w w' := by
  go_enter Tryz.func209, Tryz.ntmps209
  go_wp2
  go_ret
  exact ⟨rfl, World.alloc_heap_new w _, by go_grown⟩

theorem Tk.blank_yes {c : Int} (h : c = 32 ∨ (9 ≤ c ∧ c ≤ 13)) : Tk.blank c = true := by unfold Tk.blank; exact decide_eq_true h
theorem Tk.blank_no {c : Int} (h : ¬ (c = 32 ∨ (9 ≤ c ∧ c ≤ 13))) : Tk.blank c = false := by unfold Tk.blank; exact decide_eq_false h
theorem ret_b {a b : Bool} (h : a = b) : Ending.returned (.bool a) = .returned (.bool b) := by rw [h]
set_option maxHeartbeats 1000000 in
theorem blank_any (c : Int) (c0 : 0 ≤ c) (c1 : c ≤ 255) (w : World) :
    Calls Tryz.prog 122 #[.int .u8 c] w fun e w' => e = .returned (.bool (Tk.blank c)) ∧ w = w' := by
  by_cases h1 : c < 9
  · have X := Lib.hid (Tk.blank_no (c := c) (by omega))
    have h2 : (c == 32) = false := by simp; omega
    have h3 : decide (9 ≤ c) = false := decide_eq_false (by omega)
    clear c0 c1
    go_enter Tryz.func122, Tryz.ntmps122
    go_wp2
    go_ret
    exact ⟨ret_b X.out.symm, rfl⟩
  by_cases h2 : c ≤ 13
  · have X := Lib.hid (Tk.blank_yes (c := c) (by omega))
    have h3 : decide (9 ≤ c) = true := decide_eq_true (by omega)
    have h4 : decide (c ≤ 13) = true := decide_eq_true (by omega)
    have h5 : 9 ≤ c := by omega
    clear h1
    go_enter Tryz.func122, Tryz.ntmps122
    go_wp2
    go_ret
    exact ⟨ret_b X.out.symm, rfl⟩
  have h3 : decide (9 ≤ c) = true := decide_eq_true (by omega)
  have h4 : decide (c ≤ 13) = false := decide_eq_false (by omega)
  have h6 : 9 ≤ c := by omega
  by_cases h5 : c = 32
  · subst h5
    have X := Lib.hid (Tk.blank_yes (c := 32) (by omega))
    go_enter Tryz.func122, Tryz.ntmps122
    go_wp2
    go_ret
    exact ⟨ret_b X.out.symm, rfl⟩
  · have X := Lib.hid (Tk.blank_no (c := c) (by omega))
    have h7 : (c == 32) = false := by simp; omega
    go_enter Tryz.func122, Tryz.ntmps122
    go_wp2
    go_ret
    exact ⟨ret_b X.out.symm, rfl⟩
set_option maxHeartbeats 1000000 in
theorem refBlank_any (c : Int) (c0 : 0 ≤ c) (c1 : c ≤ 255) (w : World) :
    Calls Tryz.prog 68 #[.int .u8 c] w fun e w' => e = .returned (.bool (Tk.blank c)) ∧ w = w' := by
  by_cases h5 : c = 32
  · subst h5
    have X := Lib.hid (Tk.blank_yes (c := 32) (by omega))
    go_enter Tryz.func68, Tryz.ntmps68
    go_wp2
    go_ret
    exact ⟨ret_b X.out.symm, rfl⟩
  have h7 : (c == 32) = false := by simp; omega
  by_cases h1 : c < 9
  · have X := Lib.hid (Tk.blank_no (c := c) (by omega))
    have h3 : decide (9 ≤ c) = false := decide_eq_false (by omega)
    clear c0 c1
    go_enter Tryz.func68, Tryz.ntmps68
    go_wp2
    go_ret
    exact ⟨ret_b X.out.symm, rfl⟩
  have h3 : decide (9 ≤ c) = true := decide_eq_true (by omega)
  have h6 : 9 ≤ c := by omega
  by_cases h2 : c ≤ 13
  · have X := Lib.hid (Tk.blank_yes (c := c) (by omega))
    have h4 : decide (c ≤ 13) = true := decide_eq_true (by omega)
    go_enter Tryz.func68, Tryz.ntmps68
    go_wp2
    go_ret
    exact ⟨ret_b X.out.symm, rfl⟩
  · have X := Lib.hid (Tk.blank_no (c := c) (by omega))
    have h4 : decide (c ≤ 13) = false := decide_eq_false (by omega)
    go_enter Tryz.func68, Tryz.ntmps68
    go_wp2
    go_ret
    exact ⟨ret_b X.out.symm, rfl⟩
set_option maxHeartbeats 1000000 in
theorem ends_any (c : Int) (c0 : 0 ≤ c) (c1 : c ≤ 255) (w : World) :
    Calls Tryz.prog 219 #[.int .u8 c] w fun e w' => e = .returned (.bool (Tk.line c)) ∧ w = w' := by
  by_cases h5 : c = 10
  · subst h5
    go_enter Tryz.func219, Tryz.ntmps219
    go_wp2
    go_ret
    exact ⟨rfl, rfl⟩
  have h7 : (c == 10) = false := by simp; omega
  by_cases h6 : c = 13
  · subst h6
    go_enter Tryz.func219, Tryz.ntmps219
    go_wp2
    go_ret
    exact ⟨rfl, rfl⟩
  · have h8 : (c == 13) = false := by simp; omega
    have X : Hid (Tk.line c = false) := by show _ = _; unfold Tk.line; exact decide_eq_false (by omega)
    go_enter Tryz.func219, Tryz.ntmps219
    go_wp2
    go_ret
    exact ⟨ret_b X.out.symm, rfl⟩
set_option maxHeartbeats 1000000 in
/-- a digit is taken -/
theorem take_yes (w : World) (b : Nat) (m v : Int) (g : Bool) (t f : Int) (x : Value) (h : RdC w b m v g t f x) (v0 : 0 ≤ v) (v1 : v ≤ m) (m1 : m ≤ 4611686018427387903) (c : Int) (c0 : 0 ≤ c) (c1 : c ≤ 255) (n : Int) (hs : Nu.stepV v c m = (n, 0)) :
    Calls Tryz.prog 218 #[.pointer (some ⟨b, 0, none⟩), .int .u8 c] w fun e w' => e = .returned (.int .i64 0) ∧ RdC w' b m n true t f x ∧ w.grownBy w' (some b) := by
  have hc0 := h.c0
  have hc1 := h.c1
  have hc2 := h.c2
  have HS : Hid (∀ W, Calls Tryz.prog 205 #[.int .i64 v, .int .u8 c, .int .i64 m] W fun r w' => r = .returned (.tuple #[.int .i64 n, .int .i64 0]) ∧ W = w') := fun W => step_two v c m v0 v1 m1 c0 c1 n 0 hs W
  have f1 := h.fr 1
  have f2 := h.fr 2
  clear hs
  go_enter Tryz.func218, Tryz.ntmps218
  go_wp2_with (go_quiet ((go_at_call 205; exact Calls.quiet_of_same ((HS.out _).mono fun e w' hh => ⟨hh.1, hh.2.symm⟩))))
  go_ret
  exact ⟨rfl, ((h.drewN _).put1 _).put2 _, ((grown_drew _ _ _).trans (grown_set _ _ _ _)).trans (grown_set _ _ _ _)⟩
set_option maxHeartbeats 1000000 in
/-- a byte is refused -/
theorem take_no (w : World) (b : Nat) (m v : Int) (g : Bool) (t f : Int) (x : Value) (h : RdC w b m v g t f x) (v0 : 0 ≤ v) (v1 : v ≤ m) (m1 : m ≤ 4611686018427387903) (c : Int) (c0 : 0 ≤ c) (c1 : c ≤ 255) (n e : Int) (hs : Nu.stepV v c m = (n, e)) (he : e ≠ 0) :
    Calls Tryz.prog 218 #[.pointer (some ⟨b, 0, none⟩), .int .u8 c] w fun r w' => r = .returned (.int .i64 2) ∧ RdC w' b m v g t e x ∧ w.grownBy w' (some b) := by
  have hc0 := h.c0
  have hc1 := h.c1
  have HS : Hid (∀ W, Calls Tryz.prog 205 #[.int .i64 v, .int .u8 c, .int .i64 m] W fun r w' => r = .returned (.tuple #[.int .i64 n, .int .i64 e]) ∧ W = w') := fun W => step_two v c m v0 v1 m1 c0 c1 n e hs W
  have f4 := h.fr 4
  have hc4 := h.c4
  have ke : (e != 0) = true := by simpa using he
  clear hs he
  go_enter Tryz.func218, Tryz.ntmps218
  go_wp2_with (go_quiet ((go_at_call 205; exact Calls.quiet_of_same ((HS.out _).mono fun e w' hh => ⟨hh.1, hh.2.symm⟩))))
  go_ret
  exact ⟨rfl, (h.drewN _).put4 _, (grown_drew _ _ _).trans (grown_set _ _ _ _)⟩
end Go.Proofs.YtmnhiagppicegaaGreat

/- A reader of a number is told a byte, over any memory. Condition: its greatest number fits. -/
namespace Go.Proofs.YtmnhiagppicegaaGreat
open Go.RowKit
set_option linter.unusedVariables false

/-- what a part of a reader hands back, and what its block holds then -/
def PtR (w : World) (b : Nat) (m v : Int) (g : Bool) (f : Int) (x : Value) (t : Int) (e : Ending) (w' : World) : Prop :=
  e = .returned (.int .i64 t) ∧ RdC w' b m v g 0 f x ∧ w.grownBy w' (some b)
set_option maxHeartbeats 1000000 in
theorem ahead_blank (w : World) (b : Nat) (m v : Int) (g : Bool) (f : Int) (c : Int) (c0 : 0 ≤ c) (c1 : c ≤ 255) (hb : Tk.blank c = true) (h : RdC w b m v g 0 f (nxA b)) :
    Calls Tryz.prog 215 #[.pointer (some ⟨b, 0, none⟩), .int .u8 c] w (PtR w b m v g f (nxA b) 0) := by
  have HB : Hid (∀ W, Calls Tryz.prog 122 #[.int .u8 c] W fun e w' => e = .returned (.bool true) ∧ W = w') := fun W => by have := blank_any c c0 c1 W; rw [hb] at this; exact this
  clear hb
  go_enter Tryz.func215, Tryz.ntmps215
  go_wp2_with (go_at_call 122; refine (HB.out _).mono ?_; rintro e w1 ⟨rfl, rfl⟩)
  go_ret
  exact ⟨rfl, h, .refl _ _⟩
set_option maxHeartbeats 1000000 in
theorem ahead_rem (w : World) (b : Nat) (m v : Int) (g : Bool) (f : Int) (c : Int) (c0 : 0 ≤ c) (c1 : c ≤ 255) (hc : c = 35) (h : RdC w b m v g 0 f (nxA b)) :
    Calls Tryz.prog 215 #[.pointer (some ⟨b, 0, none⟩), .int .u8 c] w (PtR w b m v g f (nxR b) 0) := by
  subst hc
  have hb : Tk.blank 35 = false := by decide
  have HB : Hid (∀ W, Calls Tryz.prog 122 #[.int .u8 35] W fun e w' => e = .returned (.bool false) ∧ W = w') := fun W => by have := blank_any 35 c0 c1 W; rw [hb] at this; exact this
  have hc5 := h.c5
  have hf5 := h.fr 5
  clear hb
  go_enter Tryz.func215, Tryz.ntmps215
  go_wp2_with (go_at_call 122; refine (HB.out _).mono ?_; rintro e w1 ⟨rfl, rfl⟩)
  go_ret
  exact ⟨rfl, h.put5 _, grown_set _ _ _ _⟩
set_option maxHeartbeats 1000000 in
theorem ahead_yes (w : World) (b : Nat) (m v : Int) (g : Bool) (f : Int) (c : Int) (c0 : 0 ≤ c) (c1 : c ≤ 255) (hb : Tk.blank c = false) (hc : ¬ c = 35) (v0 : 0 ≤ v) (v1 : v ≤ m) (m1 : m ≤ 4611686018427387903) (n : Int) (hs : Nu.stepV v c m = (n, 0)) (h : RdC w b m v g 0 f (nxA b)) :
    Calls Tryz.prog 215 #[.pointer (some ⟨b, 0, none⟩), .int .u8 c] w (PtR w b m n true f (nxD b) 0) := by
  have HB : Hid (∀ W, Calls Tryz.prog 122 #[.int .u8 c] W fun e w' => e = .returned (.bool false) ∧ W = w') := fun W => by have := blank_any c c0 c1 W; rw [hb] at this; exact this
  have HT : Hid (∀ W, RdC W b m v g 0 f (nxD b) → Calls Tryz.prog 218 #[.pointer (some ⟨b, 0, none⟩), .int .u8 c] W (PtR W b m n true f (nxD b) 0)) := fun W hr => (take_yes W b m v g 0 f (nxD b) hr v0 v1 m1 c c0 c1 n hs).mono fun _ _ hh => hh
  have hk : (c == 35) = false := by simpa using hc
  have hc5 := h.c5
  have hf5 := h.fr 5
  clear hb hc v0 v1 m1 hs
  go_enter Tryz.func215, Tryz.ntmps215
  go_wp2_with (first | (go_at_call 122; refine (HB.out _).mono ?_; rintro e w1 ⟨rfl, rfl⟩) | (go_at_call 218; refine (HT.out _ (h.put5 _)).mono ?_; rintro e w2 ⟨rfl, h2, hg2⟩))
  go_ret
  exact ⟨rfl, h2, (grown_set _ _ _ _).trans hg2⟩
set_option maxHeartbeats 1000000 in
theorem digit_yes (w : World) (b : Nat) (m v : Int) (g : Bool) (f : Int) (c : Int) (c0 : 0 ≤ c) (c1 : c ≤ 255) (hb : Tk.blank c = false) (hc : ¬ c = 35) (v0 : 0 ≤ v) (v1 : v ≤ m) (m1 : m ≤ 4611686018427387903) (n : Int) (hs : Nu.stepV v c m = (n, 0)) (h : RdC w b m v g 0 f (nxD b)) :
    Calls Tryz.prog 217 #[.pointer (some ⟨b, 0, none⟩), .int .u8 c] w (PtR w b m n true f (nxD b) 0) := by
  have HB : Hid (∀ W, Calls Tryz.prog 122 #[.int .u8 c] W fun e w' => e = .returned (.bool false) ∧ W = w') := fun W => by have := blank_any c c0 c1 W; rw [hb] at this; exact this
  have HT : Hid (∀ W, RdC W b m v g 0 f (nxD b) → Calls Tryz.prog 218 #[.pointer (some ⟨b, 0, none⟩), .int .u8 c] W (PtR W b m n true f (nxD b) 0)) := fun W hr => (take_yes W b m v g 0 f (nxD b) hr v0 v1 m1 c c0 c1 n hs).mono fun _ _ hh => hh
  have hk : (c == 35) = false := by simpa using hc
  clear hb hc v0 v1 m1 hs
  go_enter Tryz.func217, Tryz.ntmps217
  go_wp2_with (first | (go_at_call 122; refine (HB.out _).mono ?_; rintro e w1 ⟨rfl, rfl⟩) | (go_at_call 218; refine (HT.out _ h).mono ?_; rintro e w2 ⟨rfl, h2, hg2⟩))
  go_ret
  exact ⟨rfl, h2, hg2⟩
set_option maxHeartbeats 1000000 in
theorem ahead_no (w : World) (b : Nat) (m v : Int) (g : Bool) (f : Int) (c : Int) (c0 : 0 ≤ c) (c1 : c ≤ 255) (hb : Tk.blank c = false) (hc : ¬ c = 35) (v0 : 0 ≤ v) (v1 : v ≤ m) (m1 : m ≤ 4611686018427387903) (n e : Int) (hs : Nu.stepV v c m = (n, e)) (he : e ≠ 0) (h : RdC w b m v g 0 f (nxA b)) :
    Calls Tryz.prog 215 #[.pointer (some ⟨b, 0, none⟩), .int .u8 c] w (PtR w b m v g e (nxD b) 2) := by
  have HB : Hid (∀ W, Calls Tryz.prog 122 #[.int .u8 c] W fun e w' => e = .returned (.bool false) ∧ W = w') := fun W => by have := blank_any c c0 c1 W; rw [hb] at this; exact this
  have HT : Hid (∀ W, RdC W b m v g 0 f (nxD b) → Calls Tryz.prog 218 #[.pointer (some ⟨b, 0, none⟩), .int .u8 c] W (PtR W b m v g e (nxD b) 2)) := fun W hr => (take_no W b m v g 0 f (nxD b) hr v0 v1 m1 c c0 c1 n e hs he).mono fun _ _ hh => hh
  have hk : (c == 35) = false := by simpa using hc
  have hc5 := h.c5
  have hf5 := h.fr 5
  clear hb hc v0 v1 m1 hs he
  go_enter Tryz.func215, Tryz.ntmps215
  go_wp2_with (first | (go_at_call 122; refine (HB.out _).mono ?_; rintro e w1 ⟨rfl, rfl⟩) | (go_at_call 218; refine (HT.out _ (h.put5 _)).mono ?_; rintro e w2 ⟨rfl, h2, hg2⟩))
  go_ret
  exact ⟨rfl, h2, (grown_set _ _ _ _).trans hg2⟩
set_option maxHeartbeats 1000000 in
theorem digit_no (w : World) (b : Nat) (m v : Int) (g : Bool) (f : Int) (c : Int) (c0 : 0 ≤ c) (c1 : c ≤ 255) (hb : Tk.blank c = false) (hc : ¬ c = 35) (v0 : 0 ≤ v) (v1 : v ≤ m) (m1 : m ≤ 4611686018427387903) (n e : Int) (hs : Nu.stepV v c m = (n, e)) (he : e ≠ 0) (h : RdC w b m v g 0 f (nxD b)) :
    Calls Tryz.prog 217 #[.pointer (some ⟨b, 0, none⟩), .int .u8 c] w (PtR w b m v g e (nxD b) 2) := by
  have HB : Hid (∀ W, Calls Tryz.prog 122 #[.int .u8 c] W fun e w' => e = .returned (.bool false) ∧ W = w') := fun W => by have := blank_any c c0 c1 W; rw [hb] at this; exact this
  have HT : Hid (∀ W, RdC W b m v g 0 f (nxD b) → Calls Tryz.prog 218 #[.pointer (some ⟨b, 0, none⟩), .int .u8 c] W (PtR W b m v g e (nxD b) 2)) := fun W hr => (take_no W b m v g 0 f (nxD b) hr v0 v1 m1 c c0 c1 n e hs he).mono fun _ _ hh => hh
  have hk : (c == 35) = false := by simpa using hc
  clear hb hc v0 v1 m1 hs he
  go_enter Tryz.func217, Tryz.ntmps217
  go_wp2_with (first | (go_at_call 122; refine (HB.out _).mono ?_; rintro e w1 ⟨rfl, rfl⟩) | (go_at_call 218; refine (HT.out _ h).mono ?_; rintro e w2 ⟨rfl, h2, hg2⟩))
  go_ret
  exact ⟨rfl, h2, hg2⟩
set_option maxHeartbeats 1000000 in
theorem digit_blank (w : World) (b : Nat) (m v : Int) (g : Bool) (f : Int) (c : Int) (c0 : 0 ≤ c) (c1 : c ≤ 255) (hb : Tk.blank c = true) (h : RdC w b m v g 0 f (nxD b)) :
    Calls Tryz.prog 217 #[.pointer (some ⟨b, 0, none⟩), .int .u8 c] w (PtR w b m v g f (nxD b) 1) := by
  have HB : Hid (∀ W, Calls Tryz.prog 122 #[.int .u8 c] W fun e w' => e = .returned (.bool true) ∧ W = w') := fun W => by have := blank_any c c0 c1 W; rw [hb] at this; exact this
  clear hb
  go_enter Tryz.func217, Tryz.ntmps217
  go_wp2_with (go_at_call 122; refine (HB.out _).mono ?_; rintro e w1 ⟨rfl, rfl⟩)
  go_ret
  exact ⟨rfl, h, .refl _ _⟩
set_option maxHeartbeats 1000000 in
theorem digit_rem (w : World) (b : Nat) (m v : Int) (g : Bool) (f : Int) (c : Int) (c0 : 0 ≤ c) (c1 : c ≤ 255) (hc : c = 35) (h : RdC w b m v g 0 f (nxD b)) :
    Calls Tryz.prog 217 #[.pointer (some ⟨b, 0, none⟩), .int .u8 c] w (PtR w b m v g f (nxB b) 0) := by
  subst hc
  have hb : Tk.blank 35 = false := by decide
  have HB : Hid (∀ W, Calls Tryz.prog 122 #[.int .u8 35] W fun e w' => e = .returned (.bool false) ∧ W = w') := fun W => by have := blank_any 35 c0 c1 W; rw [hb] at this; exact this
  have hc5 := h.c5
  have hf5 := h.fr 5
  clear hb
  go_enter Tryz.func217, Tryz.ntmps217
  go_wp2_with (go_at_call 122; refine (HB.out _).mono ?_; rintro e w1 ⟨rfl, rfl⟩)
  go_ret
  exact ⟨rfl, h.put5 _, grown_set _ _ _ _⟩
set_option maxHeartbeats 1000000 in
theorem remA_line (w : World) (b : Nat) (m v : Int) (g : Bool) (f : Int) (c : Int) (c0 : 0 ≤ c) (c1 : c ≤ 255) (hb : Tk.line c = true) (h : RdC w b m v g 0 f (nxR b)) :
    Calls Tryz.prog 216 #[.pointer (some ⟨b, 0, none⟩), .int .u8 c] w (PtR w b m v g f (nxA b) 0) := by
  have HB : Hid (∀ W, Calls Tryz.prog 219 #[.int .u8 c] W fun e w' => e = .returned (.bool true) ∧ W = w') := fun W => by have := ends_any c c0 c1 W; rw [hb] at this; exact this
  have hc5 := h.c5
  have hf5 := h.fr 5
  clear hb
  go_enter Tryz.func216, Tryz.ntmps216
  go_wp2_with (go_at_call 219; refine (HB.out _).mono ?_; rintro e w1 ⟨rfl, rfl⟩)
  go_ret
  exact ⟨rfl, h.put5 _, grown_set _ _ _ _⟩
set_option maxHeartbeats 1000000 in
theorem remA_not (w : World) (b : Nat) (m v : Int) (g : Bool) (f : Int) (c : Int) (c0 : 0 ≤ c) (c1 : c ≤ 255) (hb : Tk.line c = false) (h : RdC w b m v g 0 f (nxR b)) :
    Calls Tryz.prog 216 #[.pointer (some ⟨b, 0, none⟩), .int .u8 c] w (PtR w b m v g f (nxR b) 0) := by
  have HB : Hid (∀ W, Calls Tryz.prog 219 #[.int .u8 c] W fun e w' => e = .returned (.bool false) ∧ W = w') := fun W => by have := ends_any c c0 c1 W; rw [hb] at this; exact this
  clear hb
  go_enter Tryz.func216, Tryz.ntmps216
  go_wp2_with (go_at_call 219; refine (HB.out _).mono ?_; rintro e w1 ⟨rfl, rfl⟩)
  go_ret
  exact ⟨rfl, h, .refl _ _⟩
set_option maxHeartbeats 1000000 in
theorem remB_line (w : World) (b : Nat) (m v : Int) (g : Bool) (f : Int) (c : Int) (c0 : 0 ≤ c) (c1 : c ≤ 255) (hb : Tk.line c = true) (h : RdC w b m v g 0 f (nxB b)) :
    Calls Tryz.prog 220 #[.pointer (some ⟨b, 0, none⟩), .int .u8 c] w (PtR w b m v g f (nxB b) 1) := by
  have HB : Hid (∀ W, Calls Tryz.prog 219 #[.int .u8 c] W fun e w' => e = .returned (.bool true) ∧ W = w') := fun W => by have := ends_any c c0 c1 W; rw [hb] at this; exact this
  clear hb
  go_enter Tryz.func220, Tryz.ntmps220
  go_wp2_with (go_at_call 219; refine (HB.out _).mono ?_; rintro e w1 ⟨rfl, rfl⟩)
  go_ret
  exact ⟨rfl, h, .refl _ _⟩
set_option maxHeartbeats 1000000 in
theorem remB_not (w : World) (b : Nat) (m v : Int) (g : Bool) (f : Int) (c : Int) (c0 : 0 ≤ c) (c1 : c ≤ 255) (hb : Tk.line c = false) (h : RdC w b m v g 0 f (nxB b)) :
    Calls Tryz.prog 220 #[.pointer (some ⟨b, 0, none⟩), .int .u8 c] w (PtR w b m v g f (nxB b) 0) := by
  have HB : Hid (∀ W, Calls Tryz.prog 219 #[.int .u8 c] W fun e w' => e = .returned (.bool false) ∧ W = w') := fun W => by have := ends_any c c0 c1 W; rw [hb] at this; exact this
  clear hb
  go_enter Tryz.func220, Tryz.ntmps220
  go_wp2_with (go_at_call 219; refine (HB.out _).mono ?_; rintro e w1 ⟨rfl, rfl⟩)
  go_ret
  exact ⟨rfl, h, .refl _ _⟩
set_option maxHeartbeats 1000000 in
/-- the part that is told the byte stands in the sixth cell -/
theorem put_next (w : World) (b n : Nat) (m v : Int) (g : Bool) (f : Int) (c : Int) (m' v' : Int) (g' : Bool) (f' : Int) (x' : Value) (t' : Int) (hn : ∀ args w, (callFunc n args).run Tryz.prog w = .ok (.enter n args) w)
    (h : RdC w b m v g 0 f (.func (.func n) #[.pointer (some ⟨b, 0, none⟩)] #[])) (hcall : Calls Tryz.prog n #[.pointer (some ⟨b, 0, none⟩), .int .u8 c] w (PtR w b m v' g' f' x' t')) :
    Calls Tryz.prog 210 #[.pointer (some ⟨b, 0, none⟩), .int .u8 c] w fun e w' => e = .returned (.int .i64 t') ∧ RdC w' b m v' g' t' f' x' ∧ w.grownBy w' (some b) := by
  have hc3 := h.c3
  have hc5 := h.c5
  have HC := Lib.hid hcall
  clear hcall
  go_enter Tryz.func210, Tryz.ntmps210
  go_wp2_with (go_at_fn n; refine HC.out.mono ?_; rintro e w2 ⟨rfl, h2, hg2⟩; have hd3 := h2.c3; have hf3 := h2.fr 3)
  go_ret
  exact ⟨rfl, h2.put3 _, hg2.trans (grown_set _ _ _ _)⟩
set_option maxHeartbeats 1000000 in
/-- it is told nothing more -/
theorem put_done (w : World) (b : Nat) (m v : Int) (g : Bool) (f : Int) (c t : Int) (x : Value) (ht : t ≠ 0) (h : RdC w b m v g t f x) :
    Calls Tryz.prog 210 #[.pointer (some ⟨b, 0, none⟩), .int .u8 c] w fun e w' => e = .returned (.int .i64 t) ∧ w = w' := by
  have hc3 := h.c3
  have ht' : (t == 0) = false := by simpa using ht
  go_enter Tryz.func210, Tryz.ntmps210
  go_wp2
  go_ret
  exact ⟨rfl, rfl⟩
end Go.Proofs.YtmnhiagppicegaaGreat

/- Rows of bits, as lists of numbers: bytes told as bits, bits told as bytes, what runs. Plain facts; no memory. No condition. -/
namespace Go.Proofs.YtmnhiagppicegaaGreat
set_option linter.unusedVariables false
namespace Bt
/-- how many bytes a row has -/
def bytesV (w : Int) : Int := if w < 1 ∨ 4096 < w then 0 else (w + 7) / 8
/-- a byte's bits, the highest first -/
def eight (c : Int) : List Int := [c / 128 % 2, c / 64 % 2, c / 32 % 2, c / 16 % 2, c / 8 % 2, c / 4 % 2, c / 2 % 2, c % 2]
theorem eight_len (c : Int) : (eight c).length = 8 := rfl
def bitsOf : List Int → List Int
  | [] => []
  | c :: l => eight c ++ bitsOf l
theorem bitsOf_len : ∀ l : List Int, (bitsOf l).length = 8 * l.length
  | [] => rfl
  | c :: l => by simp [bitsOf, bitsOf_len l, eight_len]; omega
theorem bitsOf_append : ∀ a b : List Int, bitsOf (a ++ b) = bitsOf a ++ bitsOf b
  | [], b => rfl
  | c :: a, b => by simp [bitsOf, bitsOf_append a b]
/-- the number of bits, the highest first -/
def num : List Int → Int → Int
  | [], n => n
  | x :: l, n => num l (n * 2 + x)
theorem num_append : ∀ (a b : List Int) (n : Int), num (a ++ b) n = num b (num a n)
  | [], b, n => rfl
  | x :: a, b, n => by simp [num, num_append a b]
/-- a part of at most eight, with noughts behind it -/
def pad (l : List Int) : List Int := l ++ List.replicate (8 - l.length) 0
theorem pad_len (l : List Int) (h : l.length ≤ 8) : (pad l).length = 8 := by simp [pad]; omega
def packB (l : List Int) : List Int :=
  if h : l = [] then [] else num (pad (l.take 8)) 0 :: packB (l.drop 8)
termination_by l.length
decreasing_by have : l.length ≠ 0 := fun e => h (List.eq_nil_of_length_eq_zero e); simp; omega
theorem packB_nil : packB [] = [] := by rw [packB]; simp
theorem packB_more {l : List Int} (h : l ≠ []) : packB l = num (pad (l.take 8)) 0 :: packB (l.drop 8) := by rw [packB, dif_neg h]
def Ones (l : List Int) : Prop := ∀ x ∈ l, x = 0 ∨ x = 1
instance (l : List Int) : Decidable (Ones l) := by unfold Ones; exact inferInstance
def packOk (l : List Int) : Bool := decide (1 ≤ l.length) && decide (l.length ≤ 4096) && decide (Ones l)
def packV (l : List Int) : List Int := if packOk l then packB l else []
def packE (l : List Int) : Int := if packOk l then 0 else 1
/-- the error of a row that is unpacked -/
def rowE (n : Nat) (w : Int) : Int := if bytesV w = 0 then 1 else if (n : Int) < bytesV w then 6 else 0
def unpackV (zs : List Int) (w : Int) : List Int := if rowE zs.length w = 0 then (bitsOf zs).take w.toNat else []
end Bt
end Go.Proofs.YtmnhiagppicegaaGreat

/- How many bytes a row has, over any memory, of bits and of the document's own answer. Condition: numbers fit their kinds. -/
namespace Go.Proofs.YtmnhiagppicegaaGreat
open Go.RowKit
set_option linter.unusedVariables false
namespace Bt
theorem ret_i {k : IntKind} {a b : Int} (h : a = b) : Ending.returned (.int k a) = .returned (.int k b) := by rw [h]
theorem bytes_any (n : Int) (w : World) : Calls Tryz.prog 188 #[.int .i64 n] w fun e w' => e = .returned (.int .i64 (bytesV n)) ∧ w = w' := by
  by_cases h1 : n < 1
  · have X := Lib.hid (show 0 = bytesV n by unfold bytesV; rw [if_pos (.inl h1)])
    go_enter Tryz.func188, Tryz.ntmps188
    go_wp2
    go_ret
    exact ⟨ret_i X.out, rfl⟩
  · by_cases h2 : 4096 < n
    · have X := Lib.hid (show 0 = bytesV n by unfold bytesV; rw [if_pos (.inr h2)])
      go_enter Tryz.func188, Tryz.ntmps188
      go_wp2
      go_ret
      exact ⟨ret_i X.out, rfl⟩
    · have X := Lib.hid (show (n + 8 - 1) / 8 = bytesV n by unfold bytesV; rw [if_neg (by omega)]; omega)
      have h3 : 1 ≤ n := by omega
      have h4 : n ≤ 4096 := by omega
      go_enter Tryz.func188, Tryz.ntmps188
      go_wp2
      go_ret
      exact ⟨ret_i X.out, rfl⟩
theorem refBytes_any (n : Int) (w : World) : Calls Tryz.prog 183 #[.int .i64 n] w fun e w' => e = .returned (.int .i64 (bytesV n)) ∧ w = w' := by
  by_cases h1 : n < 1
  · have X := Lib.hid (show 0 = bytesV n by unfold bytesV; rw [if_pos (.inl h1)])
    go_enter Tryz.func183, Tryz.ntmps183
    go_wp2
    go_ret
    exact ⟨ret_i X.out, rfl⟩
  · by_cases h2 : 4096 < n
    · have X := Lib.hid (show 0 = bytesV n by unfold bytesV; rw [if_pos (.inr h2)])
      go_enter Tryz.func183, Tryz.ntmps183
      go_wp2
      go_ret
      exact ⟨ret_i X.out, rfl⟩
    · have h3 : 1 ≤ n := by omega
      have h4 : n ≤ 4096 := by omega
      by_cases h5 : 0 < n % 8
      · have X := Lib.hid (show n / 8 + 1 = bytesV n by unfold bytesV; rw [if_neg (by omega)]; omega)
        go_enter Tryz.func183, Tryz.ntmps183
        go_wp2
        go_ret
        exact ⟨ret_i X.out, rfl⟩
      · have X := Lib.hid (show n / 8 = bytesV n by unfold bytesV; rw [if_neg (by omega)]; omega)
        go_enter Tryz.func183, Tryz.ntmps183
        go_wp2
        go_ret
        exact ⟨ret_i X.out, rfl⟩
end Bt
end Go.Proofs.YtmnhiagppicegaaGreat

/- A byte's bits, over any memory. Condition: the byte fits its kind. -/
namespace Go.Proofs.YtmnhiagppicegaaGreat
open Go.RowKit
set_option linter.unusedVariables false
namespace Bt
theorem and1 (d : Int) (h : 0 ≤ d) (h2 : d ≤ 255) : Go.bits BinOp.and IntKind.u8 d 1 = d % 2 := by
  obtain ⟨n, rfl⟩ : ∃ n : Nat, d = n := ⟨d.toNat, by omega⟩
  have := u8_and_nat n 1 (by omega) (by omega)
  rw [show ((1 : Nat) : Int) = 1 from rfl] at this
  rw [this, Nat.and_one_is_mod]
  omega
set_option maxRecDepth 100000 in
theorem split_any (c : Int) (h0 : 0 ≤ c) (h1 : c ≤ 255) (w : World) : Calls Tryz.prog 214 #[.int .u8 c] w fun e w' => e = .returned (.agg #[.int .i64 (c / 128 % 2), .int .i64 (c / 64 % 2), .int .i64 (c / 32 % 2), .int .i64 (c / 16 % 2), .int .i64 (c / 8 % 2), .int .i64 (c / 4 % 2), .int .i64 (c / 2 % 2), .int .i64 (c % 2)]) ∧ Below w.heap.size w w' := by
  have N : ∀ d, 0 ≤ d → d ≤ 255 → ∃ x, Go.bits BinOp.and IntKind.u8 d 1 = x ∧ 0 ≤ x ∧ x ≤ 1 ∧ Hid (d % 2 = x) := fun d h k => ⟨d % 2, and1 d h k, by omega, by omega, Lib.hid rfl⟩
  obtain ⟨x0, e0, p0, q0, H0⟩ := N c (by omega) (by omega)
  obtain ⟨x1, e1, p1, q1, H1⟩ := N (c / 2) (by omega) (by omega)
  obtain ⟨x2, e2, p2, q2, H2⟩ := N (c / 4) (by omega) (by omega)
  obtain ⟨x3, e3, p3, q3, H3⟩ := N (c / 8) (by omega) (by omega)
  obtain ⟨x4, e4, p4, q4, H4⟩ := N (c / 16) (by omega) (by omega)
  obtain ⟨x5, e5, p5, q5, H5⟩ := N (c / 32) (by omega) (by omega)
  obtain ⟨x6, e6, p6, q6, H6⟩ := N (c / 64) (by omega) (by omega)
  obtain ⟨x7, e7, p7, q7, H7⟩ := N (c / 128) (by omega) (by omega)
  rw [H0.out, H1.out, H2.out, H3.out, H4.out, H5.out, H6.out, H7.out]
  clear N
  go_enter Tryz.func214, Tryz.ntmps214
  go_wp2
  go_rounds 9
  exact bodyPost_ret (v := .agg #[.int .i64 x7, .int .i64 x6, .int .i64 x5, .int .i64 x4, .int .i64 x3, .int .i64 x2, .int .i64 x1, .int .i64 x0]) (by simp [results, Tryz.results214, go_sem]) rfl ⟨rfl, by go_grown⟩
end Bt
end Go.Proofs.YtmnhiagppicegaaGreat

/- slices.Reverse of integers: the row is reversed in place, over any memory. No condition beyond the model's bound on a length. -/
namespace Go.Proofs.YtmnhiagppicegaaGreat
open Go.RowKit Go.Lib Go.Sort
end Go.Proofs.YtmnhiagppicegaaGreat
