/- A struct of five fields of a cell each that came in, told field by field. No condition. -/
import Derived.Test.YtkjkepnailamnaaGreatProg
import Derived.Lib.SmallJoins
import Derived.RangeFuncNested
import Derived.RangeFuncBound
import Derived.RangeFuncCalls
import Derived.RangeFuncLeaves
import Derived.Shelf.Abstract
import Derived.Shelf.RegionOpen
import Derived.WalkKit
import Derived.OwnWalkIn
import Derived.OwnWalk
import Derived.TacticsInMore
import Derived.LoopNIn
import Derived.LoopIn
import Derived.Maps.AppendAt
import Derived.Handy
import Derived.WalkSpells
import Derived.WalkLawsBesides
import Derived.Lib.Hide
import Derived.Laws.CopyOwn
import Derived.Laws.MakeOwn
import Derived.Deep.OwnRows
import Derived.Deep.RegionHeld3
import Derived.Deep.LoopGhost
import Derived.Deep.DeepCutAuto
import Derived.Deep.CutRange
import Derived.Laws.BitsAllLaws
import Derived.Deep.DrawnRows
import Derived.Deep.QuietTactic
import Derived.BigQuiet
import Derived.Deep.RegionWith
import Derived.IntWalk
import Derived.LoopN
namespace Go.Proofs.YtkjkepnailamnaaGreat
open Go.ChangeShapes Go.WideShapes Go.RowKit Go.Deep Go.WideElems Go.Maps Go.Joins
theorem arr_five {α : Type} {l : Array α} (h : l.size = 5) : ∃ a b c d e, l = #[a, b, c, d, e] := by
  obtain ⟨x⟩ := l
  match x, h with
  | [a, b, c, d, e], _ => exact ⟨a, b, c, d, e, rfl⟩
section
variable {H : Type} {enc : TypeId × Value → H} {P : Program} {w : World} {base : Nat} {spare : Nat → Bool} {held : Bool}
theorem open_agg5 {r : Reach} {b0 : Nat} {t : TypeId} {g0 g1 g2 g3 g4 : Field} {v : Value} {d : DataW H} {p : List MemPlace} (hs : P.underlying t = some (.struct #[g0, g1, g2, g3, g4])) (hone : oneCellFields P #[g0, g1, g2, g3, g4] = true) (hC : P.cellsOf t = 5)
    (hv : Value.okWide P w r b0 t v) (h : DataW.Trod enc P w base spare held t v d p) :
    ∃ (x0 x1 x2 x3 x4 : Value) (y0 y1 y2 y3 y4 : DataW H × List MemPlace) (n : Nat), v = .agg #[x0, x1, x2, x3, x4] ∧ d = .agg [y0.1, y1.1, y2.1, y3.1, y4.1] ∧ p = y0.2 ++ (y1.2 ++ (y2.2 ++ (y3.2 ++ y4.2))) ∧
      DataW.trod enc P w base spare held n g0.type [x0] = some y0 ∧ DataW.trod enc P w base spare held n g1.type [x1] = some y1 ∧ DataW.trod enc P w base spare held n g2.type [x2] = some y2 ∧ DataW.trod enc P w base spare held n g3.type [x3] = some y3 ∧ DataW.trod enc P w base spare held n g4.type [x4] = some y4 := by
  obtain ⟨cs, rfl, hz⟩ := okWide_struct hs hv
  obtain ⟨x0, x1, x2, x3, x4, rfl⟩ := arr_five (hz.trans hC)
  obtain ⟨fuel, hf⟩ := h
  obtain ⟨ys, n, _, hx, _, hlen, hF⟩ := DataW.trod_struct hs hf
  have F := fun k (f : Field) (hk : #[g0, g1, g2, g3, g4][k]? = some f) => (hone_of hone k f hk)
  match ys, hlen with
  | [y0, y1, y2, y3, y4], _ =>
    simp only [Prod.mk.injEq] at hx
    obtain ⟨o0, k0⟩ := F 0 g0 rfl
    obtain ⟨o1, k1⟩ := F 1 g1 rfl
    obtain ⟨o2, k2⟩ := F 2 g2 rfl
    obtain ⟨o3, k3⟩ := F 3 g3 rfl
    obtain ⟨o4, k4⟩ := F 4 g4 rfl
    refine ⟨x0, x1, x2, x3, x4, y0, y1, y2, y3, y4, n, rfl, by simpa using hx.1, by simpa using hx.2, ?_, ?_, ?_, ?_, ?_⟩
    · simpa [Value.cells, o0, k0] using hF 0 g0 rfl
    · simpa [Value.cells, o1, k1] using hF 1 g1 rfl
    · simpa [Value.cells, o2, k2] using hF 2 g2 rfl
    · simpa [Value.cells, o3, k3] using hF 3 g3 rfl
    · simpa [Value.cells, o4, k4] using hF 4 g4 rfl
end
end Go.Proofs.YtkjkepnailamnaaGreat
namespace Go.Proofs.YtkjkepnailamnaaGreat
open Go.RowKit
structure Sep (Z : Nat → Prop) (A B : World) : Prop where
  os : B.os = A.os
  tape : B.tape = A.tape
  output : B.output = A.output
  size : A.heap.size ≤ B.heap.size
  block : ∀ k, k < A.heap.size → ¬ Z k → B.heap[k]? = A.heap[k]?
structure Hold (Z : Nat → Prop) (A B : World) : Prop where
  size : A.heap.size ≤ B.heap.size
  block : ∀ k, k < A.heap.size → Z k → B.heap[k]? = A.heap[k]?
theorem Sep.refl (Z : Nat → Prop) (A : World) : Sep Z A A := ⟨rfl, rfl, rfl, Nat.le_refl _, fun _ _ _ => rfl⟩
theorem Sep.trans {Z : Nat → Prop} {A B C : World} (h : Sep Z A B) (k : Sep Z B C) : Sep Z A C :=
  ⟨k.os.trans h.os, k.tape.trans h.tape, k.output.trans h.output, Nat.le_trans h.size k.size, fun i hi hz => (k.block i (Nat.lt_of_lt_of_le hi h.size) hz).trans (h.block i hi hz)⟩
theorem Sep.mono {Z Z' : Nat → Prop} {A B : World} (h : Sep Z A B) (hz : ∀ k, Z k → Z' k) : Sep Z' A B :=
  ⟨h.os, h.tape, h.output, h.size, fun k hk hn => h.block k hk (fun e => hn (hz k e))⟩
theorem Sep.alloc (Z : Nat → Prop) (A : World) (o : Obj) : Sep Z A (A.alloc o) := ⟨rfl, rfl, rfl, by simp, fun k hk _ => Below.heap_alloc _ _ _ hk⟩
theorem Sep.setCell {Z : Nat → Prop} (A : World) {b o : Nat} {p : Option Nat} (hz : Z b) (v : Value) : Sep Z A (A.setCell ⟨b, o, p⟩ v) :=
  ⟨rfl, rfl, rfl, by simp [World.setCell], fun k _ hn => Below.heap_setCell _ _ _ _ (fun e => hn (e ▸ hz))⟩
theorem Sep.putObj {Z : Nat → Prop} (A : World) {b : Nat} (hz : Z b) (o : Obj) : Sep Z A (A.putObj b o) :=
  ⟨rfl, rfl, rfl, by simp, fun k _ hn => World.putObj_heap_other (fun e => hn (e ▸ hz))⟩
theorem Sep.drewN (Z : Nat → Prop) (A : World) (m : Nat) : Sep Z A (A.drewN m) := ⟨rfl, rfl, rfl, Nat.le_refl _, fun _ _ _ => rfl⟩
theorem Sep.drew (Z : Nat → Prop) (A : World) : Sep Z A A.drew := ⟨rfl, rfl, rfl, Nat.le_refl _, fun _ _ _ => rfl⟩
theorem Sep.below {Z : Nat → Prop} {A B : World} {m : Nat} (h : Sep Z A B) (hm : m ≤ A.heap.size) (hz : ∀ k, k < m → ¬ Z k) : Below m A B :=
  ⟨h.os, h.tape, h.output, h.size, fun k hk => h.block k (by omega) (hz k hk)⟩
theorem Sep.cell {Z : Nat → Prop} {A B : World} (h : Sep Z A B) {b o : Nat} {p : Option Nat} {v : Value} (hb : ¬ Z b) (hc : A.cell? ⟨b, o, p⟩ = some v) : B.cell? ⟨b, o, p⟩ = some v :=
  (World.cell?_of_block (w := A) (a := ⟨b, o, p⟩) (h.block b (block_lt_of_cell hc) hb)).trans hc
theorem Sep.frozen {Z : Nat → Prop} {A B : World} (h : Sep Z A B) {b o : Nat} {p : Option Nat} (hb : ¬ Z b) (hl : b < A.heap.size) : B.frozen? ⟨b, o, p⟩ = A.frozen? ⟨b, o, p⟩ :=
  World.frozen?_of_block (w := A) (a := ⟨b, o, p⟩) (h.block b hl hb)
theorem Hold.refl (Z : Nat → Prop) (A : World) : Hold Z A A := ⟨Nat.le_refl _, fun _ _ _ => rfl⟩
theorem Hold.trans {Z : Nat → Prop} {A B C : World} (h : Hold Z A B) (k : Hold Z B C) : Hold Z A C :=
  ⟨Nat.le_trans h.size k.size, fun i hi hz => (k.block i (Nat.lt_of_lt_of_le hi h.size) hz).trans (h.block i hi hz)⟩
theorem Hold.mono {Z Z' : Nat → Prop} {A B : World} (h : Hold Z A B) (hz : ∀ k, Z' k → Z k) : Hold Z' A B := ⟨h.size, fun k hk hn => h.block k hk (hz k hn)⟩
theorem Hold.alloc (Z : Nat → Prop) (A : World) (o : Obj) : Hold Z A (A.alloc o) := ⟨by simp, fun k hk _ => Below.heap_alloc _ _ _ hk⟩
theorem Hold.setCell {Z : Nat → Prop} (A : World) {b o : Nat} {p : Option Nat} (hz : ¬ Z b) (v : Value) : Hold Z A (A.setCell ⟨b, o, p⟩ v) :=
  ⟨by simp [World.setCell], fun k _ hn => Below.heap_setCell _ _ _ _ (fun e => by simp at e; subst e; exact hz hn)⟩
theorem Hold.putObj {Z : Nat → Prop} (A : World) {b : Nat} (hz : ¬ Z b) (o : Obj) : Hold Z A (A.putObj b o) :=
  ⟨by simp, fun k _ hn => World.putObj_heap_other (fun e => hz (e ▸ hn))⟩
theorem Hold.grown {Z : Nat → Prop} {A B : World} {row : Option Nat} (hg : A.grownBy B row) (hr : ∀ k, row = some k → ¬ Z k) : Hold Z A B :=
  ⟨hg.size, fun k hk hz => hg.block k hk (fun e => hr k e.symm hz)⟩
theorem Hold.below {Z : Nat → Prop} {A B : World} {m : Nat} (h : Below m A B) (hz : ∀ k, Z k → k < m) : Hold Z A B := ⟨h.size, fun k _ hn => h.block k (hz k hn)⟩
theorem Hold.drewN (Z : Nat → Prop) (A : World) (m : Nat) : Hold Z A (A.drewN m) := ⟨Nat.le_refl _, fun _ _ _ => rfl⟩
theorem Hold.cell {Z : Nat → Prop} {A B : World} (h : Hold Z A B) {b o : Nat} {p : Option Nat} {v : Value} (hb : Z b) (hc : A.cell? ⟨b, o, p⟩ = some v) : B.cell? ⟨b, o, p⟩ = some v :=
  (World.cell?_of_block (w := A) (a := ⟨b, o, p⟩) (h.block b (block_lt_of_cell hc) hb)).trans hc
theorem Hold.frozen {Z : Nat → Prop} {A B : World} (h : Hold Z A B) {b o : Nat} {p : Option Nat} (hb : Z b) (hl : b < A.heap.size) : B.frozen? ⟨b, o, p⟩ = A.frozen? ⟨b, o, p⟩ :=
  World.frozen?_of_block (w := A) (a := ⟨b, o, p⟩) (h.block b hl hb)
def Gives {α : Type} (F : Fence) (n : Nat) (P : Program) (g : Nat) (lb : Array Value) (encs : α → Array Value) (Z : Nat → Prop) (xs : List α) (W0 : World) : Prop :=
  ∀ (l : Nat) (J Jx : List α → World → Prop) (W : World), Hold Z W0 W →
    (∀ s A B, J s A → Sep Z A B → J s B) → (∀ s A B, Jx s A → Sep Z A B → Jx s B) →
    (∀ pre x rest W1, xs = pre ++ x :: rest → J pre W1 → YieldAt F (n - 1) P l (encs x) W1 fun e W' => Hold Z W1 W' ∧
      ((e = .returned (.bool true) ∧ J (pre ++ [x]) W') ∨ (e = .returned (.bool false) ∧ Jx (pre ++ [x]) W'))) →
    J [] W → CallsIn F n P g (#[.func (.yield l) #[] #[]] ++ lb) W fun e W' => (∃ v, e = .returned v) ∧ (J xs W' ∨ ∃ pre, pre <+: xs ∧ Jx pre W')
def GivesN {α : Type} (F : Fence) (n : Nat) (P : Program) (g : Nat) (lb : Array Value) (encs : α → Array Value) (Z Zs : Nat → Prop) (xs : List α) (W0 : World) : Prop :=
  ∀ (l : Nat) (J Jx : List α → World → Prop) (W : World), W0.heap.size + 2 ≤ W.heap.size → Hold Z W0 W →
    (∀ s A B, J s A → Sep Zs A B → J s B) → (∀ s A B, Jx s A → Sep Zs A B → Jx s B) →
    (∀ pre x rest W1, xs = pre ++ x :: rest → J pre W1 → YieldAt F (n - 1) P l (encs x) W1 fun e W' => Hold Z W1 W' ∧
      ((e = .returned (.bool true) ∧ J (pre ++ [x]) W') ∨ (e = .returned (.bool false) ∧ Jx (pre ++ [x]) W'))) →
    J [] W → CallsIn F n P g (#[.func (.yield l) #[] #[]] ++ lb) W fun e W' => (∃ v, e = .returned v) ∧ (J xs W' ∨ ∃ pre, pre <+: xs ∧ Jx pre W')
theorem Gives.n {α : Type} {F : Fence} {n : Nat} {P : Program} {g : Nat} {lb : Array Value} {encs : α → Array Value} {Z : Nat → Prop} {xs : List α} {W0 : World} (h : Gives F n P g lb encs Z xs W0) : GivesN F n P g lb encs Z Z xs W0 :=
  fun l J Jx W _ => h l J Jx W
def roundEnd {α : Type} (Z : Nat → Prop) (I : List α → World → Prop) (Ix : Code → List α → World → Prop) (xs : List α) (W : World) : Exit → Act → World → Prop
  | .normal, _, W' => Hold Z W W' ∧ I xs W'
  | .ret, _, W' => Hold Z W W' ∧ Ix .ret xs W'
  | .exit id, _, W' => Hold Z W W' ∧ Ix (.exit id) xs W'
  | .goto t, _, W' => Hold Z W W' ∧ Ix (.goto t) xs W'
  | .panic _, _, _ => False
  | .outgrown, _, _ => False
variable {F : Fence} {n : Nat} {P : Program}
theorem range_ownN {α : Type} {g : Operand} {ps : Array Tmp} {assign body : Code} {Q : Exit → Act → World → Prop} {a : Act} {w : World}
    (hro : F.round = none) (h1 : 1 ≤ n) {gf : Nat} {lb : Array Value} (hg : a.eval g = .func (.func gf) #[] lb) (hFg : F.fn gf) (eg : ∀ args w, (callFunc gf args).run P w = .ok (.enter gf args) w)
    {encs : α → Array Value} {Z Zs : Nat → Prop} {xs : List α} (hseq : GivesN F (n - 1) P gf lb encs Z Zs xs w) (hsub : ∀ k, Zs k → Z k) (nZD : ¬ Z w.heap.size) (nZL : ¬ Z (w.heap.size + 1)) (hps : ∀ x, (encs x).size = ps.size)
    (I : List α → World → Prop) (Ix : Code → List α → World → Prop)
    (hI : ∀ s A B, I s A → Sep (fun k => Zs k ∨ k = w.heap.size ∨ k = w.heap.size + 1) A B → I s B)
    (hIx : ∀ c s A B, Ix c s A → Sep (fun k => Zs k ∨ k = w.heap.size ∨ k = w.heap.size + 1) A B → Ix c s B)
    (h0 : I [] w) (Ax : α → Act → World → Prop) (hAx : ∀ x a' A B, Ax x a' A → Sep (fun k => Zs k ∨ k = w.heap.size ∨ k = w.heap.size + 1) A B → Ax x a' B)
    (hassign : ∀ (l : Nat) (pre : List α) (x : α) (W : World) (K : Act → World → Prop), I pre W → w.heap.size + 1 < W.heap.size →
      (∀ a' W', Hold (fun k => Z k ∨ k = w.heap.size ∨ k = w.heap.size + 1) W W' → I pre W' → Ax x a' W' → K a' W') →
      assign.wpIn (F.inRound l) (n - 1 - 1) P (Exit.then K (fun _ _ _ => False)) { tmps := (ps.zip (encs x)).foldl (fun t (p, v) => t.setIfInBounds p v) a.tmps, defers := [] } W)
    (hbody : ∀ (l : Nat) (pre : List α) (x : α) (rest : List α) (a' : Act) (W : World), xs = pre ++ x :: rest → w.heap.size + 1 < W.heap.size → I pre W → Ax x a' W →
      body.wpIn (F.inRound l) (n - 1 - 1) P (roundEnd (fun k => Z k ∨ k = w.heap.size ∨ k = w.heap.size + 1) I Ix (pre ++ [x]) W) a' W)
    (hdone : ∀ (W : World), I xs W → W.heap[w.heap.size]? = some (.deferred (some [])) → Q .normal { a with defers := { target := .collected w.heap.size, args := #[] } :: a.defers } W)
    (hstop : ∀ (c : Code) (pre : List α) (W : World), pre <+: xs → Ix c pre W → W.heap[w.heap.size]? = some (.deferred (some [])) → c.wpIn F n P Q { a with defers := { target := .collected w.heap.size, args := #[] } :: a.defers } W) :
    (Code.rangeFunc g ps assign body).wpIn F n P Q a w := by
  refine wpIn_rangeFunc fun fn hfn => ?_
  rw [hro]
  -- the loop's record, in a state and with a jump that waits
  obtain ⟨rec, hrec⟩ : ∃ rec : LoopState → Option Code → Loop, rec = fun s j => { state := s, pending := j, fn, tmps := a.tmps, params := ps, assign, body, defers := w.heap.size } := ⟨_, rfl⟩
  have hrs : ∀ s j, (rec s j).state = s := fun s j => by rw [hrec]
  have hrp : ∀ s j, (rec s j).pending = j := fun s j => by rw [hrec]
  have hf1 : (rec .ready none).params = ps := by rw [hrec]
  have hf2 : (rec .ready none).fn = fn := by rw [hrec]
  have hf3 : (rec .ready none).tmps = a.tmps := by rw [hrec]
  have hf4 : (rec .ready none).assign = assign := by rw [hrec]
  have hf5 : (rec .ready none).body = body := by rw [hrec]
  have hset : ∀ s j s' j', ({ rec s j with state := s', pending := j' } : Loop) = rec s' j' := fun s j s' j' => by rw [hrec]
  have hset1 : ∀ s j s', ({ rec s j with state := s' } : Loop) = rec s' j := fun s j s' => by rw [hrec]
  generalize hW1 : (w.alloc (.deferred (some []))).alloc (.loop (rec .ready none)) = W1
  have sz1 : W1.heap.size = w.heap.size + 2 := by rw [← hW1]; simp
  have hL1 : W1.heap[w.heap.size + 1]? = some (.loop (rec .ready none)) := by
    rw [← hW1]; have := World.alloc_heap_new (w.alloc (.deferred (some []))) (.loop (rec .ready none)); rwa [World.size_alloc] at this
  have hD1 : W1.heap[w.heap.size]? = some (.deferred (some [])) := by
    rw [← hW1, Below.heap_alloc _ _ _ (by simp)]; exact World.alloc_heap_new w _
  have hI1 : I [] W1 := by rw [← hW1]; exact hI _ _ _ (hI _ _ _ h0 (.alloc _ _ _)) (.alloc _ _ _)
  have hH1 : Hold Z w W1 := by rw [← hW1]; exact (Hold.alloc Z w _).trans (.alloc Z _ _)
  refine ⟨w.heap.size + 1, [{ target := .collected w.heap.size, args := #[] }], W1, { target := .fn (.func gf) lb, args := #[.func (.yield (w.heap.size + 1)) #[] #[]] }, W1, gf,
    #[.func (.yield (w.heap.size + 1)) #[] #[]] ++ lb, W1, ?_, ?_, ?_, ?_, fun _ => h1, ?_⟩
  · rw [← hW1, hrec]; exact run_enterLoop_outer _ _ _ _ _
  · simp only [resolve, hg]; simp [go_sem]
  · intro f' hf'; simp [Target.leads] at hf'; subst hf'; exact hFg
  · simp [invoke, go_sem, eg]
  -- the iterator, at the caller's invariant and the loop's two blocks
  have keep : ∀ {o : Obj} {A B : World} {k : Nat}, ¬ Zs k → A.heap[k]? = some o → Sep Zs A B → B.heap[k]? = some o := fun hk ho hs => (hs.block _ (Array.getElem?_eq_some_iff.1 ho).1 hk).trans ho
  have wide : ∀ {A B : World}, Sep Zs A B → Sep (fun k => Zs k ∨ k = w.heap.size ∨ k = w.heap.size + 1) A B := fun h => h.mono fun _ e => .inl e
  have iz : ∀ {A : World} (o : Obj), Sep (fun k => Zs k ∨ k = w.heap.size ∨ k = w.heap.size + 1) A (A.putObj (w.heap.size + 1) o) := fun o => .putObj _ (.inr (.inr rfl)) o
  have hold : ∀ {A B : World}, Hold (fun k => Z k ∨ k = w.heap.size ∨ k = w.heap.size + 1) A B → Hold Z A B := fun h => h.mono fun _ e => .inl e
  refine (hseq (w.heap.size + 1)
    (fun pre W => I pre W ∧ W.heap[w.heap.size + 1]? = some (.loop (rec .ready none)) ∧ W.heap[w.heap.size]? = some (.deferred (some [])))
    (fun pre W => ∃ c, Ix c pre W ∧ W.heap[w.heap.size + 1]? = some (.loop (rec .done (some c))) ∧ W.heap[w.heap.size]? = some (.deferred (some [])))
    W1 (by omega) hH1 (fun s A B h hs => ⟨hI s A B h.1 (wide hs), keep (fun e => nZL (hsub _ e)) h.2.1 hs, keep (fun e => nZD (hsub _ e)) h.2.2 hs⟩)
    (fun s A B ⟨c, h, hl, hd⟩ hs => ⟨c, hIx c s A B h (wide hs), keep (fun e => nZL (hsub _ e)) hl hs, keep (fun e => nZD (hsub _ e)) hd hs⟩) ?_ ⟨hI1, hL1, hD1⟩).mono ?_
  · rintro pre x rest W hx ⟨hi, hl, hd⟩
    have hlt := (Array.getElem?_eq_some_iff.1 hl).1
    have hy := run_yield (P := P) (args := encs x) hl (by rw [hf1]; exact hps x)
    rw [hf1, hf2, hf3, hf4, hf5] at hy
    refine ⟨fn, _, assign, body, hy, roundIn_of_wpIn hfn ?_⟩
    refine hassign _ pre x W _ hi hlt fun a' Wa ha hia hax => ?_
    have hla : Wa.heap[w.heap.size + 1]? = some (.loop (rec .ready none)) := (ha.block _ hlt (.inr (.inr rfl))).trans hl
    have hda : Wa.heap[w.heap.size]? = some (.deferred (some [])) := (ha.block _ (by omega) (.inr (.inl rfl))).trans hd
    have hlta : w.heap.size + 1 < Wa.heap.size := (Array.getElem?_eq_some_iff.1 hla).1
    refine ⟨_, run_beginRound hla (hrs _ _), ?_⟩
    rw [hset1]
    generalize hWb : Wa.putObj (w.heap.size + 1) (.loop (rec .busy none)) = Wb
    have hlb : Wb.heap[w.heap.size + 1]? = some (.loop (rec .busy none)) := by rw [← hWb]; exact World.putObj_heap_same hlta
    have hdb : Wb.heap[w.heap.size]? = some (.deferred (some [])) := by rw [← hWb, World.putObj_heap_other (by omega)]; exact hda
    have hib : I pre Wb := by rw [← hWb]; exact hI _ _ _ hia (iz _)
    have hxb : Ax x a' Wb := by rw [← hWb]; exact hAx _ _ _ _ hax (iz _)
    have hWab : Hold Z W Wb := (hold ha).trans (by rw [← hWb]; exact .putObj _ nZL _)
    have hltb : w.heap.size + 1 < Wb.heap.size := (Array.getElem?_eq_some_iff.1 hlb).1
    refine wpIn_mono (hbody _ pre x rest a' Wb hx hltb hib hxb) ?_
    have fin : ∀ (j : Option Code) (W3 : World), Hold (fun k => Z k ∨ k = w.heap.size ∨ k = w.heap.size + 1) Wb W3 →
        ∃ W4, (Instr.endRound (w.heap.size + 1) j).run P W3 = .ok (.bool j.isNone) W4 ∧ Sep (fun k => Zs k ∨ k = w.heap.size ∨ k = w.heap.size + 1) W3 W4 ∧ Hold Z W W4 ∧
          W4.heap[w.heap.size + 1]? = some (.loop (rec (if j.isNone then .ready else .done) j)) ∧ W4.heap[w.heap.size]? = some (.deferred (some [])) := fun j W3 h3 => by
      have hl3 : W3.heap[w.heap.size + 1]? = some (.loop (rec .busy none)) := (h3.block _ hltb (.inr (.inr rfl))).trans hlb
      have hd3 : W3.heap[w.heap.size]? = some (.deferred (some [])) := (h3.block _ (by omega) (.inr (.inl rfl))).trans hdb
      refine ⟨_, run_endRound j hl3, iz _, hWab.trans ((hold h3).trans (.putObj _ nZL _)), ?_, ?_⟩
      · rw [hset]; exact World.putObj_heap_same (Array.getElem?_eq_some_iff.1 hl3).1
      · rw [World.putObj_heap_other (by omega)]; exact hd3
    rintro e a3 W3 hp
    cases e with
    | normal => obtain ⟨h3, hi3⟩ := hp; obtain ⟨W4, hr, hs, hh, hl4, hd4⟩ := fin none W3 h3; exact ⟨_, W4, hr, hh, .inl ⟨rfl, hI _ _ _ hi3 hs, hl4, hd4⟩⟩
    | ret => obtain ⟨h3, hi3⟩ := hp; obtain ⟨W4, hr, hs, hh, hl4, hd4⟩ := fin (some .ret) W3 h3; exact ⟨_, W4, hr, hh, .inr ⟨rfl, _, hIx _ _ _ _ hi3 hs, hl4, hd4⟩⟩
    | exit id => obtain ⟨h3, hi3⟩ := hp; obtain ⟨W4, hr, hs, hh, hl4, hd4⟩ := fin (some (.exit id)) W3 h3; exact ⟨_, W4, hr, hh, .inr ⟨rfl, _, hIx _ _ _ _ hi3 hs, hl4, hd4⟩⟩
    | goto t => obtain ⟨h3, hi3⟩ := hp; obtain ⟨W4, hr, hs, hh, hl4, hd4⟩ := fin (some (.goto t)) W3 h3; exact ⟨_, W4, hr, hh, .inr ⟨rfl, _, hIx _ _ _ _ hi3 hs, hl4, hd4⟩⟩
    | panic ch => exact hp.elim
    | outgrown => exact hp.elim
  · rintro e W2 ⟨⟨v, rfl⟩, hJ⟩
    rcases hJ with ⟨hi, hl, hd⟩ | ⟨pre, hpre, c, hi, hl, hd⟩
    · exact ⟨none, _, by rw [run_endLoop hl (by rw [hrs]; simp), hrp], hdone _ (hI _ _ _ hi (iz _)) (by rw [World.putObj_heap_other (by omega)]; exact hd)⟩
    · exact ⟨some c, _, by rw [run_endLoop hl (by rw [hrs]; simp), hrp], hstop c pre _ hpre (hIx _ _ _ _ hi (iz _)) (by rw [World.putObj_heap_other (by omega)]; exact hd)⟩
theorem range_own {α : Type} {g : Operand} {ps : Array Tmp} {assign body : Code} {Q : Exit → Act → World → Prop} {a : Act} {w : World}
    (hro : F.round = none) (h1 : 1 ≤ n) {gf : Nat} {lb : Array Value} (hg : a.eval g = .func (.func gf) #[] lb) (hFg : F.fn gf) (eg : ∀ args w, (callFunc gf args).run P w = .ok (.enter gf args) w)
    {encs : α → Array Value} {Z : Nat → Prop} {xs : List α} (hseq : Gives F (n - 1) P gf lb encs Z xs w) (hZ : ∀ k, Z k → k < w.heap.size) (hps : ∀ x, (encs x).size = ps.size)
    (I : List α → World → Prop) (Ix : Code → List α → World → Prop)
    (hI : ∀ s A B, I s A → Sep (fun k => Z k ∨ k = w.heap.size ∨ k = w.heap.size + 1) A B → I s B)
    (hIx : ∀ c s A B, Ix c s A → Sep (fun k => Z k ∨ k = w.heap.size ∨ k = w.heap.size + 1) A B → Ix c s B)
    (h0 : I [] w) (Ax : α → Act → World → Prop) (hAx : ∀ x a' A B, Ax x a' A → Sep (fun k => Z k ∨ k = w.heap.size ∨ k = w.heap.size + 1) A B → Ax x a' B)
    (hassign : ∀ (l : Nat) (pre : List α) (x : α) (W : World) (K : Act → World → Prop), I pre W → w.heap.size + 1 < W.heap.size →
      (∀ a' W', Hold (fun k => Z k ∨ k = w.heap.size ∨ k = w.heap.size + 1) W W' → I pre W' → Ax x a' W' → K a' W') →
      assign.wpIn (F.inRound l) (n - 1 - 1) P (Exit.then K (fun _ _ _ => False)) { tmps := (ps.zip (encs x)).foldl (fun t (p, v) => t.setIfInBounds p v) a.tmps, defers := [] } W)
    (hbody : ∀ (l : Nat) (pre : List α) (x : α) (rest : List α) (a' : Act) (W : World), xs = pre ++ x :: rest → w.heap.size + 1 < W.heap.size → I pre W → Ax x a' W →
      body.wpIn (F.inRound l) (n - 1 - 1) P (roundEnd (fun k => Z k ∨ k = w.heap.size ∨ k = w.heap.size + 1) I Ix (pre ++ [x]) W) a' W)
    (hdone : ∀ (W : World), I xs W → W.heap[w.heap.size]? = some (.deferred (some [])) → Q .normal { a with defers := { target := .collected w.heap.size, args := #[] } :: a.defers } W)
    (hstop : ∀ (c : Code) (pre : List α) (W : World), pre <+: xs → Ix c pre W → W.heap[w.heap.size]? = some (.deferred (some [])) → c.wpIn F n P Q { a with defers := { target := .collected w.heap.size, args := #[] } :: a.defers } W) :
    (Code.rangeFunc g ps assign body).wpIn F n P Q a w :=
  range_ownN hro h1 hg hFg eg hseq.n (fun _ e => e) (fun e => by have := hZ _ e; omega) (fun e => by have := hZ _ e; omega) hps I Ix hI hIx h0 Ax hAx hassign hbody hdone hstop
theorem range_own1N {α : Type} {g : Operand} {ps : Array Tmp} {assign body : Code} {Q : Exit → Act → World → Prop} {a : Act} {w : World}
    (hro : F.round = none) (h1 : 1 ≤ n) {gf : Nat} {lb : Array Value} (hg : a.eval g = .func (.func gf) #[] lb) (hFg : F.fn gf) (eg : ∀ args w, (callFunc gf args).run P w = .ok (.enter gf args) w)
    {encs : α → Array Value} {Z Zs : Nat → Prop} {xs : List α} (hseq : GivesN F (n - 1) P gf lb encs Z Zs xs w) (hsub : ∀ k, Zs k → Z k) (nZD : ¬ Z w.heap.size) (nZL : ¬ Z (w.heap.size + 1)) (hps : ∀ x, (encs x).size = ps.size)
    (I : List α → World → Prop) (Ix : Code → List α → World → Prop)
    (hI : ∀ s A B, I s A → Sep (fun k => Zs k ∨ k = w.heap.size ∨ k = w.heap.size + 1) A B → I s B)
    (hIx : ∀ c s A B, Ix c s A → Sep (fun k => Zs k ∨ k = w.heap.size ∨ k = w.heap.size + 1) A B → Ix c s B)
    (h0 : I [] w) (a₁ : α → Act)
    (hassign : ∀ (l : Nat) (x : α) (W : World) (K : Act → World → Prop), K (a₁ x) W →
      assign.wpIn (F.inRound l) (n - 1 - 1) P (Exit.then K (fun _ _ _ => False)) { tmps := (ps.zip (encs x)).foldl (fun t (p, v) => t.setIfInBounds p v) a.tmps, defers := [] } W)
    (hbody : ∀ (l : Nat) (pre : List α) (x : α) (rest : List α) (W : World), xs = pre ++ x :: rest → w.heap.size + 1 < W.heap.size → I pre W →
      body.wpIn (F.inRound l) (n - 1 - 1) P (roundEnd (fun k => Z k ∨ k = w.heap.size ∨ k = w.heap.size + 1) I Ix (pre ++ [x]) W) (a₁ x) W)
    (hdone : ∀ (W : World), I xs W → W.heap[w.heap.size]? = some (.deferred (some [])) → Q .normal { a with defers := { target := .collected w.heap.size, args := #[] } :: a.defers } W)
    (hstop : ∀ (c : Code) (pre : List α) (W : World), pre <+: xs → Ix c pre W → W.heap[w.heap.size]? = some (.deferred (some [])) → c.wpIn F n P Q { a with defers := { target := .collected w.heap.size, args := #[] } :: a.defers } W) :
    (Code.rangeFunc g ps assign body).wpIn F n P Q a w :=
  range_ownN hro h1 hg hFg eg hseq hsub nZD nZL hps I Ix hI hIx h0 (fun x a' _ => a' = a₁ x) (fun _ _ _ _ h _ => h)
    (fun l pre x W K hi _ hK => hassign l x W K (hK _ _ (.refl _ _) hi rfl)) (fun l pre x rest a' W hx hlt hi ha => by subst ha; exact hbody l pre x rest W hx hlt hi) hdone hstop
theorem range_wpN {α : Type} {g : Operand} {ps : Array Tmp} {assign body : Code} {Q : Exit → Act → World → Prop} {a : Act} {w : World}
    {gf : Nat} {lb : Array Value} (hg : a.eval g = .func (.func gf) #[] lb) (eg : ∀ args w, (callFunc gf args).run P w = .ok (.enter gf args) w)
    {encs : α → Array Value} {Z Zs : Nat → Prop} {xs : List α} (hseq : GivesN Fence.wide 2 P gf lb encs Z Zs xs w) (hsub : ∀ k, Zs k → Z k) (nZD : ¬ Z w.heap.size) (nZL : ¬ Z (w.heap.size + 1)) (hps : ∀ x, (encs x).size = ps.size)
    (I : List α → World → Prop) (Ix : Code → List α → World → Prop)
    (hI : ∀ s A B, I s A → Sep (fun k => Zs k ∨ k = w.heap.size ∨ k = w.heap.size + 1) A B → I s B)
    (hIx : ∀ c s A B, Ix c s A → Sep (fun k => Zs k ∨ k = w.heap.size ∨ k = w.heap.size + 1) A B → Ix c s B)
    (h0 : I [] w) (a₁ : α → Act)
    (hassign : ∀ (l : Nat) (x : α) (W : World) (K : Act → World → Prop), K (a₁ x) W →
      assign.wpIn (Fence.wide.inRound l) 1 P (Exit.then K (fun _ _ _ => False)) { tmps := (ps.zip (encs x)).foldl (fun t (p, v) => t.setIfInBounds p v) a.tmps, defers := [] } W)
    (hbody : ∀ (l : Nat) (pre : List α) (x : α) (rest : List α) (W : World), xs = pre ++ x :: rest → w.heap.size + 1 < W.heap.size → I pre W →
      body.wpIn (Fence.wide.inRound l) 1 P (roundEnd (fun k => Z k ∨ k = w.heap.size ∨ k = w.heap.size + 1) I Ix (pre ++ [x]) W) (a₁ x) W)
    (hdone : ∀ (W : World), I xs W → W.heap[w.heap.size]? = some (.deferred (some [])) → Q .normal { a with defers := { target := .collected w.heap.size, args := #[] } :: a.defers } W)
    (hstop : ∀ (c : Code) (pre : List α) (W : World), pre <+: xs → Ix c pre W → W.heap[w.heap.size]? = some (.deferred (some [])) → c.wp P Q { a with defers := { target := .collected w.heap.size, args := #[] } :: a.defers } W) :
    (Code.rangeFunc g ps assign body).wp P Q a w :=
  (wpIn_wide (n := 3)).1 (range_own1N rfl (by omega) hg trivial eg hseq hsub nZD nZL hps I Ix hI hIx h0 a₁ hassign hbody hdone (fun c pre W h1 h2 h3 => wpIn_wide.2 (hstop c pre W h1 h2 h3)))
theorem range_own1 {α : Type} {g : Operand} {ps : Array Tmp} {assign body : Code} {Q : Exit → Act → World → Prop} {a : Act} {w : World}
    (hro : F.round = none) (h1 : 1 ≤ n) {gf : Nat} {lb : Array Value} (hg : a.eval g = .func (.func gf) #[] lb) (hFg : F.fn gf) (eg : ∀ args w, (callFunc gf args).run P w = .ok (.enter gf args) w)
    {encs : α → Array Value} {Z : Nat → Prop} {xs : List α} (hseq : Gives F (n - 1) P gf lb encs Z xs w) (hZ : ∀ k, Z k → k < w.heap.size) (hps : ∀ x, (encs x).size = ps.size)
    (I : List α → World → Prop) (Ix : Code → List α → World → Prop)
    (hI : ∀ s A B, I s A → Sep (fun k => Z k ∨ k = w.heap.size ∨ k = w.heap.size + 1) A B → I s B)
    (hIx : ∀ c s A B, Ix c s A → Sep (fun k => Z k ∨ k = w.heap.size ∨ k = w.heap.size + 1) A B → Ix c s B)
    (h0 : I [] w) (a₁ : α → Act)
    (hassign : ∀ (l : Nat) (x : α) (W : World) (K : Act → World → Prop), K (a₁ x) W →
      assign.wpIn (F.inRound l) (n - 1 - 1) P (Exit.then K (fun _ _ _ => False)) { tmps := (ps.zip (encs x)).foldl (fun t (p, v) => t.setIfInBounds p v) a.tmps, defers := [] } W)
    (hbody : ∀ (l : Nat) (pre : List α) (x : α) (rest : List α) (W : World), xs = pre ++ x :: rest → w.heap.size + 1 < W.heap.size → I pre W →
      body.wpIn (F.inRound l) (n - 1 - 1) P (roundEnd (fun k => Z k ∨ k = w.heap.size ∨ k = w.heap.size + 1) I Ix (pre ++ [x]) W) (a₁ x) W)
    (hdone : ∀ (W : World), I xs W → W.heap[w.heap.size]? = some (.deferred (some [])) → Q .normal { a with defers := { target := .collected w.heap.size, args := #[] } :: a.defers } W)
    (hstop : ∀ (c : Code) (pre : List α) (W : World), pre <+: xs → Ix c pre W → W.heap[w.heap.size]? = some (.deferred (some [])) → c.wpIn F n P Q { a with defers := { target := .collected w.heap.size, args := #[] } :: a.defers } W) :
    (Code.rangeFunc g ps assign body).wpIn F n P Q a w :=
  range_own hro h1 hg hFg eg hseq hZ hps I Ix hI hIx h0 (fun x a' _ => a' = a₁ x) (fun _ _ _ _ h _ => h)
    (fun l pre x W K hi _ hK => hassign l x W K (hK _ _ (.refl _ _) hi rfl)) (fun l pre x rest a' W hx hlt hi ha => by subst ha; exact hbody l pre x rest W hx hlt hi) hdone hstop
theorem range_wp {α : Type} {g : Operand} {ps : Array Tmp} {assign body : Code} {Q : Exit → Act → World → Prop} {a : Act} {w : World}
    {gf : Nat} {lb : Array Value} (hg : a.eval g = .func (.func gf) #[] lb) (eg : ∀ args w, (callFunc gf args).run P w = .ok (.enter gf args) w)
    {encs : α → Array Value} {Z : Nat → Prop} {xs : List α} (hseq : Gives Fence.wide 2 P gf lb encs Z xs w) (hZ : ∀ k, Z k → k < w.heap.size) (hps : ∀ x, (encs x).size = ps.size)
    (I : List α → World → Prop) (Ix : Code → List α → World → Prop)
    (hI : ∀ s A B, I s A → Sep (fun k => Z k ∨ k = w.heap.size ∨ k = w.heap.size + 1) A B → I s B)
    (hIx : ∀ c s A B, Ix c s A → Sep (fun k => Z k ∨ k = w.heap.size ∨ k = w.heap.size + 1) A B → Ix c s B)
    (h0 : I [] w) (a₁ : α → Act)
    (hassign : ∀ (l : Nat) (x : α) (W : World) (K : Act → World → Prop), K (a₁ x) W →
      assign.wpIn (Fence.wide.inRound l) 1 P (Exit.then K (fun _ _ _ => False)) { tmps := (ps.zip (encs x)).foldl (fun t (p, v) => t.setIfInBounds p v) a.tmps, defers := [] } W)
    (hbody : ∀ (l : Nat) (pre : List α) (x : α) (rest : List α) (W : World), xs = pre ++ x :: rest → w.heap.size + 1 < W.heap.size → I pre W →
      body.wpIn (Fence.wide.inRound l) 1 P (roundEnd (fun k => Z k ∨ k = w.heap.size ∨ k = w.heap.size + 1) I Ix (pre ++ [x]) W) (a₁ x) W)
    (hdone : ∀ (W : World), I xs W → W.heap[w.heap.size]? = some (.deferred (some [])) → Q .normal { a with defers := { target := .collected w.heap.size, args := #[] } :: a.defers } W)
    (hstop : ∀ (c : Code) (pre : List α) (W : World), pre <+: xs → Ix c pre W → W.heap[w.heap.size]? = some (.deferred (some [])) → c.wp P Q { a with defers := { target := .collected w.heap.size, args := #[] } :: a.defers } W) :
    (Code.rangeFunc g ps assign body).wp P Q a w :=
  (wpIn_wide (n := 3)).1 (range_own1 rfl (by omega) hg trivial eg hseq hZ hps I Ix hI hIx h0 a₁ hassign hbody hdone (fun c pre W h1 h2 h3 => wpIn_wide.2 (hstop c pre W h1 h2 h3)))
theorem calls_of_marks {f : FuncId} {fn : Func} {c : Code} {args : Array Value} {w : World} {R : Ending → World → Prop} (hf : P.funcs[f]? = some fn) (hb : fn.body = some c)
    (h : c.wp P (bodyPostM Fence.wide 3 P fn R) { tmps := args ++ Array.replicate (fn.ntmps - args.size) undef, defers := [] } w) : Calls P f args w R :=
  (callsIn_wide (n := 3)).1 (callsIn_of_wp_marks hf hb trivial (wpIn_wide.2 h) rfl)
theorem ret_mark {fn : Func} {tmps : Array Value} {R : Ending → World → Prop} {D : Nat} {w : World} {v : Value} (hK : w.heap[D]? = some (.deferred (some [])))
    (hres : (results fn tmps).run P (w.putObj D (.deferred none)) = .ok v (w.putObj D (.deferred none))) (hR : R (.returned v) (w.putObj D (.deferred none))) :
    bodyPostM F n P fn R .ret { tmps := tmps, defers := [{ target := .collected D, args := #[] }] } w :=
  ⟨by simp, .inl ⟨D, _, rfl, run_takeDeferred hK, _, hres, hR⟩⟩
theorem Below.putObj {m : Nat} {a w : World} {D : Nat} (h : Below m a w) (hD : m ≤ D) (o : Obj) : Below m a (w.putObj D o) :=
  h.trans ⟨rfl, rfl, rfl, by simp, fun k hk => World.putObj_heap_other (by omega)⟩
end Go.Proofs.YtkjkepnailamnaaGreat
namespace Go.Proofs.YtkjkepnailamnaaGreat
open Go.RowKit Go.Shelf
theorem boxed_sep {Z : Nat → Prop} {A B : World} {b : Nat} {t : TypeId} {v : Value} (h : Boxed A b t v) (hs : Sep Z A B) (hz : ¬ Z b) : Boxed B b t v := (hs.block b h.lt hz).trans h
theorem ownsRow_sep {Z : Nat → Prop} {A B : World} {base : Nat} {e : TypeId} {size : Nat} {v : Value} {n : Nat} {xs : List Value} (h : A.ownsRow base e size v n xs) (hs : Sep Z A B) (hz : ∀ k, base ≤ k → ¬ Z k) : B.ownsRow base e size v n xs := by
  obtain ⟨h1, h2⟩ := h
  refine ⟨h1, ?_⟩
  rcases h2 with h2 | ⟨g, cap, cur, rfl, hb, hg, r⟩
  · exact .inl h2
  · exact .inr ⟨g, cap, cur, rfl, hb, (hs.block g (Array.getElem?_eq_some_iff.1 hg).1 (hz g hb)).trans hg, r⟩
theorem ownsRow_base {A : World} {base base' : Nat} {e : TypeId} {size : Nat} {v : Value} {n : Nat} {xs : List Value} (h : A.ownsRow base e size v n xs) (hb : base' ≤ base) : A.ownsRow base' e size v n xs := by
  obtain ⟨h1, h2⟩ := h
  refine ⟨h1, ?_⟩
  rcases h2 with h2 | ⟨g, cap, cur, rfl, hg, r⟩
  · exact .inl h2
  · exact .inr ⟨g, cap, cur, rfl, Nat.le_trans hb hg, r⟩
theorem pushed {W w1 : World} {base B : Nat} {t e : TypeId} {size : Nat} {v v' : Value} {k m : Nat} {xs ys : List Value} {tmp : Obj}
    (hv : Boxed W B t v) (hte : t ≠ e) (hrow : W.ownsRow base e size v k xs) (hown' : w1.ownsRow base e size v' m ys) (hgrow : (W.alloc tmp).grownBy w1 v.ownBlock) :
    Boxed w1 B t v ∧ Boxed (w1.setCell ⟨B, 0, none⟩ v') B t v' ∧ (w1.setCell ⟨B, 0, none⟩ v').ownsRow base e size v' m ys ∧
    (∀ Z : Nat → Prop, ¬ Z B → (∀ k, base ≤ k → ¬ Z k) → Hold Z W (w1.setCell ⟨B, 0, none⟩ v')) ∧
    (∀ m, m ≤ B → m ≤ base → m ≤ W.heap.size → Below m W (w1.setCell ⟨B, 0, none⟩ v')) := by
  have hb : ∀ j, v.ownBlock = some j → base ≤ j := fun j ej => (hrow.lt j ej).1
  have hv1 : Boxed w1 B t v := (hv.alloc tmp).kept hgrow (hv.not_row hte hrow)
  refine ⟨hv1, hv1.set v', hown'.kept (grownBy_setCell' w1 B v') (.inr (hv1.not_row hte hown').symm), fun Z hz hzb => ?_, fun m h1 h2 h3 => ?_⟩
  · exact ((Hold.alloc Z W tmp).trans (.grown hgrow fun j ej => hzb j (hb j ej))).trans (.setCell _ hz _)
  · exact (((Below.refl m W).alloc h3 tmp).grown hgrow (by simp; omega) fun j ej => Nat.le_trans h2 (hb j ej)).setCell (p := ⟨B, 0, none⟩) h1 v'
def SlK (q : IntKind) (w : World) (a : Option Addr) (len : Nat) (zs : List Int) : Prop :=
  zs.length = len ∧ (len = 0 ∨ ∃ blk off, a = some ⟨blk, off, none⟩ ∧ ∀ i, i < len → w.cell? ⟨blk, off + i, none⟩ = some (.int q (zs.getD i 0)))
theorem SlK.below {q : IntKind} {w w' : World} {a : Option Addr} {n : Nat} {zs : List Int} (h : SlK q w a n zs) (hb : Below w.heap.size w w') : SlK q w' a n zs := by
  obtain ⟨h1, h2⟩ := h
  refine ⟨h1, ?_⟩
  rcases h2 with h2 | ⟨blk, off, ha, hc⟩
  · exact .inl h2
  · exact .inr ⟨blk, off, ha, fun i hi => cell_later hb (hc i hi)⟩
def OwnK (q : IntKind) (base : Nat) (w : World) (ad : Option Addr) (zs : List Int) : Prop :=
  zs = [] ∨ ∃ g, ad = some ⟨g, 0, none⟩ ∧ base ≤ g ∧ g < w.heap.size ∧ (∀ i, i < zs.length → w.cell? ⟨g, i, none⟩ = some (.int q (zs.getD i 0))) ∧ (∀ i, w.frozen? ⟨g, i, none⟩ = false)
theorem OwnK.sl {q : IntKind} {base : Nat} {w : World} {ad : Option Addr} {zs : List Int} (h : OwnK q base w ad zs) : SlK q w ad zs.length zs := by
  refine ⟨rfl, ?_⟩
  rcases h with rfl | ⟨g, h1, _, _, h2, _⟩
  · exact .inl rfl
  · exact .inr ⟨g, 0, h1, fun i hi => by simpa using h2 i hi⟩
theorem OwnK.mono {q : IntKind} {base base' : Nat} {w : World} {ad : Option Addr} {zs : List Int} (h : OwnK q base w ad zs) (hb : base' ≤ base) : OwnK q base' w ad zs := by
  rcases h with h | ⟨g, h1, h2, h3⟩
  · exact .inl h
  · exact .inr ⟨g, h1, Nat.le_trans hb h2, h3⟩
theorem OwnK.later {q : IntKind} {base : Nat} {w w' : World} {ad : Option Addr} {zs : List Int} (h : OwnK q base w ad zs) (hb : Below w.heap.size w w') : OwnK q base w' ad zs := by
  rcases h with rfl | ⟨g, h1, h2, h3, h4, h5⟩
  · exact .inl rfl
  · exact .inr ⟨g, h1, h2, by have := hb.size; omega, fun i hi => cell_later hb (h4 i hi), fun i => by rw [hb.frozen (p := ⟨g, i, none⟩) h3]; exact h5 i⟩
theorem ownK_row {q : IntKind} {base : Nat} {w : World} {e : TypeId} {v : Value} {n : Nat} {zs : List Int} (hn : zs.length = n) (h : w.ownsRow base e 1 v n (zs.map (Value.int q))) :
    ∃ ad cap, v = .slice ad n cap ∧ OwnK q base w ad zs ∧ n ≤ cap := by
  have H := h
  obtain ⟨h1, h2⟩ := h
  rcases h2 with ⟨rfl, rfl⟩ | ⟨g, cap, cur, rfl, hb, hg, hle, hm, hsz, htk⟩
  · exact ⟨none, 0, rfl, .inl (by cases zs with | nil => rfl | cons => simp at hn), Nat.le_refl _⟩
  · refine ⟨_, cap, rfl, .inr ⟨g, rfl, hb, (H.lt g rfl).2, fun i hi => ?_, fun i => H.frozenAt i⟩, hle⟩
    rw [H.cellAt i (by omega), List.getElem?_map, List.getElem?_eq_getElem hi, List.getD_eq_getElem?_getD, List.getElem?_eq_getElem hi]; rfl
theorem ownsRow_cap {w : World} {base : Nat} {e : TypeId} {size : Nat} {g n cap : Nat} {xs : List Value} (h : w.ownsRow base e size (.slice (some ⟨g, 0, none⟩) n cap) n xs) : n ≤ cap := by
  rcases h.2 with ⟨e, _⟩ | ⟨_, _, _, e, _, _, hle, _⟩
  · cases e
  · cases e; exact hle
end Go.Proofs.YtkjkepnailamnaaGreat
namespace Go.Proofs.YtkjkepnailamnaaGreat
open Go.RowKit
set_option linter.unusedVariables false
theorem wfI {n : Int} (h : (Lit.int .i64 n).wf = true) : -9223372036854775808 ≤ n ∧ n ≤ 9223372036854775807 := by
  simp [Lit.wf, IntKind.min, IntKind.max, IntKind.bits, IntKind.signed] at h; omega
theorem wfB {n : Int} (h : (Lit.int .u8 n).wf = true) : 0 ≤ n ∧ n ≤ 255 := by
  simp [Lit.wf, IntKind.min, IntKind.max, IntKind.bits, IntKind.signed] at h; omega
theorem bel_step {w a b : World} (h : Below w.heap.size w a) (k : Below a.heap.size a b) : Below w.heap.size w b := h.trans (k.mono h.size)
def IsRow (k : IntKind) (w : World) (a : Option Addr) (len cap : Nat) (zs : List Int) : Prop :=
  (a = none ∧ len = 0 ∧ cap = 0 ∧ zs = []) ∨
  ∃ x, a = some x ∧ len ≤ cap ∧ cap ≤ maxLen ∧ zs.length = cap ∧ (∀ i, i < zs.length → w.cell? (x.add i) = some (.int k (zs.getD i 0))) ∧ ∀ n ∈ zs, (Lit.int k n).wf = true
theorem isrow_len {k : IntKind} {w : World} {a : Option Addr} {len cap : Nat} {zs : List Int} (h : IsRow k w a len cap zs) : len ≤ 9223372036854775807 ∧ len ≤ zs.length ∧ len ≤ cap ∧ cap ≤ 9223372036854775807 := by
  rcases h with ⟨_, rfl, rfl, rfl⟩ | ⟨x, _, h1, h2, h3, _⟩
  · simp
  · unfold maxLen at h2; omega
theorem addrK_add (b off j : Nat) : (⟨b, off, none⟩ : Addr).add j = ⟨b, off + j, none⟩ := by cases j <;> simp [Addr.add]
theorem isrow_takeK {k : IntKind} {w : World} {a : Option Addr} {len cap : Nat} {zs : List Int} (h : IsRow k w a len cap zs) (n : Nat) (hn : n ≤ len) : SlK k w a n (zs.take n) := by
  have hl := isrow_len h
  refine ⟨by rw [List.length_take]; omega, ?_⟩
  rcases h with ⟨_, rfl, _, _⟩ | ⟨⟨b, o, sp⟩, rfl, h1, h2, h3, h4, _⟩
  · exact .inl (by omega)
  · by_cases h0 : n = 0
    · exact .inl h0
    · have hc := h4 0 (by omega)
      have hsp : sp = none := by simpa [Addr.add] using World.cell?_spot hc
      subst hsp
      refine .inr ⟨b, o, rfl, fun i hi => ?_⟩
      rw [← addrK_add, h4 i (by omega)]
      simp [List.getD_eq_getElem?_getD, List.getElem?_take_of_lt hi]
theorem isrow_wfK {k : IntKind} {w : World} {a : Option Addr} {len cap : Nat} {zs : List Int} (h : IsRow k w a len cap zs) : ∀ n ∈ zs, (Lit.int k n).wf = true := by
  rcases h with ⟨_, _, _, rfl⟩ | ⟨x, _, _, _, _, _, h5⟩
  · intro n hn; cases hn
  · exact h5
end Go.Proofs.YtkjkepnailamnaaGreat
namespace Go.Proofs.YtkjkepnailamnaaGreat
open Go.RowKit
set_option linter.unusedVariables false
namespace Ar
def around (n most : Int) : Int := (if n < 0 then -(n + 1) else n) % most
theorem around_lt (n most : Int) (h : 0 < most) : 0 ≤ around n most ∧ around n most < most := by
  unfold around; exact ⟨Int.emod_nonneg _ (by omega), Int.emod_lt_of_pos _ h⟩
theorem ret_i {k : IntKind} {a b : Int} (h : a = b) : Ending.returned (.int k a) = .returned (.int k b) := by rw [h]
end Ar
theorem aroundOf (n m : Int) (h1 : -9223372036854775808 ≤ n) (h2 : n ≤ 9223372036854775807) (hm : 0 < m) (hm' : m ≤ 9223372036854775807) (w : World) :
    Calls Tryz.prog 15 #[.int .i64 n, .int .i64 m] w fun e w' => e = .returned (.int .i64 (Ar.around n m)) ∧ w = w' := by
  have hz : (m == 0) = false := by simp; omega
  by_cases h : n < 0
  · have X := Lib.hid (show -((n + 1).tmod m) = Ar.around n m by unfold Ar.around; rw [if_pos h, ← Int.neg_tmod, Int.tmod_eq_emod_of_nonneg (by omega)])
    have e1 : 0 ≤ -(n + 1) := by omega
    go_enter Tryz.func15, Tryz.ntmps15
    go_wp2
    go_ret
    exact ⟨Ar.ret_i X.out, rfl⟩
  · have X := Lib.hid (show n % m = Ar.around n m by unfold Ar.around; rw [if_neg h])
    go_enter Tryz.func15, Tryz.ntmps15
    go_wp2
    go_ret
    exact ⟨Ar.ret_i X.out, rfl⟩
end Go.Proofs.YtkjkepnailamnaaGreat
namespace Go.Proofs.YtkjkepnailamnaaGreat
set_option linter.unusedVariables false
namespace Rc
open Go (splice)
def rowsOf (f : Nat → List Int) (n : Nat) : List Int := (List.range n).flatMap f
def sized (w h : Int) : Bool := decide (1 ≤ w) && (decide (w ≤ 4096) && (decide (1 ≤ h) && (decide (h ≤ 65536) && decide (w * h ≤ 16777216))))
def mayV (w h : Int) (n : Nat) : Bool := sized w h && decide ((n : Int) = w * h)
def insV (x n all : Int) : Bool := decide (0 ≤ x) && (decide (1 ≤ n) && (decide (n ≤ all) && decide (x ≤ all - n)))
theorem sized_iff {w h : Int} : sized w h = true ↔ 1 ≤ w ∧ w ≤ 4096 ∧ 1 ≤ h ∧ h ≤ 65536 ∧ w * h ≤ 16777216 := by simp [sized]
theorem mayV_iff {w h : Int} {n : Nat} : mayV w h n = true ↔ (1 ≤ w ∧ w ≤ 4096 ∧ 1 ≤ h ∧ h ≤ 65536 ∧ w * h ≤ 16777216) ∧ (n : Int) = w * h := by simp [mayV, sized_iff]
theorem insV_iff {x n all : Int} : insV x n all = true ↔ 0 ≤ x ∧ 1 ≤ n ∧ n ≤ all ∧ x ≤ all - n := by simp [insV]
def cutL (L : List Int) (W x y n : Int) : List Int := (L.drop (y.toNat * W.toNat + x.toNat)).take n.toNat
def subL (L : List Int) (W x y w h : Int) : List Int := rowsOf (fun k => cutL L W x (y + k) w) h.toNat
def subV (W H : Int) (L : List Int) (x y w h : Int) : Int × Int × List Int × Bool := if (insV x w W && insV y h H) = true then (w, h, subL L W x y w h, true) else (0, 0, [], false)
def Ok (W H : Int) (L : List Int) : Prop := 1 ≤ W ∧ W ≤ 4096 ∧ 1 ≤ H ∧ H ≤ 65536 ∧ W * H ≤ 16777216 ∧ L.length = H.toNat * W.toNat
end Rc
end Go.Proofs.YtkjkepnailamnaaGreat
namespace Go.Proofs.YtkjkepnailamnaaGreat
open Go.RowKit
set_option linter.unusedVariables false
def I64 (n : Int) : Prop := -9223372036854775808 ≤ n ∧ n ≤ 9223372036854775807
theorem ret_bR {a b : Bool} (h : a = b) : Ending.returned (.bool a) = .returned (.bool b) := by rw [h]
set_option maxHeartbeats 1000000 in
theorem mayMeasure_any (a b : Int) (w : World) :
    Calls Tryz.prog 148 #[.int .i64 a, .int .i64 b] w fun e w' => e = .returned (.bool (Rc.sized a b)) ∧ w = w' := by
  by_cases h1 : 1 ≤ a <;> by_cases h2 : a ≤ 4096 <;> by_cases h3 : 1 ≤ b <;> by_cases h4 : b ≤ 65536
  all_goals first
    | (
      have X := Lib.hid (show Rc.sized a b = false by simp [Rc.sized, h1, h2, h3, h4])
      go_enter Tryz.func148, Tryz.ntmps148
      go_wp2
      go_ret
      exact ⟨ret_bR X.out.symm, rfl⟩)
    | (
      have hm : wrap64 (a * b) = a * b := by
        have q1 : 0 ≤ a * b := Int.mul_nonneg (by omega) (by omega)
        have q2 : a * b ≤ 4096 * 65536 := Int.mul_le_mul h2 h4 (by omega) (by omega)
        rw [IntWalk.wrap64_in] <;> omega
      have X := Lib.hid (show decide (a * b ≤ 16777216) = Rc.sized a b by simp [Rc.sized, h1, h2, h3, h4])
      go_enter Tryz.func148, Tryz.ntmps148
      go_wp2
      go_ret
      exact ⟨ret_bR X.out, rfl⟩)
set_option maxHeartbeats 1000000 in
theorem refSized_any (a b : Int) (w : World) :
    Calls Tryz.prog 150 #[.int .i64 a, .int .i64 b] w fun e w' => e = .returned (.bool (Rc.sized a b)) ∧ w = w' := by
  by_cases h1 : a < 1 <;> by_cases h2 : 4096 < a <;> by_cases h3 : b < 1 <;> by_cases h4 : 65536 < b
  all_goals first
    | (
      have X := Lib.hid (show Rc.sized a b = false by cases e : Rc.sized a b; rfl; rw [Rc.sized_iff] at e; omega)
      go_enter Tryz.func150, Tryz.ntmps150
      go_wp2
      go_ret
      exact ⟨ret_bR X.out.symm, rfl⟩)
    | (
      have hm : wrap64 (a * b) = a * b := by
        have q1 : 0 ≤ a * b := Int.mul_nonneg (by omega) (by omega)
        have q2 : a * b ≤ 4096 * 65536 := Int.mul_le_mul (by omega) (by omega) (by omega) (by omega)
        rw [IntWalk.wrap64_in] <;> omega
      have X := Lib.hid (show decide (a * b ≤ 16777216) = Rc.sized a b by simp [Rc.sized, Int.not_lt.1 h1, Int.not_lt.1 h2, Int.not_lt.1 h3, Int.not_lt.1 h4])
      go_enter Tryz.func150, Tryz.ntmps150
      go_wp2
      go_ret
      exact ⟨ret_bR X.out, rfl⟩)
end Go.Proofs.YtkjkepnailamnaaGreat
namespace Go.Proofs.YtkjkepnailamnaaGreat
open Go.RowKit
set_option linter.unusedVariables false
theorem box1 (w : World) (o : Obj) : Below w.heap.size w (w.alloc o) := (Below.refl w.heap.size w).alloc (Nat.le_refl _) o
theorem box2 (w : World) (o p : Obj) : Below w.heap.size w ((w.alloc o).alloc p) := (box1 w o).alloc (by simp) p
def Mb (w : World) (b : Nat) (W H : Int) (a : Option Addr) (n c : Nat) : Prop :=
  w.cell? ⟨b, 0, none⟩ = some (.int .i64 W) ∧ w.cell? ⟨b, 1, none⟩ = some (.int .i64 H) ∧ w.cell? ⟨b, 2, none⟩ = some (.slice a n c)
theorem Mb.later {w w' : World} {b : Nat} {W H : Int} {a : Option Addr} {n c : Nat} (h : Mb w b W H a n c) (hb : Below w.heap.size w w') : Mb w' b W H a n c :=
  ⟨cell_later hb h.1, cell_later hb h.2.1, cell_later hb h.2.2⟩
def Pb (w : World) (b : Nat) (x y : Int) : Prop := w.cell? ⟨b, 0, none⟩ = some (.int .i64 x) ∧ w.cell? ⟨b, 1, none⟩ = some (.int .i64 y)
theorem Pb.later {w w' : World} {b : Nat} {x y : Int} (h : Pb w b x y) (hb : Below w.heap.size w w') : Pb w' b x y := ⟨cell_later hb h.1, cell_later hb h.2⟩
set_option maxHeartbeats 1000000 in
theorem may_any (W H : Int) (a : Option Addr) (n c : Nat) (hn : n ≤ 9223372036854775807) (w : World) :
    Calls Tryz.prog 112 #[.agg #[.int .i64 W, .int .i64 H, .slice a n c]] w fun e w' => e = .returned (.bool (Rc.mayV W H n)) ∧ Below w.heap.size w w' := by
  have B := box1 w (.cells #[.int .i64 W, .int .i64 H, .slice a n c] 44)
  cases h : Rc.sized W H
  · have X := Lib.hid (show Rc.mayV W H n = false by simp [Rc.mayV, h])
    go_enter Tryz.func112, Tryz.ntmps112
    go_wp2_with (go_at_call 148; refine (mayMeasure_any W H _).mono ?_; rw [h]; rintro e w1 ⟨rfl, rfl⟩)
    go_ret
    exact ⟨ret_bR X.out.symm, B⟩
  · have X := Lib.hid (show ((n : Int) == W * H) = Rc.mayV W H n by simp [Rc.mayV, h]; rfl)
    have hm : wrap64 (W * H) = W * H := by
      obtain ⟨h1, h2, h3, h4, h5⟩ := Rc.sized_iff.1 h
      have q1 : 0 ≤ W * H := Int.mul_nonneg (by omega) (by omega)
      rw [IntWalk.wrap64_in] <;> omega
    go_enter Tryz.func112, Tryz.ntmps112
    go_wp2_with (go_at_call 148; refine (mayMeasure_any W H _).mono ?_; rw [h]; rintro e w1 ⟨rfl, rfl⟩)
    go_ret
    exact ⟨ret_bR X.out, B⟩
set_option maxHeartbeats 1000000 in
theorem refMayM_any (W H : Int) (a : Option Addr) (n c : Nat) (hn : n ≤ 9223372036854775807) (w : World) :
    Calls Tryz.prog 114 #[.agg #[.int .i64 W, .int .i64 H, .slice a n c]] w fun e w' => e = .returned (.bool (Rc.mayV W H n)) ∧ Below w.heap.size w w' := by
  have B := box1 w (.cells #[.int .i64 W, .int .i64 H, .slice a n c] 32)
  cases h : Rc.sized W H
  · have X := Lib.hid (show Rc.mayV W H n = false by simp [Rc.mayV, h])
    go_enter Tryz.func114, Tryz.ntmps114
    go_wp2_with (go_at_call 150; refine (refSized_any W H _).mono ?_; rw [h]; rintro e w1 ⟨rfl, rfl⟩)
    go_ret
    exact ⟨ret_bR X.out.symm, B⟩
  · have X := Lib.hid (show ((n : Int) == W * H) = Rc.mayV W H n by simp [Rc.mayV, h]; rfl)
    have hm : wrap64 (W * H) = W * H := by
      obtain ⟨h1, h2, h3, h4, h5⟩ := Rc.sized_iff.1 h
      have q1 : 0 ≤ W * H := Int.mul_nonneg (by omega) (by omega)
      rw [IntWalk.wrap64_in] <;> omega
    go_enter Tryz.func114, Tryz.ntmps114
    go_wp2_with (go_at_call 150; refine (refSized_any W H _).mono ?_; rw [h]; rintro e w1 ⟨rfl, rfl⟩)
    go_ret
    exact ⟨ret_bR X.out, B⟩
end Go.Proofs.YtkjkepnailamnaaGreat
namespace Go.Proofs.YtkjkepnailamnaaGreat
open Go.RowKit
set_option linter.unusedVariables false
theorem slk_pos {k : IntKind} {w : World} {a : Option Addr} {n : Nat} {zs : List Int} (h : SlK k w a n zs) (hn : 0 < n) : ∃ b off, a = some ⟨b, off, none⟩ ∧ ∀ i, i < n → w.cell? ⟨b, off + i, none⟩ = some (.int k (zs.getD i 0)) := by
  rcases h.2 with h | ⟨b, off, rfl, hc⟩
  · omega
  · exact ⟨b, off, rfl, hc⟩
theorem place {W H x y n : Int} {L : List Int} (h : Rc.Ok W H L) (hx : Rc.insV x n W = true) (hy : Rc.insV y 1 H = true) :
    y * W + x = ((y.toNat * W.toNat + x.toNat : Nat) : Int) ∧ y * W = ((y.toNat * W.toNat : Nat) : Int) ∧ y.toNat * W.toNat + x.toNat + n.toNat ≤ L.length ∧ y.toNat * W.toNat + W.toNat ≤ L.length := by
  obtain ⟨h1, h2, h3, h4, h5, h6⟩ := h
  obtain ⟨a1, a2, a3, a4⟩ := Rc.insV_iff.1 hx
  obtain ⟨b1, b2, b3, b4⟩ := Rc.insV_iff.1 hy
  have e : y * W = ((y.toNat * W.toNat : Nat) : Int) := by rw [Int.natCast_mul, Int.toNat_of_nonneg (by omega), Int.toNat_of_nonneg (by omega)]
  have k : (y.toNat + 1) * W.toNat ≤ H.toNat * W.toNat := Nat.mul_le_mul_right _ (by omega)
  rw [Nat.succ_mul] at k
  exact ⟨by rw [Int.natCast_add, ← e]; omega, e, by omega, by omega⟩
end Go.Proofs.YtkjkepnailamnaaGreat
namespace Go.Proofs.YtkjkepnailamnaaGreat
open Go.RowKit
set_option linter.unusedVariables false
def Alike (x y : List Int) (k : Nat) : Prop := ∀ i, i < k → x.getD i 0 = y.getD i 0
theorem alike_all {x y : List Int} {n : Nat} (hx : x.length = n) (hy : y.length = n) (h : Alike x y n) : x = y := by
  refine List.ext_getElem (by rw [hx, hy]) fun i h1 h2 => ?_
  have := h i (by omega)
  rw [List.getD_eq_getElem?_getD, List.getD_eq_getElem?_getD, List.getElem?_eq_getElem h1, List.getElem?_eq_getElem h2] at this
  simpa using this
theorem alike_succ {x y : List Int} {k : Nat} (h : Alike x y k) (e : x.getD k 0 = y.getD k 0) : Alike x y (k + 1) := fun i hi => by
  rcases Nat.lt_or_ge i k with h1 | h1
  · exact h i h1
  · obtain rfl : i = k := by omega
    exact e
set_option maxHeartbeats 1000000 in
theorem sameRow_any (a b : Option Addr) (n m ca cb : Nat) (x y : List Int) (w : World) (hn : n ≤ 9223372036854775807) (ha : SlK .u64 w a n x) (hb : SlK .u64 w b m y) :
    Calls Tryz.prog 85 #[.slice a n ca, .slice b m cb] w fun e w' => e = .returned (.bool (decide (x = y))) ∧ Below w.heap.size w w' := by
  by_cases h : n = m
  · subst h
    obtain ⟨lx, ha⟩ := ha
    obtain ⟨ly, hb⟩ := hb
    have LX := Lib.hid lx; clear lx
    have LY := Lib.hid ly; clear ly
    by_cases h0 : n = 0
    · subst h0
      have X := Lib.hid (show decide (x = y) = true by rw [decide_eq_true_iff, List.eq_nil_of_length_eq_zero LX.out, List.eq_nil_of_length_eq_zero LY.out])
      clear ha hb
      go_enter Tryz.func85, Tryz.ntmps85
      go_wp2
      go_rounds 1
      go_ret
      exact ⟨ret_bR X.out.symm, Below.refl _ _⟩
    · rcases ha with ha | ⟨ba, oa, rfl, ha⟩
      · omega
      rcases hb with hb | ⟨bb, ob, rfl, hb⟩
      · omega
      have HA := Lib.hid ha; clear ha
      have HB := Lib.hid hb; clear hb
      go_enter Tryz.func85, Tryz.ntmps85
      go_wp2
      go_loopw [5] (fun i wr => ∃ k q : Nat, k ≤ n ∧ i = .int .i64 k ∧ Alike x y k ∧ wr = w.drewN q) (fun i _ => n - (intOf i).toNat)
      case atStart => exact ⟨0, 0, Nat.zero_le _, rfl, (fun i hi => by omega), rfl⟩
      case round =>
        obtain ⟨k, q, hk, rfl, hal, rfl⟩ := hrel
        by_cases hlt : k < n
        · have hx := HA.out k hlt
          have hy := HB.out k hlt
          obtain ⟨u, hu⟩ : ∃ u, x.getD k 0 = u := ⟨_, rfl⟩
          obtain ⟨v, hv⟩ : ∃ v, y.getD k 0 = v := ⟨_, rfl⟩
          rw [hu] at hx; rw [hv] at hy
          have HU := Lib.hid hu; clear hu
          have HV := Lib.hid hv; clear hv
          have i0 : (0 : Int) ≤ (k : Int) := Int.natCast_nonneg _
          have i1 : (k : Int) < (n : Int) := by omega
          by_cases huv : u = v
          · subst huv
            go_wp2_with (go_quiet (fail))
            go_roundw
            case rel => exact ⟨k + 1, _, by omega, by go_num, alike_succ hal (by rw [HU.out, HV.out]), rfl⟩
            case measure => simp [intOf]; omega
          · have kk : (u != v) = true := by rw [bne_iff_ne]; exact huv
            have X := Lib.hid (show decide (x = y) = false by rw [decide_eq_false_iff_not]; intro e; apply huv; rw [← HU.out, ← HV.out, e])
            go_wp2_with (go_quiet (fail))
            go_ret
            exact ⟨ret_bR X.out.symm, below_drewN (below_drewN (Below.refl _ _) _) _⟩
        · obtain rfl : k = n := by omega
          have X := Lib.hid (show decide (x = y) = true by rw [decide_eq_true_iff]; exact alike_all LX.out LY.out hal)
          go_wp2
          go_ret
          exact ⟨ret_bR X.out.symm, below_drewN (Below.refl _ _) _⟩
  · have X := Lib.hid (show decide (x = y) = false by rw [decide_eq_false_iff_not]; intro e; apply h; rw [← ha.1, ← hb.1, e])
    have k : ((n : Int) != m) = true := by simp; omega
    go_enter Tryz.func85, Tryz.ntmps85
    go_wp2
    go_ret
    exact ⟨ret_bR X.out.symm, Below.refl _ _⟩
set_option maxHeartbeats 1000000 in
theorem refSame_any (W H W2 H2 : Int) (a a2 : Option Addr) (n m c c2 : Nat) (L M : List Int) (w : World) (hn : n ≤ 9223372036854775807) (ha : SlK .u64 w a n L) (hb : SlK .u64 w a2 m M) :
    Calls Tryz.prog 65 #[.agg #[.int .i64 W, .int .i64 H, .slice a n c], .agg #[.int .i64 W2, .int .i64 H2, .slice a2 m c2]] w fun e w' => e = .returned (.bool (decide (W = W2) && (decide (H = H2) && decide (L = M)))) ∧ Below w.heap.size w w' := by
  have B := (box2 w (.cells #[.int .i64 W, .int .i64 H, .slice a n c] 32) (.cells #[.int .i64 W2, .int .i64 H2, .slice a2 m c2] 32))
  have HA := Lib.hid (ha.below B)
  have HB := Lib.hid (hb.below B)
  clear ha hb
  by_cases h1 : W = W2
  · by_cases h2 : H = H2
    · have X := Lib.hid (show (decide (W = W2) && (decide (H = H2) && decide (L = M))) = decide (L = M) by simp [h1, h2])
      subst h1 h2
      go_enter Tryz.func65, Tryz.ntmps65
      go_wp2_with (go_at_call 85; refine (sameRow_any a a2 n m c c2 L M _ hn HA.out HB.out).mono ?_; rintro e w1 ⟨rfl, hb⟩; replace B := bel_step B hb)
      go_ret
      exact ⟨ret_bR X.out.symm, B⟩
    · have X := Lib.hid (show (decide (W = W2) && (decide (H = H2) && decide (L = M))) = false by simp [h2])
      have k : (H == H2) = false := by simpa using h2
      have k1 : (W == W2) = true := by simpa using h1
      clear h1
      go_enter Tryz.func65, Tryz.ntmps65
      go_wp2
      go_ret
      exact ⟨ret_bR X.out.symm, B⟩
  · have X := Lib.hid (show (decide (W = W2) && (decide (H = H2) && decide (L = M))) = false by simp [h1])
    have k : (W == W2) = false := by simpa using h1
    go_enter Tryz.func65, Tryz.ntmps65
    go_wp2
    go_ret
    exact ⟨ret_bR X.out.symm, B⟩
end Go.Proofs.YtkjkepnailamnaaGreat
namespace Go.Proofs.YtkjkepnailamnaaGreat
open Go.RowKit
set_option linter.unusedVariables false
def OwnG (base : Nat) (w : World) (g : Nat) (L : List Int) : Prop := base ≤ g ∧ w.heap[g]? = some (.cells (L.map (Value.int .u64)).toArray 55 (0, 0))
theorem OwnG.lt {base g : Nat} {w : World} {L : List Int} (h : OwnG base w g L) : g < w.heap.size := (Array.getElem?_eq_some_iff.1 h.2).1
theorem OwnG.later {base g : Nat} {w w' : World} {L : List Int} (h : OwnG base w g L) (hb : Below w.heap.size w w') : OwnG base w' g L := ⟨h.1, (hb.block g h.lt).trans h.2⟩
theorem OwnG.mono {base base' g : Nat} {w : World} {L : List Int} (h : OwnG base w g L) (hb : base' ≤ base) : OwnG base' w g L := ⟨Nat.le_trans hb h.1, h.2⟩
theorem OwnG.cell {base g : Nat} {w : World} {L : List Int} (h : OwnG base w g L) {i : Nat} (hi : i < L.length) : w.cell? ⟨g, i, none⟩ = some (.int .u64 (L.getD i 0)) := by
  simp [World.cell?, h.2, List.getD_eq_getElem?_getD, List.getElem?_eq_getElem hi]
theorem OwnG.sl {base g : Nat} {w : World} {L : List Int} (h : OwnG base w g L) : SlK .u64 w (some ⟨g, 0, none⟩) L.length L := by
  refine ⟨rfl, .inr ⟨g, 0, rfl, fun i hi => ?_⟩⟩
  rw [Nat.zero_add]; exact h.cell hi
theorem OwnG.own {base g : Nat} {w : World} {L : List Int} (h : OwnG base w g L) : OwnK .u64 base w (some ⟨g, 0, none⟩) L :=
  .inr ⟨g, rfl, h.1, h.lt, fun i hi => h.cell hi, fun i => by simp [World.frozen?, h.2]⟩
theorem heapNew (w : World) (o : Obj) : (w.alloc o).heap[w.heap.size]? = some o := World.alloc_heap_new w o
theorem heapOld (w : World) (o : Obj) {g : Nat} {x : Obj} (h : w.heap[g]? = some x) : (w.alloc o).heap[g]? = some x := by
  rw [Below.heap_alloc w o g (Array.getElem?_eq_some_iff.1 h).1]; exact h
theorem heapSet (w : World) (a : Addr) (v : Value) {g : Nat} {x : Obj} (h : w.heap[g]? = some x) (hne : g ≠ a.block) : (w.setCell a v).heap[g]? = some x := by
  rw [Below.heap_setCell w a v g hne]; exact h
theorem Tryz.info_px : (Tryz.prog.info? 55).map (fun i => (i.zero, i.size, i.bytes)) = some (some (.int .u64 0), 1, 8) := by kernel_rfl
theorem made_noughts (n : Nat) : madeCells #[Value.int .u64 0] n = ((List.replicate n (0 : Int)).map (Value.int .u64)).toArray := by
  apply Array.ext
  · simp [madeCells]
  · intro i h1 h2
    simp [madeCells, Nat.mod_one]
end Go.Proofs.YtkjkepnailamnaaGreat
namespace Go.Proofs.YtkjkepnailamnaaGreat
open Go.RowKit
set_option linter.unusedVariables false
def Sb (w : World) (b : Nat) (t : TypeId) (u v x : Value) : Prop := w.heap[b]? = some (.cells #[u, v, x] t (0, 0))
section
variable {w w' : World} {b : Nat} {t : TypeId} {u v x : Value}
theorem Sb.lt (h : Sb w b t u v x) : b < w.heap.size := (Array.getElem?_eq_some_iff.1 h).1
theorem Sb.later (h : Sb w b t u v x) (hb : Below w.heap.size w w') : Sb w' b t u v x := (hb.block b h.lt).trans h
theorem Sb.row (h : Sb w b t u v x) {g : Nat} (cs : Array Value) (hne : b ≠ g) : Sb (w.setRow g cs) b t u v x := (setRow_other w g b cs hne).trans h
theorem Sb.cells (h : Sb w b t u v x) : w.cell? ⟨b, 0, none⟩ = some u ∧ w.cell? ⟨b, 1, none⟩ = some v ∧ w.cell? ⟨b, 2, none⟩ = some x := by
  have h' : w.heap[b]? = _ := h
  refine ⟨?_, ?_, ?_⟩ <;> simp [World.cell?, h']
theorem Sb.fr (h : Sb w b t u v x) : w.frozen? ⟨b, 0, none⟩ = false ∧ w.frozen? ⟨b, 1, none⟩ = false ∧ w.frozen? ⟨b, 2, none⟩ = false := by
  have h' : w.heap[b]? = _ := h
  refine ⟨?_, ?_, ?_⟩ <;> simp [World.frozen?, h']
theorem Sb.new (w : World) (t : TypeId) (u v x : Value) : Sb (w.alloc (.cells #[u, v, x] t)) w.heap.size t u v x := World.alloc_heap_new w _
theorem Sb.alloc (h : Sb w b t u v x) (o : Obj) : Sb (w.alloc o) b t u v x := heapOld w o h
theorem Sb.put (h : Sb w b t u v x) (u' v' x' : Value) : Sb (((w.setCell ⟨b, 0, none⟩ u').setCell ⟨b, 1, none⟩ v').setCell ⟨b, 2, none⟩ x') b t u' v' x' := by
  have h' : w.heap[b]? = _ := h
  have h1 := Go.heap_setCell_same w b 0 _ t u' h'
  have h2 := Go.heap_setCell_same _ b 1 _ t v' h1
  have h3 := Go.heap_setCell_same _ b 2 _ t x' h2
  simpa [Sb] using h3
theorem Sb.set (h : Sb w b t u v x) (a : Addr) (y : Value) (hne : b ≠ a.block) : Sb (w.setCell a y) b t u v x := heapSet w a y h hne
theorem Sb.drew (h : Sb w b t u v x) : Sb w.drew b t u v x := h
theorem OwnG.drew {base g : Nat} {L : List Int} (h : OwnG base w g L) : OwnG base w.drew g L := h
theorem OwnG.set {base g : Nat} {L : List Int} (h : OwnG base w g L) (a : Addr) (y : Value) (hne : g ≠ a.block) : OwnG base (w.setCell a y) g L := ⟨h.1, heapSet w a y h.2 hne⟩
theorem OwnG.alloc {base g : Nat} {L : List Int} (h : OwnG base w g L) (o : Obj) : OwnG base (w.alloc o) g L := ⟨h.1, heapOld w o h.2⟩
end
theorem ret_cell2 {P : Program} {fn : Func} {p u : Tmp} {ty : TypeId} (h : fn.results = #[.cell p ty, .tmp u]) (tmps : Array Value) (w : World) (b : Nat) (val : Value) (hp : tmps.getD p undef = .pointer (some ⟨b, 0, none⟩)) (hl : (loadVar ty ⟨b, 0, none⟩).run P w = .ok val w) :
    (results fn tmps).run P w = .ok (.tuple #[val, tmps.getD u undef]) w := by
  rw [results_cell_tmp h, hp]
  simp [asAddr, Result.andThen, hl]
theorem Tryz.size_px : (Tryz.prog.info? 55).map (·.size) = some 1 := by kernel_rfl
theorem ownG_row {base g : Nat} {w : World} {L : List Int} (h : OwnG base w g L) (off : Nat) (cs : List Int) : OwnG base (w.setRow g (splice (L.map (Value.int .u64)) off (cs.map (Value.int .u64))).toArray) g (splice L off cs) := by
  refine ⟨h.1, ?_⟩
  rw [setRow_heap w g _ _ _ _ h.2]
  simp [splice]
theorem one_px (zs : List Int) : ∀ u ∈ zs.map (Value.int .u64), u.oneCell' = true := by
  intro u hu
  obtain ⟨y, _, rfl⟩ := List.mem_map.1 hu
  rfl
end Go.Proofs.YtkjkepnailamnaaGreat
namespace Go.Proofs.YtkjkepnailamnaaGreat
open Go.RowKit
end Go.Proofs.YtkjkepnailamnaaGreat
namespace Go.Proofs.YtkjkepnailamnaaGreat
open Go.RowKit
set_option linter.unusedVariables false
def rowV (W H : Int) (L : List Int) (y : Int) : List Int := (Rc.subV W H L 0 y W 1).2.2.1
end Go.Proofs.YtkjkepnailamnaaGreat
namespace Go.Proofs.YtkjkepnailamnaaGreat
open Go.RowKit
set_option linter.unusedVariables false
def Pc (w : World) (b : Nat) (t : TypeId) (x y : Int) : Prop := w.heap[b]? = some (.cells #[.int .i64 x, .int .i64 y] t (0, 0))
theorem Pc.cells {w : World} {b : Nat} {t : TypeId} {x y : Int} (h : Pc w b t x y) : w.cell? ⟨b, 0, none⟩ = some (.int .i64 x) ∧ w.cell? ⟨b, 1, none⟩ = some (.int .i64 y) := by
  have h' : w.heap[b]? = _ := h
  refine ⟨?_, ?_⟩ <;> simp [World.cell?, h']
theorem Sb.below {w w' : World} {b B : Nat} {t : TypeId} {u v x : Value} (h : Sb w b t u v x) (hb : Below B w w') (hlt : b < B) : Sb w' b t u v x := (hb.block b hlt).trans h
theorem Pc.below {w w' : World} {b B : Nat} {t : TypeId} {x y : Int} (h : Pc w b t x y) (hb : Below B w w') (hlt : b < B) : Pc w' b t x y := (hb.block b hlt).trans h
structure SF (w wr : World) (t s : TypeId) (u1 v1 x1 u2 v2 x2 : Value) (fx fy lx ly : Int) : Prop where
  bel : Below w.heap.size w wr
  m : Sb wr w.heap.size t u1 v1 x1
  o : Sb wr (w.heap.size + 1) t u2 v2 x2
  lo : Pc wr (w.heap.size + 1 + 1) s fx fy
  hi : Pc wr (w.heap.size + 1 + 1 + 1) s lx ly
  size : w.heap.size + 4 ≤ wr.heap.size
theorem SF.later {w wr w' : World} {t s : TypeId} {u1 v1 x1 u2 v2 x2 : Value} {fx fy lx ly : Int} (h : SF w wr t s u1 v1 x1 u2 v2 x2 fx fy lx ly) (hb : Below (w.heap.size + 4) wr w') : SF w w' t s u1 v1 x1 u2 v2 x2 fx fy lx ly :=
  ⟨h.bel.trans (hb.mono (by omega)), h.m.below hb (by omega), h.o.below hb (by omega), h.lo.below hb (by omega), h.hi.below hb (by omega), Nat.le_trans h.size hb.size⟩
theorem flat_succ {α : Type} (f : Nat → List α) (n : Nat) : (List.range (n + 1)).flatMap f = (List.range n).flatMap f ++ f n := by rw [List.range_succ, List.flatMap_append]; simp
theorem flat_le {n : Nat} {f : Nat → List (Int × Int)} {m : Nat} (h : ∀ k, (f k).length ≤ m) : ((List.range n).flatMap f).length ≤ n * m := by
  induction n with
  | zero => simp
  | succ n ih => rw [flat_succ, List.length_append, Nat.succ_mul]; have := h n; omega
theorem ownsRow_later {w w' : World} {base size n : Nat} {e : TypeId} {v : Value} {xs : List Value} (h : w.ownsRow base e size v n xs) (hb : Below w.heap.size w w') : w'.ownsRow base e size v n xs := by
  obtain ⟨h1, h2⟩ := h
  refine ⟨h1, ?_⟩
  rcases h2 with h2 | ⟨g, cap, cur, rfl, hbs, hg, r⟩
  · exact .inl h2
  · exact .inr ⟨g, cap, cur, rfl, hbs, (hb.block g (Array.getElem?_eq_some_iff.1 hg).1).trans hg, r⟩
end Go.Proofs.YtkjkepnailamnaaGreat
namespace Go.Proofs.YtkjkepnailamnaaGreat
open Go.RowKit
set_option linter.unusedVariables false
end Go.Proofs.YtkjkepnailamnaaGreat
namespace Go.Proofs.YtkjkepnailamnaaGreat
open Go.RowKit
set_option linter.unusedVariables false
def RowsK (w : World) (a : Option Addr) (n : Nat) (R : List (List Int)) : Prop :=
  R.length = n ∧ (n = 0 ∨ ∃ b off, a = some ⟨b, off, none⟩ ∧ ∀ i, i < n → ∃ ai ci, w.cell? ⟨b, off + i, none⟩ = some (.slice ai (R.getD i []).length ci) ∧ SlK .u64 w ai (R.getD i []).length (R.getD i []))
theorem RowsK.later {w w' : World} {a : Option Addr} {n : Nat} {R : List (List Int)} (h : RowsK w a n R) (hb : Below w.heap.size w w') : RowsK w' a n R := by
  obtain ⟨h1, h2⟩ := h
  refine ⟨h1, ?_⟩
  rcases h2 with h2 | ⟨b, off, ha, hc⟩
  · exact .inl h2
  · refine .inr ⟨b, off, ha, fun i hi => ?_⟩
    obtain ⟨ai, ci, k1, k2⟩ := hc i hi
    exact ⟨ai, ci, cell_later hb k1, k2.below hb⟩
end Go.Proofs.YtkjkepnailamnaaGreat
namespace Go.Proofs.YtkjkepnailamnaaGreat
open Go.RowKit
set_option linter.unusedVariables false
theorem slk_src {w : World} {a : Option Addr} {n : Nat} {zs : List Int} (h : SlK .u64 w a n zs) (hn : 0 < n) : ∃ ad, a = some ad ∧ ∀ j v, (zs.map (Value.int .u64))[j]? = some v → w.cell? (ad.add j) = some v := by
  obtain ⟨b, off, rfl, hc⟩ := slk_pos h hn
  refine ⟨_, rfl, fun j v hv => ?_⟩
  rw [List.getElem?_map] at hv
  rcases Nat.lt_or_ge j zs.length with hj | hj
  · rw [List.getElem?_eq_getElem hj] at hv
    rw [addrK_add, hc j (by rw [← h.1]; exact hj), ← hv, List.getD_eq_getElem?_getD, List.getElem?_eq_getElem hj]; rfl
  · rw [List.getElem?_eq_none hj] at hv; cases hv
theorem wpList_copy_row {P : Program} {w : World} {ops : Array Oper} {rest : List Oper} {o : Oper} {a : Act} {Q : Exit → Act → World → Prop} (hgd : o.guard = none) (d s : Operand) (dT sT : TypeId)
    (ho : o.op = .call { callee := .builtin .copy, args := #[d, s], argTypes := #[dT, sT] }) (elem : TypeId) (hu : P.underlying dT = some (.slice elem)) (hsz : (P.info? elem).map (·.size) = some 1)
    (g off dLen dCap : Nat) (ad : Addr) (sLen sCap : Nat) (hd : a.eval d = .slice (some ⟨g, off, none⟩) dLen dCap) (hs : a.eval s = .slice (some ad) sLen sCap)
    (cur : List Value) (t : TypeId) (hg : w.heap[g]? = some (.cells cur.toArray t (0, 0))) (cs : List Value) (hn : cs.length = Nat.min sLen dLen)
    (hsrc : ∀ j v, cs[j]? = some v → w.cell? (ad.add j) = some v) (hfit : off + cs.length ≤ cur.length) (h1 : ∀ v ∈ cs, v.oneCell' = true)
    (h : ∀ v9, wpList P ops Q rest (a.put o.dst v9) (w.setRow g (splice cur off cs).toArray)) : wpList P ops Q (o :: rest) a w := by
  refine wpList_copy_own hgd d s dT sT ho elem hu hsz g off dLen dCap ad sLen sCap hd hs cur.toArray t hg cs hn hsrc (by simpa using hfit) h1 ?_
  have h' := h (goInt cs.length)
  unfold splice at h'
  exact h'
end Go.Proofs.YtkjkepnailamnaaGreat
namespace Go.Proofs.YtkjkepnailamnaaGreat
open Go.RowKit
set_option linter.unusedVariables false
end Go.Proofs.YtkjkepnailamnaaGreat
namespace Go.Proofs.YtkjkepnailamnaaGreat
open Go.RowKit
set_option linter.unusedVariables false
theorem Sb.setL {w : World} {b : Nat} {t : TypeId} {u v x : Value} (h : Sb w b t u v x) (y : Value) : Sb (w.setCell ⟨b, 2, none⟩ y) b t u v y := by
  have h' : w.heap[b]? = _ := h
  have h1 := Go.heap_setCell_same w b 2 _ t y h'
  simpa [Sb] using h1
theorem ownsRow_set {w : World} {base size n : Nat} {e : TypeId} {v : Value} {xs : List Value} (h : w.ownsRow base e size v n xs) {a : Addr} (ha : a.block < base) (y : Value) : (w.setCell a y).ownsRow base e size v n xs := by
  obtain ⟨h1, h2⟩ := h
  refine ⟨h1, ?_⟩
  rcases h2 with h2 | ⟨g, cap, cur, rfl, hbs, hg, r⟩
  · exact .inl h2
  · exact .inr ⟨g, cap, cur, rfl, hbs, heapSet w a y hg (by omega), r⟩
theorem pushL0 {W w1 : World} {b base : Nat} {T e : TypeId} {u1 u2 v v' : Value} {k m size : Nat} {xs ys : List Value}
    (hbox : Sb W b T u1 u2 v) (hrow : W.ownsRow base e size v k xs) (hlt : b < base) (hsz : base ≤ W.heap.size) (hown' : w1.ownsRow base e size v' m ys) (hgrow : W.grownBy w1 v.ownBlock) :
    Sb w1 b T u1 u2 v ∧ Sb (w1.setCell ⟨b, 2, none⟩ v') b T u1 u2 v' ∧ (w1.setCell ⟨b, 2, none⟩ v').ownsRow base e size v' m ys ∧ (∀ B, B ≤ b → Below B W (w1.setCell ⟨b, 2, none⟩ v')) ∧ base ≤ (w1.setCell ⟨b, 2, none⟩ v').heap.size := by
  have hb : ∀ j, v.ownBlock = some j → base ≤ j := fun j ej => (hrow.lt j ej).1
  have hBe : Below base W w1 := (Below.refl base W).grown hgrow hsz hb
  have h1 : Sb w1 b T u1 u2 v := hbox.below hBe hlt
  refine ⟨h1, h1.setL v', ownsRow_set hown' hlt v', fun B hB => (hBe.mono (by omega)).setCell hB v', ?_⟩
  have := hBe.size
  simp; omega
theorem pushL {W w1 : World} {b base : Nat} {T e : TypeId} {u1 u2 v v' : Value} {k m size : Nat} {xs ys : List Value} {tmp : Obj}
    (hbox : Sb W b T u1 u2 v) (hrow : W.ownsRow base e size v k xs) (hlt : b < base) (hsz : base ≤ W.heap.size) (hown' : w1.ownsRow base e size v' m ys) (hgrow : (W.alloc tmp).grownBy w1 v.ownBlock) :
    Sb w1 b T u1 u2 v ∧ Sb (w1.setCell ⟨b, 2, none⟩ v') b T u1 u2 v' ∧ (w1.setCell ⟨b, 2, none⟩ v').ownsRow base e size v' m ys ∧ (∀ B, B ≤ b → Below B W (w1.setCell ⟨b, 2, none⟩ v')) ∧ base ≤ (w1.setCell ⟨b, 2, none⟩ v').heap.size := by
  obtain ⟨h1, h2, h3, h4, h5⟩ := pushL0 (hbox.alloc tmp) (hrow.alloc tmp) hlt (by simp; omega) hown' hgrow
  exact ⟨h1, h2, h3, fun B hB => ((Below.refl B W).alloc (by omega) tmp).trans (h4 B hB), h5⟩
theorem bel_drewN {B : Nat} {a w : World} (h : Below B a w) (n : Nat) : Below B a (w.drewN n) := ⟨h.os, h.tape, h.output, h.size, h.block⟩
end Go.Proofs.YtkjkepnailamnaaGreat
namespace Go.Proofs.YtkjkepnailamnaaGreat
open Go.RowKit
set_option linter.unusedVariables false
theorem around_i {n m : Int} (h : I64 n) (hm : 0 < m) (hm2 : m ≤ 9223372036854775807) (w : World) :
    Calls Tryz.prog 15 #[.int .i64 n, .int .i64 m] w fun e w' => e = .returned (.int .i64 (Ar.around n m)) ∧ w = w' := aroundOf n m h.1 h.2 hm hm2 w
theorem Pc.lt {w : World} {b : Nat} {t : TypeId} {x y : Int} (h : Pc w b t x y) : b < w.heap.size := (Array.getElem?_eq_some_iff.1 h).1
theorem size_drewN' (w : World) (n : Nat) : (w.drewN n).heap.size = w.heap.size := rfl
def goodAt (zs : List Int) (i : Nat) : Int := if zs = [] then 0 else zs.getD (i % zs.length) 0 % 3
def goodL (zs : List Int) (n : Nat) : List Int := (List.range n).map (goodAt zs)
def goodW (W most : Int) : Int := 1 + Ar.around W most
theorem goodL_len (zs : List Int) (n : Nat) : (goodL zs n).length = n := by simp [goodL]
theorem goodW_in (W most : Int) (h : 0 < most) : 1 ≤ goodW W most ∧ goodW W most ≤ most := by have := Ar.around_lt W most h; unfold goodW; omega
def goodM (W H most : Int) (zs : List Int) : List Int := goodL zs ((goodW H most).toNat * (goodW W most).toNat)
theorem ownK_set {q : IntKind} {base : Nat} {w : World} {ad : Option Addr} {zs : List Int} (h : OwnK q base w ad zs) {a : Addr} (ha : a.block < base) (y : Value) : OwnK q base (w.setCell a y) ad zs := by
  rcases h with h | ⟨g, h1, h2, h3, h4, h5⟩
  · exact .inl h
  · refine .inr ⟨g, h1, h2, by simpa using h3, fun i hi => ?_, fun i => ?_⟩
    · rw [World.cell?_setCell_other _ _ _ _ (fun e => by have := congrArg Addr.block e; simp at this; omega)]; exact h4 i hi
    · rw [World.frozen?_setCell]; exact h5 i
end Go.Proofs.YtkjkepnailamnaaGreat
namespace Go.Proofs.YtkjkepnailamnaaGreat
open Go.RowKit
set_option linter.unusedVariables false
end Go.Proofs.YtkjkepnailamnaaGreat
namespace Go.Proofs.YtkjkepnailamnaaGreat
open Go.RowKit
set_option linter.unusedVariables false
end Go.Proofs.YtkjkepnailamnaaGreat
namespace Go.Proofs.YtkjkepnailamnaaGreat
open Go.RowKit
set_option linter.unusedVariables false
end Go.Proofs.YtkjkepnailamnaaGreat
namespace Go.Proofs.YtkjkepnailamnaaGreat
open Go.RowKit
namespace Pq
namespace Px
def hiP (p : Int) : Int := p / 281474976710656
def loP (p : Int) : Int := p % 281474976710656
def smp (p : Int) : List Int :=
  if hiP p = 3 then [loP p / 4294967296, loP p / 65536 % 65536, loP p % 65536]
  else if hiP p = 1 ∧ loP p < 65536 then [loP p] else []
def Is3 (p a b c : Int) : Prop := p = 844424930131968 + a * 4294967296 + b * 65536 + c ∧ 0 ≤ a ∧ a ≤ 65535 ∧ 0 ≤ b ∧ b ≤ 65535 ∧ 0 ≤ c ∧ c ≤ 65535
def Is1 (p a : Int) : Prop := p = 281474976710656 + a ∧ 0 ≤ a ∧ a ≤ 65535
def Is0 (p : Int) : Prop := ¬ hiP p = 3 ∧ ¬ (hiP p = 1 ∧ loP p < 65536)
def U (p : Int) : Prop := 0 ≤ p ∧ p ≤ 18446744073709551615
def I (n : Int) : Prop := -9223372036854775808 ≤ n ∧ n ≤ 9223372036854775807
theorem tri {p : Int} (h : U p) : (∃ a b c, Is3 p a b c) ∨ (∃ a, Is1 p a) ∨ Is0 p := by
  obtain ⟨h0, h1⟩ := h
  by_cases h3 : hiP p = 3
  · refine .inl ⟨loP p / 4294967296, loP p / 65536 % 65536, loP p % 65536, ?_⟩
    unfold hiP at h3; unfold Is3 loP; omega
  · by_cases h2 : hiP p = 1 ∧ loP p < 65536
    · refine .inr (.inl ⟨loP p, ?_⟩)
      unfold hiP loP at h2; unfold Is1 loP; omega
    · exact .inr (.inr ⟨h3, h2⟩)
theorem smp3 {p a b c : Int} (h : Is3 p a b c) : smp p = [a, b, c] := by
  obtain ⟨h0, h⟩ := h
  have e : hiP p = 3 := by unfold hiP; omega
  have e1 : loP p / 4294967296 = a := by unfold loP; omega
  have e2 : loP p / 65536 % 65536 = b := by unfold loP; omega
  have e3 : loP p % 65536 = c := by unfold loP; omega
  unfold smp; rw [if_pos e, e1, e2, e3]
theorem smp1 {p a : Int} (h : Is1 p a) : smp p = [a] := by
  obtain ⟨h0, h⟩ := h
  have e : ¬ hiP p = 3 := by unfold hiP; omega
  have e1 : loP p = a := by unfold loP; omega
  have e2 : hiP p = 1 ∧ loP p < 65536 := by unfold hiP loP; omega
  unfold smp; rw [if_neg e, if_pos e2, e1]
theorem smp0 {p : Int} (h : Is0 p) : smp p = [] := by
  unfold smp; rw [if_neg h.1, if_neg h.2]
theorem and16 (x : Int) (h0 : 0 ≤ x) (h1 : x ≤ 18446744073709551615) : bits .and .u64 x 65535 = x % 65536 := by
  rw [u64_and x 65535 h0 (by omega) (by omega) (by omega)]
  have e : (65535 : Int).toNat = 2 ^ 16 - 1 := by decide
  rw [e, Nat.and_two_pow_sub_one_eq_mod]
  omega
theorem or16 (x s : Int) (h0 : 0 ≤ x) (h1 : x < 281474976710656) (h2 : 0 ≤ s) (h3 : s < 65536) : bits .or .u64 (x * 65536) s = x * 65536 + s := by
  rw [u64_or (x * 65536) s (by omega) (by omega) h2 (by omega)]
  obtain ⟨X, rfl⟩ := Int.eq_ofNat_of_zero_le h0
  obtain ⟨S, rfl⟩ := Int.eq_ofNat_of_zero_le h2
  have e1 : ((X : Int) * 65536).toNat = 2 ^ 16 * X := by omega
  rw [e1, Int.toNat_natCast, ← Nat.two_pow_add_eq_or_of_lt (by omega : S < 2 ^ 16)]
  omega
theorem or48 (n s : Int) (h0 : 0 ≤ n) (h1 : n < 65536) (h2 : 0 ≤ s) (h3 : s < 281474976710656) : bits .or .u64 (n * 281474976710656) s = n * 281474976710656 + s := by
  rw [u64_or (n * 281474976710656) s (by omega) (by omega) h2 (by omega)]
  obtain ⟨X, rfl⟩ := Int.eq_ofNat_of_zero_le h0
  obtain ⟨S, rfl⟩ := Int.eq_ofNat_of_zero_le h2
  have e1 : ((X : Int) * 281474976710656).toNat = 2 ^ 48 * X := by omega
  rw [e1, Int.toNat_natCast, ← Nat.two_pow_add_eq_or_of_lt (by omega : S < 2 ^ 48)]
  omega
theorem or0 (s : Int) (h2 : 0 ≤ s) (h3 : s < 65536) : bits .or .u64 0 s = s := by
  have := or16 0 s (by omega) (by omega) h2 h3; simpa using this
theorem u64w (n : Int) (h0 : 0 ≤ n) (h1 : n ≤ 18446744073709551615) : IntKind.u64.wrap n = n := IntWalk.u64_in n ⟨h0, h1⟩
theorem join3v (a b c : Int) (ha0 : 0 ≤ a) (ha1 : a ≤ 65535) (hb0 : 0 ≤ b) (hb1 : b ≤ 65535) (hc0 : 0 ≤ c) (hc1 : c ≤ 65535) :
    bits .or .u64 844424930131968 (bits .or .u64 (IntKind.u64.wrap (bits .or .u64 (IntKind.u64.wrap (bits .or .u64 0 a * 65536)) b * 65536)) c) = 844424930131968 + a * 4294967296 + b * 65536 + c := by
  have e1 := or0 a ha0 (by omega)
  have e2 := u64w (a * 65536) (by omega) (by omega)
  have e3 := or16 a b ha0 (by omega) hb0 (by omega)
  have e4 := u64w ((a * 65536 + b) * 65536) (by omega) (by omega)
  have e5 := or16 (a * 65536 + b) c (by omega) (by omega) hc0 (by omega)
  have e6 := or48 3 ((a * 65536 + b) * 65536 + c) (by omega) (by omega) (by omega) (by omega)
  have e7 : (3 : Int) * 281474976710656 = 844424930131968 := rfl
  rw [e1, e2, e3, e4, e5, ← e7, e6]; omega
theorem join1v (a : Int) (ha0 : 0 ≤ a) (ha1 : a ≤ 65535) : bits .or .u64 281474976710656 (bits .or .u64 0 a) = 281474976710656 + a := by
  have e1 := or0 a ha0 (by omega)
  have e6 := or48 1 a (by omega) (by omega) (by omega) (by omega)
  have e7 : (1 : Int) * 281474976710656 = 281474976710656 := rfl
  rw [e1, ← e7, e6]
def okS (s : Int) : Bool := decide (0 ≤ s) && decide (s ≤ 65535)
def packV : List Int → Int × Int
  | [a] => if okS a then (281474976710656 + a, 0) else (0, 4)
  | [a, b, c] => if okS a && okS b && okS c then (844424930131968 + a * 4294967296 + b * 65536 + c, 0) else (0, 4)
  | _ => (0, 1)
theorem packV3_bad {x y z : Int} (h : x < 0 ∨ 65535 < x ∨ y < 0 ∨ 65535 < y ∨ z < 0 ∨ 65535 < z) : packV [x, y, z] = (0, 4) := by
  show (if (okS x && okS y && okS z) = true then _ else _) = _
  rw [if_neg]; simp [okS]; omega
theorem packV3 {x y z : Int} (hx0 : 0 ≤ x) (hx1 : x ≤ 65535) (hy0 : 0 ≤ y) (hy1 : y ≤ 65535) (hz0 : 0 ≤ z) (hz1 : z ≤ 65535) : packV [x, y, z] = (844424930131968 + x * 4294967296 + y * 65536 + z, 0) := by
  simp [packV, okS, hx0, hx1, hy0, hy1, hz0, hz1]
theorem packV3_badS {x y z : Int} (h : okS x = false ∨ okS y = false ∨ okS z = false) : packV [x, y, z] = (0, 4) := by
  show (if (okS x && okS y && okS z) = true then _ else _) = _
  rw [if_neg]; rcases h with h | h | h <;> simp [h]
theorem packV1_badS {x : Int} (h : okS x = false) : packV [x] = (0, 4) := by
  show (if okS x = true then _ else _) = _
  rw [if_neg]; simp [h]
theorem okS_of {x : Int} (h : okS x = true) : 0 ≤ x ∧ x ≤ 65535 := by simpa [okS] using h
theorem packV1_bad {x : Int} (h : x < 0 ∨ 65535 < x) : packV [x] = (0, 4) := by
  show (if okS x = true then _ else _) = _
  rw [if_neg]; simp [okS]; omega
theorem packV1 {x : Int} (hx0 : 0 ≤ x) (hx1 : x ≤ 65535) : packV [x] = (281474976710656 + x, 0) := by
  simp [packV, okS, hx0, hx1]
theorem packV_len {zs : List Int} (h1 : ¬ zs.length = 1) (h3 : ¬ zs.length = 3) : packV zs = (0, 1) := by
  match zs with
  | [] => rfl
  | [_] => simp at h1
  | [_, _] => rfl
  | [_, _, _] => simp at h3
  | _ :: _ :: _ :: _ :: _ => rfl
def mayV (p : Int) : Bool := !(smp p).isEmpty
def formatV (c m : Int) : Bool := (c == 1 || c == 3) && (decide (1 ≤ m) && decide (m ≤ 65535))
def fitsV (p c m : Int) : Bool := formatV c m && ((smp p).length == c.toNat && (smp p).all fun s => decide (s ≤ m))
def aroundV (n most : Int) : Int := (if n < 0 then -(n + 1) else n) % most
def formM (m : Int) : Int := 1 + aroundV m 65535
def goodL (zs : List Int) (m : Int) : Nat → List Int
  | 0 => []
  | k + 1 => (match zs with | [] => 0 | z :: _ => aroundV z (m + 1)) :: goodL zs.tail m k
def goodV (zs : List Int) (c m : Int) : Int := (packV (goodL zs m c.toNat)).1
theorem fitsV3 {p a b d : Int} (h : Is3 p a b d) (m : Int) : fitsV p 3 m = (formatV 3 m && decide (max (max a b) d ≤ m)) := by
  unfold fitsV; rw [smp3 h]
  by_cases h1 : a ≤ m <;> by_cases h2 : b ≤ m <;> by_cases h3 : d ≤ m <;> simp [h1, h2, h3] <;> omega
theorem fitsV1 {p a : Int} (h : Is1 p a) (m : Int) : fitsV p 1 m = (formatV 1 m && decide (a ≤ m)) := by
  unfold fitsV; rw [smp1 h]
  by_cases h1 : a ≤ m <;> simp [h1]
theorem fitsV_bad {p c m : Int} (h : formatV c m = false) : fitsV p c m = false := by unfold fitsV; rw [h]; rfl
theorem formatC {c m : Int} (h : formatV c m = true) : c = 1 ∨ c = 3 := by
  simp [formatV] at h; exact h.1
theorem formatM {c m : Int} (h : formatV c m = true) : 1 ≤ m ∧ m ≤ 65535 := by
  simp [formatV] at h; exact h.2
theorem fitsV_len {p c m : Int} (h : ((smp p).length : Int) ≠ c) : fitsV p c m = false := by
  cases hf : formatV c m
  · exact fitsV_bad hf
  · unfold fitsV
    have := formatC hf
    rw [show ((smp p).length == c.toNat) = false by rw [beq_eq_false_iff_ne]; omega]; simp
theorem around_lt (n most : Int) (h : 0 < most) : 0 ≤ aroundV n most ∧ aroundV n most < most := by
  unfold aroundV; exact ⟨Int.emod_nonneg _ (by omega), Int.emod_lt_of_pos _ h⟩
end Px
end Pq
end Go.Proofs.YtkjkepnailamnaaGreat
namespace Go.Proofs.YtkjkepnailamnaaGreat
open Go.RowKit
set_option linter.unusedVariables false
namespace Pq
theorem ret_i {k : IntKind} {a b : Int} (h : a = b) : Ending.returned (.int k a) = .returned (.int k b) := by rw [h]
theorem ret_b {a b : Bool} (h : a = b) : Ending.returned (.bool a) = .returned (.bool b) := by rw [h]
theorem ret_split {a b c n a' b' c' : Int} (h1 : a = a') (h2 : b = b') (h3 : c = c') :
    Ending.returned (.tuple #[.agg #[.int .i64 a, .int .i64 b, .int .i64 c], .int .i64 n]) = .returned (.tuple #[.agg #[.int .i64 a', .int .i64 b', .int .i64 c'], .int .i64 n]) := by rw [h1, h2, h3]
set_option maxHeartbeats 400000 in
theorem split3 (p a b c : Int) (h : Px.Is3 p a b c) (w : World) :
    Calls Tryz.prog 145 #[.int .u64 p] w fun e w' => e = .returned (.tuple #[.agg #[.int .i64 a, .int .i64 b, .int .i64 c], .int .i64 3]) ∧ Below w.heap.size w w' := by
  have H := h
  obtain ⟨hp, ha0, ha1, hb0, hb1, hc0, hc1⟩ := h
  have h0 : 0 ≤ p := by omega
  have h1 : p ≤ 18446744073709551615 := by omega
  have hh : p / 281474976710656 = 3 := by omega
  have ht : ((p - 844424930131968) / 65536 / 65536 / 65536 != 0) = false := by rw [bne_eq_false_iff_eq]; omega
  have x1 : wrap64 (bits .and .u64 ((p - 844424930131968) / 65536 / 65536) 65535) = a := by rw [Px.and16 _ (by omega) (by omega), IntWalk.wrap64_in] <;> omega
  have x2 : wrap64 (bits .and .u64 ((p - 844424930131968) / 65536) 65535) = b := by rw [Px.and16 _ (by omega) (by omega), IntWalk.wrap64_in] <;> omega
  have x3 : wrap64 (bits .and .u64 (p - 844424930131968) 65535) = c := by rw [Px.and16 _ (by omega) (by omega), IntWalk.wrap64_in] <;> omega
  clear hp
  have X1 := Lib.hid x1; clear x1
  have X2 := Lib.hid x2; clear x2
  have X3 := Lib.hid x3; clear x3
  go_enter Tryz.func145, Tryz.ntmps145
  go_wp2
  go_rounds 4
  go_returns
  exact ⟨ret_split X1.out X2.out X3.out, by go_grown⟩
set_option maxHeartbeats 400000 in
theorem split1 (p a : Int) (h : Px.Is1 p a) (w : World) :
    Calls Tryz.prog 145 #[.int .u64 p] w fun e w' => e = .returned (.tuple #[.agg #[.int .i64 a, .int .i64 0, .int .i64 0], .int .i64 1]) ∧ Below w.heap.size w w' := by
  obtain ⟨hp, ha0, ha1⟩ := h
  have h0 : 0 ≤ p := by omega
  have h1 : p ≤ 18446744073709551615 := by omega
  have hh : p / 281474976710656 = 1 := by omega
  have ht : ((p - 281474976710656) / 65536 != 0) = false := by rw [bne_eq_false_iff_eq]; omega
  have x1 : wrap64 (bits .and .u64 (p - 281474976710656) 65535) = a := by rw [Px.and16 _ (by omega) (by omega), IntWalk.wrap64_in] <;> omega
  clear hp
  have X1 := Lib.hid x1; clear x1
  go_enter Tryz.func145, Tryz.ntmps145
  go_wp2
  go_rounds 2
  go_returns
  exact ⟨ret_split X1.out rfl rfl, by go_grown⟩
set_option maxHeartbeats 400000 in
theorem split0 (p : Int) (hU : Px.U p) (h : Px.Is0 p) (w : World) :
    Calls Tryz.prog 145 #[.int .u64 p] w fun e w' => e = .returned (.tuple #[.agg #[.int .i64 0, .int .i64 0, .int .i64 0], .int .i64 0]) ∧ Below w.heap.size w w' := by
  obtain ⟨h0, h1⟩ := hU
  obtain ⟨h3, h2⟩ := h
  unfold Px.hiP at h3 h2
  unfold Px.loP at h2
  by_cases hh : p / 281474976710656 = 1
  · have ht : ((p - 281474976710656) / 65536 != 0) = true := by rw [bne_iff_ne]; omega
    clear h3 h2
    go_enter Tryz.func145, Tryz.ntmps145
    go_wp2
    go_rounds 2
    go_returns
    exact ⟨rfl, by go_grown⟩
  · have k1 : (p / 281474976710656 != 1) = true := by rw [bne_iff_ne]; omega
    have k3 : (p / 281474976710656 != 3) = true := by rw [bne_iff_ne]; omega
    clear h3 h2 hh
    go_enter Tryz.func145, Tryz.ntmps145
    go_wp2
    go_returns
    exact ⟨rfl, by go_grown⟩
set_option maxHeartbeats 400000 in
theorem join3 (blk off cap : Nat) (a b c : Int) (ha0 : 0 ≤ a) (ha1 : a ≤ 65535) (hb0 : 0 ≤ b) (hb1 : b ≤ 65535) (hc0 : 0 ≤ c) (hc1 : c ≤ 65535) (w : World)
    (c0 : w.cell? ⟨blk, off, none⟩ = some (.int .i64 a)) (c1 : w.cell? ⟨blk, off + 1, none⟩ = some (.int .i64 b)) (c2 : w.cell? ⟨blk, off + 2, none⟩ = some (.int .i64 c)) :
    Calls Tryz.prog 163 #[.slice (some ⟨blk, off, none⟩) 3 cap] w fun e w' => e = .returned (.int .u64 (844424930131968 + a * 4294967296 + b * 65536 + c)) ∧ w = w' := by
  have X := Lib.hid (Px.join3v a b c ha0 ha1 hb0 hb1 hc0 hc1)
  go_enter Tryz.func163, Tryz.ntmps163
  go_wp2
  go_rounds 4
  go_ret
  exact ⟨ret_i X.out, rfl⟩
set_option maxHeartbeats 400000 in
theorem join1 (blk off cap : Nat) (a : Int) (ha0 : 0 ≤ a) (ha1 : a ≤ 65535) (w : World)
    (c0 : w.cell? ⟨blk, off, none⟩ = some (.int .i64 a)) :
    Calls Tryz.prog 163 #[.slice (some ⟨blk, off, none⟩) 1 cap] w fun e w' => e = .returned (.int .u64 (281474976710656 + a)) ∧ w = w' := by
  have X := Lib.hid (Px.join1v a ha0 ha1)
  go_enter Tryz.func163, Tryz.ntmps163
  go_wp2
  go_rounds 2
  go_ret
  exact ⟨ret_i X.out, rfl⟩
theorem in_any (n : Int) (w : World) :
    Calls Tryz.prog 125 #[.int .i64 n] w fun e w' => e = .returned (.bool (Px.okS n)) ∧ w = w' := by
  by_cases h1 : 0 ≤ n
  · by_cases h2 : n ≤ 65535
    · have X := Lib.hid (show Px.okS n = true by simp [Px.okS, h1, h2])
      go_enter Tryz.func125, Tryz.ntmps125
      go_wp2
      go_ret
      exact ⟨ret_b X.out.symm, rfl⟩
    · have X := Lib.hid (show Px.okS n = false by simp [Px.okS, h2])
      go_enter Tryz.func125, Tryz.ntmps125
      go_wp2
      go_ret
      exact ⟨ret_b X.out.symm, rfl⟩
  · have X := Lib.hid (show Px.okS n = false by simp [Px.okS, h1])
    go_enter Tryz.func125, Tryz.ntmps125
    go_wp2
    go_ret
    exact ⟨ret_b X.out.symm, rfl⟩
theorem around_any (n m : Int) (hn : Px.I n) (hm : 0 < m) (hm' : m ≤ 9223372036854775807) (w : World) :
    Calls Tryz.prog 15 #[.int .i64 n, .int .i64 m] w fun e w' => e = .returned (.int .i64 (Px.aroundV n m)) ∧ w = w' := by
  obtain ⟨h1, h2⟩ := hn
  have hz : (m == 0) = false := by simp; omega
  by_cases h : n < 0
  · have X := Lib.hid (show -((n + 1).tmod m) = Px.aroundV n m by unfold Px.aroundV; rw [if_pos h, ← Int.neg_tmod, Int.tmod_eq_emod_of_nonneg (by omega)])
    have e1 : 0 ≤ -(n + 1) := by omega
    go_enter Tryz.func15, Tryz.ntmps15
    go_wp2
    go_ret
    exact ⟨ret_i X.out, rfl⟩
  · have X := Lib.hid (show n % m = Px.aroundV n m by unfold Px.aroundV; rw [if_neg h])
    go_enter Tryz.func15, Tryz.ntmps15
    go_wp2
    go_ret
    exact ⟨ret_i X.out, rfl⟩
theorem ret_pack {a b a' b' : Int} (h : (a, b) = (a', b')) : Ending.returned (.tuple #[.int .u64 a, .int .i64 b]) = .returned (.tuple #[.int .u64 a', .int .i64 b']) := by
  cases h; rfl
def Sl (w : World) (a : Option Addr) (len : Nat) (zs : List Int) : Prop :=
  zs.length = len ∧ (len = 0 ∨ ∃ blk off, a = some ⟨blk, off, none⟩ ∧ ∀ i, i < len → w.cell? ⟨blk, off + i, none⟩ = some (.int .i64 (zs.getD i 0)))
theorem Sl.below {w w' : World} {a : Option Addr} {n : Nat} {zs : List Int} (h : Sl w a n zs) (hb : Below w.heap.size w w') : Sl w' a n zs := by
  obtain ⟨h1, h2⟩ := h
  refine ⟨h1, ?_⟩
  rcases h2 with h2 | ⟨blk, off, ha, hc⟩
  · exact .inl h2
  · refine .inr ⟨blk, off, ha, fun i hi => ?_⟩
    exact cell_later hb (hc i hi)
theorem sl1 {w : World} {blk off : Nat} {a : Int} (h0 : w.cell? ⟨blk, off, none⟩ = some (.int .i64 a)) : Sl w (some ⟨blk, off, none⟩) 1 [a] :=
  ⟨rfl, .inr ⟨blk, off, rfl, fun i hi => by obtain rfl : i = 0 := by omega
                                            simpa using h0⟩⟩
theorem sl3 {w : World} {blk off : Nat} {a b c : Int} (h0 : w.cell? ⟨blk, off, none⟩ = some (.int .i64 a)) (h1 : w.cell? ⟨blk, off + 1, none⟩ = some (.int .i64 b)) (h2 : w.cell? ⟨blk, off + 2, none⟩ = some (.int .i64 c)) : Sl w (some ⟨blk, off, none⟩) 3 [a, b, c] :=
  ⟨rfl, .inr ⟨blk, off, rfl, fun i hi => by
    obtain rfl | rfl | rfl : i = 0 ∨ i = 1 ∨ i = 2 := by omega
    · simpa using h0
    · simpa using h1
    · simpa using h2⟩⟩
theorem sl_three {w : World} {a : Option Addr} {zs : List Int} (hs : Sl w a 3 zs) :
    ∃ blk off x y z, a = some ⟨blk, off, none⟩ ∧ zs = [x, y, z] ∧ w.cell? ⟨blk, off, none⟩ = some (.int .i64 x) ∧ w.cell? ⟨blk, off + 1, none⟩ = some (.int .i64 y) ∧ w.cell? ⟨blk, off + 2, none⟩ = some (.int .i64 z) := by
  obtain ⟨hz, hc⟩ := hs
  obtain ⟨x, y, z, rfl⟩ : ∃ x y z, zs = [x, y, z] := by
    match zs, hz with
    | [x, y, z], _ => exact ⟨x, y, z, rfl⟩
  rcases hc with hc | ⟨blk, off, rfl, hc⟩
  · omega
  exact ⟨blk, off, x, y, z, rfl, rfl, by simpa using hc 0 (by omega), by simpa using hc 1 (by omega), by simpa using hc 2 (by omega)⟩
theorem sl_one {w : World} {a : Option Addr} {zs : List Int} (hs : Sl w a 1 zs) :
    ∃ blk off x, a = some ⟨blk, off, none⟩ ∧ zs = [x] ∧ w.cell? ⟨blk, off, none⟩ = some (.int .i64 x) := by
  obtain ⟨hz, hc⟩ := hs
  obtain ⟨x, rfl⟩ : ∃ x, zs = [x] := by
    match zs, hz with
    | [x], _ => exact ⟨x, rfl⟩
  rcases hc with hc | ⟨blk, off, rfl, hc⟩
  · omega
  exact ⟨blk, off, x, rfl, rfl, by simpa using hc 0 (by omega)⟩
set_option maxHeartbeats 1000000 in
theorem pack_any (a : Option Addr) (len cap : Nat) (zs : List Int) (w : World) (hlen : len ≤ 9223372036854775807) (hs : Sl w a len zs) :
    Calls Tryz.prog 190 #[.slice a len cap] w fun e w' => e = .returned (.tuple #[.int .u64 (Px.packV zs).1, .int .i64 (Px.packV zs).2]) ∧ w = w' := by
  by_cases h3 : len = 3
  · subst h3
    obtain ⟨blk, off, x, y, z, rfl, rfl, c0, c1, c2⟩ := sl_three hs
    clear hs
    go_enter Tryz.func190, Tryz.ntmps190
    go_wp2
    refine wp_loop_rounds 4 ?_
    repeat any_goals (rw [rounds_succ]; go_wp2_with (go_at_call 163; go_call join3 _ _ _ x y z as e w' ⟨rfl, rfl⟩))
    all_goals go_ret2
    all_goals first | (refine ⟨ret_pack (Px.packV3_bad ?_).symm, rfl⟩; omega) | (refine ⟨ret_pack (Eq.trans ?_ (Px.packV3 ?_ ?_ ?_ ?_ ?_ ?_).symm), rfl⟩ <;> first | rfl | omega | (refine Prod.ext ?_ rfl; simp only []; omega))
  · by_cases h1 : len = 1
    · subst h1
      obtain ⟨blk, off, x, rfl, rfl, c0⟩ := sl_one hs
      clear hs
      go_enter Tryz.func190, Tryz.ntmps190
      go_wp2
      refine wp_loop_rounds 2 ?_
      repeat any_goals (rw [rounds_succ]; go_wp2_with (go_at_call 163; go_call join1 _ _ _ x as e w' ⟨rfl, rfl⟩))
      all_goals go_ret2
      all_goals first | (refine ⟨ret_pack (Px.packV1_bad ?_).symm, rfl⟩; omega) | (refine ⟨ret_pack (Eq.trans ?_ (Px.packV1 ?_ ?_).symm), rfl⟩ <;> first | rfl | omega | (refine Prod.ext ?_ rfl; simp only []; omega))
    · have X := Lib.hid (Px.packV_len (zs := zs) (by rw [hs.1]; exact h1) (by rw [hs.1]; exact h3))
      have k1 : ((len : Int) == 1) = false := by simp; omega
      have k3 : ((len : Int) == 3) = false := by simp; omega
      have m1 : ((len : Int) != 1) = true := by simp; omega
      have m3 : ((len : Int) != 3) = true := by simp; omega
      clear h1 h3
      go_enter Tryz.func190, Tryz.ntmps190
      go_wp2
      go_ret2
      exact ⟨ret_pack X.out.symm, rfl⟩
set_option maxHeartbeats 1000000 in
theorem refPack_any (a : Option Addr) (len cap : Nat) (zs : List Int) (w : World) (hlen : len ≤ 9223372036854775807) (hs : Sl w a len zs) :
    Calls Tryz.prog 75 #[.slice a len cap] w fun e w' => e = .returned (.tuple #[.int .u64 (Px.packV zs).1, .int .i64 (Px.packV zs).2]) ∧ w = w' := by
  by_cases h3 : len = 3
  · subst h3
    obtain ⟨blk, off, x, y, z, rfl, rfl, c0, c1, c2⟩ := sl_three hs
    clear hs
    cases hx : Px.okS x
    · have X := Lib.hid (Px.packV3_badS (x := x) (y := y) (z := z) (.inl hx))
      go_enter Tryz.func75, Tryz.ntmps75
      go_wp2
      refine wp_loop_rounds 4 ?_
      repeat any_goals (rw [rounds_succ]; go_wp2_with (go_at_call 125; refine (in_any _ _).mono ?_; rintro e w' ⟨rfl, rfl⟩))
      go_ret2
      exact ⟨ret_pack X.out.symm, rfl⟩
    obtain ⟨hx0, hx1⟩ := Px.okS_of hx
    cases hy : Px.okS y
    · have X := Lib.hid (Px.packV3_badS (x := x) (y := y) (z := z) (.inr (.inl hy)))
      go_enter Tryz.func75, Tryz.ntmps75
      go_wp2
      refine wp_loop_rounds 4 ?_
      repeat any_goals (rw [rounds_succ]; go_wp2_with (go_at_call 125; refine (in_any _ _).mono ?_; rintro e w' ⟨rfl, rfl⟩))
      go_ret2
      exact ⟨ret_pack X.out.symm, rfl⟩
    obtain ⟨hy0, hy1⟩ := Px.okS_of hy
    cases hz : Px.okS z
    · have X := Lib.hid (Px.packV3_badS (x := x) (y := y) (z := z) (.inr (.inr hz)))
      go_enter Tryz.func75, Tryz.ntmps75
      go_wp2
      refine wp_loop_rounds 4 ?_
      repeat any_goals (rw [rounds_succ]; go_wp2_with (go_at_call 125; refine (in_any _ _).mono ?_; rintro e w' ⟨rfl, rfl⟩))
      go_ret2
      exact ⟨ret_pack X.out.symm, rfl⟩
    obtain ⟨hz0, hz1⟩ := Px.okS_of hz
    have X := Lib.hid (show Px.packV [x, y, z] = ((x * 65536 + y) * 65536 + z + 844424930131968, 0) by rw [Px.packV3 hx0 hx1 hy0 hy1 hz0 hz1]; refine Prod.ext ?_ rfl; simp only []; omega)
    go_enter Tryz.func75, Tryz.ntmps75
    go_wp2
    refine wp_loop_rounds 4 ?_
    repeat any_goals (rw [rounds_succ]; go_wp2_with (go_at_call 125; refine (in_any _ _).mono ?_; rintro e w' ⟨rfl, rfl⟩))
    go_ret2
    exact ⟨ret_pack X.out.symm, rfl⟩
  · by_cases h1 : len = 1
    · subst h1
      obtain ⟨blk, off, x, rfl, rfl, c0⟩ := sl_one hs
      clear hs
      cases hx : Px.okS x
      · have X := Lib.hid (Px.packV1_badS (x := x) hx)
        go_enter Tryz.func75, Tryz.ntmps75
        go_wp2
        refine wp_loop_rounds 2 ?_
        repeat any_goals (rw [rounds_succ]; go_wp2_with (go_at_call 125; refine (in_any _ _).mono ?_; rintro e w' ⟨rfl, rfl⟩))
        go_ret2
        exact ⟨ret_pack X.out.symm, rfl⟩
      obtain ⟨hx0, hx1⟩ := Px.okS_of hx
      have X := Lib.hid (show Px.packV [x] = (x + 281474976710656, 0) by rw [Px.packV1 hx0 hx1]; refine Prod.ext ?_ rfl; simp only []; omega)
      go_enter Tryz.func75, Tryz.ntmps75
      go_wp2
      refine wp_loop_rounds 2 ?_
      repeat any_goals (rw [rounds_succ]; go_wp2_with (go_at_call 125; refine (in_any _ _).mono ?_; rintro e w' ⟨rfl, rfl⟩))
      go_ret2
      exact ⟨ret_pack X.out.symm, rfl⟩
    · have X := Lib.hid (Px.packV_len (zs := zs) (by rw [hs.1]; exact h1) (by rw [hs.1]; exact h3))
      have m1 : ((len : Int) != 1) = true := by simp; omega
      have m3 : ((len : Int) != 3) = true := by simp; omega
      clear h1 h3
      go_enter Tryz.func75, Tryz.ntmps75
      go_wp2
      go_ret2
      exact ⟨ret_pack X.out.symm, rfl⟩
end Pq
end Go.Proofs.YtkjkepnailamnaaGreat
namespace Go.Proofs.YtkjkepnailamnaaGreat
open Go.RowKit
set_option linter.unusedVariables false
namespace Pq
def Own (base : Nat) (w : World) (ad : Option Addr) (zs : List Int) : Prop :=
  zs = [] ∨ ∃ g, ad = some ⟨g, 0, none⟩ ∧ base ≤ g ∧ g < w.heap.size ∧ (∀ i, i < zs.length → w.cell? ⟨g, i, none⟩ = some (.int .i64 (zs.getD i 0))) ∧ (∀ i, i < zs.length → w.frozen? ⟨g, i, none⟩ = false)
theorem Own.sl {base : Nat} {w : World} {ad : Option Addr} {zs : List Int} (h : Own base w ad zs) : Sl w ad zs.length zs := by
  refine ⟨rfl, ?_⟩
  rcases h with rfl | ⟨g, h1, _, _, h2, _⟩
  · exact .inl rfl
  · exact .inr ⟨g, 0, h1, fun i hi => by simpa using h2 i hi⟩
theorem Own.mono {base base' : Nat} {w : World} {ad : Option Addr} {zs : List Int} (h : Own base w ad zs) (hb : base' ≤ base) : Own base' w ad zs := by
  rcases h with h | ⟨g, h1, h2, h3⟩
  · exact .inl h
  · exact .inr ⟨g, h1, Nat.le_trans hb h2, h3⟩
theorem Own.later {base : Nat} {w w' : World} {ad : Option Addr} {zs : List Int} (h : Own base w ad zs) (hb : Below w.heap.size w w') : Own base w' ad zs := by
  rcases h with rfl | ⟨g, h1, h2, h3, h4, h5⟩
  · exact .inl rfl
  · exact .inr ⟨g, h1, h2, by have := hb.size; omega, fun i hi => cell_later hb (h4 i hi), fun i hi => by rw [hb.frozen (p := ⟨g, i, none⟩) h3]; exact h5 i hi⟩
theorem own_row {base : Nat} {w : World} {v : Value} {n : Nat} {zs : List Int} (hn : zs.length = n) (h : w.ownsRow base 3 1 v n (zs.map (Value.int .i64))) :
    ∃ ad cap, v = .slice ad n cap ∧ Own base w ad zs := by
  have H := h
  obtain ⟨h1, h2⟩ := h
  rcases h2 with ⟨rfl, rfl⟩ | ⟨g, cap, cur, rfl, hb, hg, hle, hm, hsz, htk⟩
  · exact ⟨none, 0, rfl, .inl (by cases zs with | nil => rfl | cons => simp at hn)⟩
  · refine ⟨_, cap, rfl, .inr ⟨g, rfl, hb, (H.lt g rfl).2, fun i hi => ?_, fun i hi => H.frozenAt i⟩⟩
    have hi' : i < (zs.map (Value.int .i64)).length := by simpa using hi
    have e : cur[i]? = some (.int .i64 (zs.getD i 0)) := by
      have : (zs.map (Value.int .i64))[i]? = some (.int .i64 (zs.getD i 0)) := by
        rw [List.getElem?_map, List.getElem?_eq_getElem hi, List.getD_eq_getElem?_getD, List.getElem?_eq_getElem hi]; rfl
      rw [← htk, List.getElem?_take_of_lt (by simp at hi'; omega)] at this
      simpa using this
    simp [World.cell?, hg, e]
theorem own_lit (w : World) (cs : Array Value) (zs : List Int) (h : cs.toList = zs.map (Value.int .i64)) : Own w.heap.size (w.alloc (.cells cs 3)) (some ⟨w.heap.size, 0, none⟩) zs := by
  refine .inr ⟨w.heap.size, rfl, Nat.le_refl _, by simp, fun i hi => ?_, fun i hi => by simp [go_sem]⟩
  rw [World.cell?_alloc_at _ _ _ _ rfl]
  have : cs[i]? = cs.toList[i]? := by simp
  rw [this, h, List.getElem?_map, List.getElem?_eq_getElem hi, List.getD_eq_getElem?_getD, List.getElem?_eq_getElem hi]; rfl
def OutSl (w : World) (zs : List Int) (e : Ending) (w' : World) : Prop :=
  ∃ ad cap, e = .returned (.slice ad zs.length cap) ∧ Own w.heap.size w' ad zs ∧ Below w.heap.size w w'
theorem addr_add (b off j : Nat) : (⟨b, off, none⟩ : Addr).add j = ⟨b, off + j, none⟩ := by cases j <;> simp [Addr.add]
theorem Tryz.info_int : (Tryz.prog.info? 3).map (fun i => (i.zero, i.size, i.bytes)) = some (some (.int .i64 0), 1, 8) := by kernel_rfl
theorem clone_some (b off len cap : Nat) (zs : List Int) (w : World) (hz : zs.length = len) (hlen : len * 8 ≤ 140737488355328)
    (hc : ∀ i, i < len → w.cell? ⟨b, off + i, none⟩ = some (.int .i64 (zs.getD i 0))) :
    Calls Tryz.prog 197 #[.slice (some ⟨b, off, none⟩) len cap] w (OutSl w zs) := by
  obtain ⟨i0, hi, hz0, hz1, hz2⟩ := info_parts Tryz.info_int
  have hn := Lib.run_eql_slice_nil (P := Tryz.prog)
  have hni : ∀ i, (zs.map (Value.int .i64))[i]? = (zs[i]?).map (Value.int .i64) := fun i => List.getElem?_map ..
  have HN := Lib.hid hni; clear hni
  have HC := Lib.hid hc; clear hc
  have hb1 : len ≤ maxLen := by unfold maxLen; omega
  have HZ := Lib.hid hz; clear hz
  by_cases h0 : len = 0
  · subst h0
    have hz' : zs = [] := List.eq_nil_of_length_eq_zero HZ.out
    subst hz'
    go_enter Tryz.func197, Tryz.ntmps197
    go_wp2_with (at_builtin; refine wpList_append_fits _ rfl (.tmp 5) (.tmp 6) 25 rfl w.heap.size 3 i0 1 Tryz.underlying25 hi hz1 w.heap.size 0 0 [] rfl ?own ⟨b, off, none⟩ 0 cap [] rfl rfl ?c1 ?c2 (Nat.le_refl _) ?grow)
    case own => exact World.ownsRow_made w #[] 0 (Nat.le_refl _) (by unfold maxLen; omega) rfl
    case c1 => intro j u hj; simp at hj
    case c2 => intro u hu; simp at hu
    case grow =>
      intro w' hown hgrow
      go_wp2
      go_ret
      exact ⟨_, 0, rfl, .inl rfl, ((Below.refl _ _).alloc (Nat.le_refl _) _).grown hgrow (by simp) (fun k h => by cases h; exact Nat.le_refl _)⟩
  · go_enter Tryz.func197, Tryz.ntmps197
    go_wp2_with (at_builtin; refine wpList_append_grows _ rfl (.tmp 5) (.tmp 6) 25 rfl 3 i0 (.int .i64 0) 1 8 Tryz.underlying25 hi hz0 hz1 hz2 rfl (by decide) (some ⟨w.heap.size, 0, none⟩) 0 0 [] rfl (fun h => by cases h) rfl (by intro _ _ _ _ h; simp at h) ⟨b, off, none⟩ len cap (zs.map (Value.int .i64)) rfl ?c0 ?c1 ?c2 ?b0 ?b1 ?b2 ?grow)
    case c0 => simpa using HZ.out
    case c1 =>
      intro j u hj
      rw [HN.out] at hj
      have hj' : j < zs.length := by
        rcases Nat.lt_or_ge j zs.length with h | h
        · exact h
        · rw [List.getElem?_eq_none h] at hj; cases hj
      have hj2 : u = .int .i64 (zs.getD j 0) := by
        rw [List.getElem?_eq_getElem hj'] at hj
        rw [List.getD_eq_getElem?_getD, List.getElem?_eq_getElem hj']; simpa using hj.symm
      rw [hj2]
      have := HC.out j (by rw [← HZ.out]; exact hj')
      have hbb : b < w.heap.size := block_lt_of_cell this
      rw [addr_add, World.cell?_alloc_past _ _ _ hbb]
      exact this
    case c2 => intro u hu; simp at hu; obtain ⟨n, _, rfl⟩ := hu; rfl
    case b0 => omega
    case b1 => omega
    case b2 => omega
    case grow =>
      intro v' w' hown hgrow
      go_wp2
      go_ret
      have hbel : Below w.heap.size w w' := ((Below.refl _ _).alloc (Nat.le_refl _) _).grown hgrow (by simp) (fun k h => by cases h)
      obtain ⟨ad, cp, hv, ho⟩ := own_row (zs := zs) (n := 0 + len) (by rw [HZ.out]; omega) (by simpa using hown)
      have e := HZ.out
      refine ⟨ad, cp, ?_, ho.mono (by simp), hbel⟩
      rw [e, ← Nat.zero_add len, ← hv]; rfl
theorem unpack_any (p : Int) (hU : Px.U p) (w : World) :
    Calls Tryz.prog 185 #[.int .u64 p] w (OutSl w (Px.smp p)) := by
  rcases Px.tri hU with ⟨a, b, c, h⟩ | ⟨a, h⟩ | h
  · have X := Lib.hid (Px.smp3 h)
    go_enter Tryz.func185, Tryz.ntmps185
    go_wp2_with (go_at_call 145; refine (split3 p a b c h _).mono ?_; rintro e w1 ⟨rfl, hb1⟩)
    refine (clone_some _ 0 3 _ [a, b, c] _ rfl (by omega) ?_).mono ?_
    · intro i hi
      obtain rfl | rfl | rfl : i = 0 ∨ i = 1 ∨ i = 2 := by omega
      all_goals simp [go_sem]
    rintro e w2 ⟨ad, cap, rfl, ho, hb2⟩
    go_wp2
    go_ret
    refine ⟨ad, cap, by rw [X.out]; rfl, by rw [X.out]; exact ho.mono (by have := hb1.size; simp; omega), ?_⟩
    exact ((hb1.alloc (by have := hb1.size; omega) _).trans (hb2.mono (B' := w.heap.size) (by have := hb1.size; simp; omega)))
  · have X := Lib.hid (Px.smp1 h)
    go_enter Tryz.func185, Tryz.ntmps185
    go_wp2_with (go_at_call 145; refine (split1 p a h _).mono ?_; rintro e w1 ⟨rfl, hb1⟩)
    refine (clone_some _ 0 1 _ [a] _ rfl (by omega) ?_).mono ?_
    · intro i hi
      obtain rfl : i = 0 := by omega
      all_goals simp [go_sem]
    rintro e w2 ⟨ad, cap, rfl, ho, hb2⟩
    go_wp2
    go_ret
    refine ⟨ad, cap, by rw [X.out]; rfl, by rw [X.out]; exact ho.mono (by have := hb1.size; simp; omega), ?_⟩
    exact ((hb1.alloc (by have := hb1.size; omega) _).trans (hb2.mono (B' := w.heap.size) (by have := hb1.size; simp; omega)))
  · have X := Lib.hid (Px.smp0 h)
    go_enter Tryz.func185, Tryz.ntmps185
    go_wp2_with (go_at_call 145; refine (split0 p hU h _).mono ?_; rintro e w1 ⟨rfl, hb1⟩)
    refine (clone_some _ 0 0 _ [] _ rfl (by omega) ?_).mono ?_
    · intro i hi
      omega
      
    rintro e w2 ⟨ad, cap, rfl, ho, hb2⟩
    go_wp2
    go_ret
    refine ⟨ad, cap, by rw [X.out]; rfl, by rw [X.out]; exact ho.mono (by have := hb1.size; simp; omega), ?_⟩
    exact ((hb1.alloc (by have := hb1.size; omega) _).trans (hb2.mono (B' := w.heap.size) (by have := hb1.size; simp; omega)))
theorem refUnpack_any (p : Int) (hU : Px.U p) (w : World) :
    Calls Tryz.prog 74 #[.int .u64 p] w (OutSl w (Px.smp p)) := by
  rcases Px.tri hU with ⟨a, b, c, h⟩ | ⟨a, h⟩ | h
  · have X := Lib.hid (Px.smp3 h)
    obtain ⟨hp, ha0, ha1, hb0, hb1, hc0, hc1⟩ := h
    have k3 : (p / 281474976710656 == 3) = true := by rw [beq_iff_eq]; omega
    have e1 : 0 ≤ p % 281474976710656 := by omega
    have e2 : p % 281474976710656 < 281474976710656 := by omega
    have x := Lib.hid (show [p % 281474976710656 / 4294967296, p % 281474976710656 / 65536 % 65536, p % 65536] = [a, b, c] by rw [show p % 281474976710656 / 4294967296 = a by omega, show p % 281474976710656 / 65536 % 65536 = b by omega, show p % 65536 = c by omega])
    obtain ⟨h0, h1⟩ := hU
    clear hp
    go_enter Tryz.func74, Tryz.ntmps74
    go_wp2
    go_ret
    exact ⟨_, 3, by rw [X.out]; rfl, by rw [X.out, ← x.out]; exact own_lit w _ _ rfl, (Below.refl _ _).alloc (Nat.le_refl _) _⟩
  · have X := Lib.hid (Px.smp1 h)
    obtain ⟨hp, ha0, ha1⟩ := h
    have k3 : (p / 281474976710656 == 3) = false := by rw [beq_eq_false_iff_ne]; omega
    have k1 : (p / 281474976710656 == 1) = true := by rw [beq_iff_eq]; omega
    have e1 : 0 ≤ p % 281474976710656 := by omega
    have e2 : p % 281474976710656 < 65536 := by omega
    have x := Lib.hid (show [p % 281474976710656] = [a] by rw [show p % 281474976710656 = a by omega])
    obtain ⟨h0, h1⟩ := hU
    clear hp
    go_enter Tryz.func74, Tryz.ntmps74
    go_wp2
    go_ret
    exact ⟨_, 1, by rw [X.out]; rfl, by rw [X.out, ← x.out]; exact own_lit w _ _ rfl, (Below.refl _ _).alloc (Nat.le_refl _) _⟩
  · have X := Lib.hid (Px.smp0 h)
    obtain ⟨h3, h2⟩ := h
    unfold Px.hiP at h3 h2
    unfold Px.loP at h2
    obtain ⟨h0, h1⟩ := hU
    have k3 : (p / 281474976710656 == 3) = false := by rw [beq_eq_false_iff_ne]; omega
    have e1 : 0 ≤ p % 281474976710656 := by omega
    have e2 : p % 281474976710656 < 281474976710656 := by omega
    by_cases hh : p / 281474976710656 = 1
    · have k1 : (p / 281474976710656 == 1) = true := by rw [beq_iff_eq]; omega
      have e3 : ¬ p % 281474976710656 < 65536 := by omega
      clear h3 h2 hh
      go_enter Tryz.func74, Tryz.ntmps74
      go_wp2
      go_ret
      exact ⟨none, 0, by rw [X.out]; rfl, by rw [X.out]; exact .inl rfl, Below.refl _ _⟩
    · have k1 : (p / 281474976710656 == 1) = false := by rw [beq_eq_false_iff_ne]; omega
      clear h3 h2 hh
      go_enter Tryz.func74, Tryz.ntmps74
      go_wp2
      go_ret
      exact ⟨none, 0, by rw [X.out]; rfl, by rw [X.out]; exact .inl rfl, Below.refl _ _⟩
end Pq
end Go.Proofs.YtkjkepnailamnaaGreat
namespace Go.Proofs.YtkjkepnailamnaaGreat
open Go.RowKit
set_option linter.unusedVariables false
namespace Pq
theorem format_any (c m : Int) (w : World) :
    Calls Tryz.prog 146 #[.agg #[.int .i64 c, .int .i64 m]] w fun e w' => e = .returned (.bool (Px.formatV c m)) ∧ Below w.heap.size w w' := by
  by_cases hc : c = 1 ∨ c = 3
  · by_cases h1 : 1 ≤ m
    · by_cases h2 : m ≤ 65535
      · rcases hc with rfl | rfl
        · have X := Lib.hid (show true = Px.formatV 1 m by simp [Px.formatV, h1, h2])
          go_enter Tryz.func146, Tryz.ntmps146
          go_wp2
          go_ret
          exact ⟨ret_b X.out, (Below.refl _ _).alloc (Nat.le_refl _) _⟩
        · have X := Lib.hid (show true = Px.formatV 3 m by simp [Px.formatV, h1, h2])
          go_enter Tryz.func146, Tryz.ntmps146
          go_wp2
          go_ret
          exact ⟨ret_b X.out, (Below.refl _ _).alloc (Nat.le_refl _) _⟩
      · rcases hc with rfl | rfl
        · have X := Lib.hid (show false = Px.formatV 1 m by simp [Px.formatV, h2])
          go_enter Tryz.func146, Tryz.ntmps146
          go_wp2
          go_ret
          exact ⟨ret_b X.out, (Below.refl _ _).alloc (Nat.le_refl _) _⟩
        · have X := Lib.hid (show false = Px.formatV 3 m by simp [Px.formatV, h2])
          go_enter Tryz.func146, Tryz.ntmps146
          go_wp2
          go_ret
          exact ⟨ret_b X.out, (Below.refl _ _).alloc (Nat.le_refl _) _⟩
    · rcases hc with rfl | rfl
      · have X := Lib.hid (show false = Px.formatV 1 m by simp [Px.formatV, h1])
        go_enter Tryz.func146, Tryz.ntmps146
        go_wp2
        go_ret
        exact ⟨ret_b X.out, (Below.refl _ _).alloc (Nat.le_refl _) _⟩
      · have X := Lib.hid (show false = Px.formatV 3 m by simp [Px.formatV, h1])
        go_enter Tryz.func146, Tryz.ntmps146
        go_wp2
        go_ret
        exact ⟨ret_b X.out, (Below.refl _ _).alloc (Nat.le_refl _) _⟩
  · have k1 : (c == 1) = false := by simp; omega
    have k3 : (c == 3) = false := by simp; omega
    clear hc
    have X := Lib.hid (show false = Px.formatV c m by simp only [Px.formatV, k1, k3]; rfl)
    go_enter Tryz.func146, Tryz.ntmps146
    go_wp2
    go_ret
    exact ⟨ret_b X.out, (Below.refl _ _).alloc (Nat.le_refl _) _⟩
theorem refFormat_any (c m : Int) (w : World) :
    Calls Tryz.prog 52 #[.agg #[.int .i64 c, .int .i64 m]] w fun e w' => e = .returned (.bool (Px.formatV c m)) ∧ Below w.heap.size w w' := by
  by_cases hc : c = 1 ∨ c = 3
  · by_cases h1 : 1 ≤ m
    · by_cases h2 : m < 65536
      · rcases hc with rfl | rfl
        · have X := Lib.hid (show true = Px.formatV 1 m by simp [Px.formatV, h1]; omega)
          go_enter Tryz.func52, Tryz.ntmps52
          go_wp2
          go_ret
          exact ⟨ret_b X.out, (Below.refl _ _).alloc (Nat.le_refl _) _⟩
        · have X := Lib.hid (show true = Px.formatV 3 m by simp [Px.formatV, h1]; omega)
          go_enter Tryz.func52, Tryz.ntmps52
          go_wp2
          go_ret
          exact ⟨ret_b X.out, (Below.refl _ _).alloc (Nat.le_refl _) _⟩
      · rcases hc with rfl | rfl
        · have X := Lib.hid (show false = Px.formatV 1 m by simp [Px.formatV]; omega)
          go_enter Tryz.func52, Tryz.ntmps52
          go_wp2
          go_ret
          exact ⟨ret_b X.out, (Below.refl _ _).alloc (Nat.le_refl _) _⟩
        · have X := Lib.hid (show false = Px.formatV 3 m by simp [Px.formatV]; omega)
          go_enter Tryz.func52, Tryz.ntmps52
          go_wp2
          go_ret
          exact ⟨ret_b X.out, (Below.refl _ _).alloc (Nat.le_refl _) _⟩
    · rcases hc with rfl | rfl
      · have X := Lib.hid (show false = Px.formatV 1 m by simp [Px.formatV, h1])
        go_enter Tryz.func52, Tryz.ntmps52
        go_wp2
        go_ret
        exact ⟨ret_b X.out, (Below.refl _ _).alloc (Nat.le_refl _) _⟩
      · have X := Lib.hid (show false = Px.formatV 3 m by simp [Px.formatV, h1])
        go_enter Tryz.func52, Tryz.ntmps52
        go_wp2
        go_ret
        exact ⟨ret_b X.out, (Below.refl _ _).alloc (Nat.le_refl _) _⟩
  · have k1 : (c == 1) = false := by simp; omega
    have k3 : (c == 3) = false := by simp; omega
    clear hc
    have X := Lib.hid (show false = Px.formatV c m by simp only [Px.formatV, k1, k3]; rfl)
    go_enter Tryz.func52, Tryz.ntmps52
    go_wp2
    go_ret
    exact ⟨ret_b X.out, (Below.refl _ _).alloc (Nat.le_refl _) _⟩
theorem max3 (blk off cap : Nat) (a b c : Int) (w : World)
    (c0 : w.cell? ⟨blk, off, none⟩ = some (.int .i64 a)) (c1 : w.cell? ⟨blk, off + 1, none⟩ = some (.int .i64 b)) (c2 : w.cell? ⟨blk, off + 2, none⟩ = some (.int .i64 c)) :
    Calls Tryz.prog 147 #[.slice (some ⟨blk, off, none⟩) 3 cap] w fun e w' => e = .returned (.int .i64 (max (max a b) c)) ∧ w = w' := by
  go_enter Tryz.func147, Tryz.ntmps147
  go_wp2
  go_rounds 3
  all_goals (go_ret; exact ⟨ret_i (by omega), rfl⟩)
theorem max3M (blk off cap : Nat) (a b c M : Int) (hM : Hid (max (max a b) c = M)) (w : World)
    (c0 : w.cell? ⟨blk, off, none⟩ = some (.int .i64 a)) (c1 : w.cell? ⟨blk, off + 1, none⟩ = some (.int .i64 b)) (c2 : w.cell? ⟨blk, off + 2, none⟩ = some (.int .i64 c)) :
    Calls Tryz.prog 147 #[.slice (some ⟨blk, off, none⟩) 3 cap] w fun e w' => e = .returned (.int .i64 M) ∧ w = w' :=
  (max3 blk off cap a b c w c0 c1 c2).mono fun _ _ h => by rw [← hM.out]; exact h
theorem max1 (blk off cap : Nat) (a : Int) (w : World)
    (c0 : w.cell? ⟨blk, off, none⟩ = some (.int .i64 a)) :
    Calls Tryz.prog 147 #[.slice (some ⟨blk, off, none⟩) 1 cap] w fun e w' => e = .returned (.int .i64 a) ∧ w = w' := by
  go_enter Tryz.func147, Tryz.ntmps147
  go_wp2
  go_rounds 1
  go_ret
  exact ⟨rfl, rfl⟩
theorem box_below (w : World) (cs : Array Value) (t : TypeId) {w1 : World} (hb1 : Below (w.alloc (.cells cs t)).heap.size (w.alloc (.cells cs t)) w1) : Below w.heap.size w w1 :=
  ((Below.refl _ _).alloc (Nat.le_refl _) _).trans (hb1.mono (by simp))
theorem fits3_no (p c m a b d : Int) (h : Px.Is3 p a b d) (k : ((3 : Int) == c) = false) (w : World) :
    Calls Tryz.prog 111 #[.int .u64 p, .agg #[.int .i64 c, .int .i64 m]] w fun e w' => e = .returned (.bool false) ∧ Below w.heap.size w w' := by
  go_enter Tryz.func111, Tryz.ntmps111
  go_wp2_with (go_at_call 145; refine (split3 p a b d h _).mono ?_; rintro e w1 ⟨rfl, hb1⟩)
  have d0 : w1.cell? ⟨w.heap.size, 0, none⟩ = some (.int .i64 c) := cell_later hb1 (by simp [go_sem])
  have d1 : w1.cell? ⟨w.heap.size, 1, none⟩ = some (.int .i64 m) := cell_later hb1 (by simp [go_sem])
  have hz : w.heap.size < w1.heap.size := by have := hb1.size; simp at this; omega
  go_quiet (fail)
  go_wp2
  go_ret
  exact ⟨rfl, below_drewN ((box_below w _ _ hb1).alloc (Nat.le_of_lt hz) _) _⟩
theorem fits1_no (p c m a : Int) (h : Px.Is1 p a) (k : ((1 : Int) == c) = false) (w : World) :
    Calls Tryz.prog 111 #[.int .u64 p, .agg #[.int .i64 c, .int .i64 m]] w fun e w' => e = .returned (.bool false) ∧ Below w.heap.size w w' := by
  go_enter Tryz.func111, Tryz.ntmps111
  go_wp2_with (go_at_call 145; refine (split1 p a h _).mono ?_; rintro e w1 ⟨rfl, hb1⟩)
  have d0 : w1.cell? ⟨w.heap.size, 0, none⟩ = some (.int .i64 c) := cell_later hb1 (by simp [go_sem])
  have d1 : w1.cell? ⟨w.heap.size, 1, none⟩ = some (.int .i64 m) := cell_later hb1 (by simp [go_sem])
  have hz : w.heap.size < w1.heap.size := by have := hb1.size; simp at this; omega
  go_quiet (fail)
  go_wp2
  go_ret
  exact ⟨rfl, below_drewN ((box_below w _ _ hb1).alloc (Nat.le_of_lt hz) _) _⟩
theorem fits0_no (p c m : Int) (hU : Px.U p) (h : Px.Is0 p) (k : ((0 : Int) == c) = false) (w : World) :
    Calls Tryz.prog 111 #[.int .u64 p, .agg #[.int .i64 c, .int .i64 m]] w fun e w' => e = .returned (.bool false) ∧ Below w.heap.size w w' := by
  go_enter Tryz.func111, Tryz.ntmps111
  go_wp2_with (go_at_call 145; refine (split0 p hU h _).mono ?_; rintro e w1 ⟨rfl, hb1⟩)
  have d0 : w1.cell? ⟨w.heap.size, 0, none⟩ = some (.int .i64 c) := cell_later hb1 (by simp [go_sem])
  have d1 : w1.cell? ⟨w.heap.size, 1, none⟩ = some (.int .i64 m) := cell_later hb1 (by simp [go_sem])
  have hz : w.heap.size < w1.heap.size := by have := hb1.size; simp at this; omega
  go_quiet (fail)
  go_wp2
  go_ret
  exact ⟨rfl, below_drewN ((box_below w _ _ hb1).alloc (Nat.le_of_lt hz) _) _⟩
end Pq
end Go.Proofs.YtkjkepnailamnaaGreat
namespace Go.Proofs.YtkjkepnailamnaaGreat
open Go.RowKit
set_option linter.unusedVariables false
namespace Pq
def Own3 (base : Nat) (w' : World) (g : Nat) (a b c : Int) : Prop :=
  base ≤ g ∧ g < w'.heap.size ∧ w'.cell? ⟨g, 0, none⟩ = some (.int .i64 a) ∧ w'.cell? ⟨g, 1, none⟩ = some (.int .i64 b) ∧ w'.cell? ⟨g, 2, none⟩ = some (.int .i64 c) ∧
    w'.frozen? ⟨g, 0, none⟩ = false ∧ w'.frozen? ⟨g, 1, none⟩ = false ∧ w'.frozen? ⟨g, 2, none⟩ = false
def Own1 (base : Nat) (w' : World) (g : Nat) (a : Int) : Prop :=
  base ≤ g ∧ g < w'.heap.size ∧ w'.cell? ⟨g, 0, none⟩ = some (.int .i64 a) ∧ w'.frozen? ⟨g, 0, none⟩ = false
theorem own3 {base : Nat} {w : World} {ad : Option Addr} {a b c : Int} (h : Own base w ad [a, b, c]) : ∃ g, ad = some ⟨g, 0, none⟩ ∧ Own3 base w g a b c := by
  rcases h with h | ⟨g, h1, h2, h3, h4, h5⟩
  · cases h
  · exact ⟨g, h1, h2, h3, h4 0 (by simp), h4 1 (by simp), h4 2 (by simp), h5 0 (by simp), h5 1 (by simp), h5 2 (by simp)⟩
theorem own1 {base : Nat} {w : World} {ad : Option Addr} {a : Int} (h : Own base w ad [a]) : ∃ g, ad = some ⟨g, 0, none⟩ ∧ Own1 base w g a := by
  rcases h with h | ⟨g, h1, h2, h3, h4, h5⟩
  · cases h
  · exact ⟨g, h1, h2, h3, h4 0 (by simp), h5 0 (by simp)⟩
theorem isU3 {p a b c : Int} (h : Px.Is3 p a b c) : Px.U p := by unfold Px.Is3 at h; unfold Px.U; omega
theorem isU1 {p a : Int} (h : Px.Is1 p a) : Px.U p := by unfold Px.Is1 at h; unfold Px.U; omega
theorem refUnpack3 (p a b c : Int) (h : Px.Is3 p a b c) (w : World) :
    Calls Tryz.prog 74 #[.int .u64 p] w fun e w' => ∃ g cap, e = .returned (.slice (some ⟨g, 0, none⟩) 3 cap) ∧ Own3 w.heap.size w' g a b c ∧ Below w.heap.size w w' := by
  refine (refUnpack_any p (isU3 h) w).mono fun e w' ⟨ad, cap, he, ho, hb⟩ => ?_
  rw [Px.smp3 h] at he ho
  obtain ⟨g, rfl, ho3⟩ := own3 ho
  exact ⟨g, cap, he, ho3, hb⟩
theorem refUnpack1 (p a : Int) (h : Px.Is1 p a) (w : World) :
    Calls Tryz.prog 74 #[.int .u64 p] w fun e w' => ∃ g cap, e = .returned (.slice (some ⟨g, 0, none⟩) 1 cap) ∧ Own1 w.heap.size w' g a ∧ Below w.heap.size w w' := by
  refine (refUnpack_any p (isU1 h) w).mono fun e w' ⟨ad, cap, he, ho, hb⟩ => ?_
  rw [Px.smp1 h] at he ho
  obtain ⟨g, rfl, ho1⟩ := own1 ho
  exact ⟨g, cap, he, ho1, hb⟩
theorem refUnpack0 (p : Int) (hU : Px.U p) (h : Px.Is0 p) (w : World) :
    Calls Tryz.prog 74 #[.int .u64 p] w fun e w' => ∃ ad cap, e = .returned (.slice ad 0 cap) ∧ Below w.heap.size w w' := by
  refine (refUnpack_any p hU w).mono fun e w' ⟨ad, cap, he, ho, hb⟩ => ?_
  rw [Px.smp0 h] at he
  exact ⟨ad, cap, he, hb⟩
end Pq
end Go.Proofs.YtkjkepnailamnaaGreat
namespace Go.Proofs.YtkjkepnailamnaaGreat
open Go.RowKit
namespace Pq
namespace Px
theorem fitsV_iff {p c m : Int} : fitsV p c m = (formatV c m && (((smp p).length : Int) == c && (smp p).all fun s => decide (s ≤ m))) := by
  cases hf : formatV c m
  · exact fitsV_bad hf
  · have hc := formatC hf
    unfold fitsV
    rw [hf, show ((smp p).length == c.toNat) = (((smp p).length : Int) == c) by rw [Bool.eq_iff_iff, beq_iff_eq, beq_iff_eq]; omega]
theorem fitsV3_all {p a b d c m : Int} (h : Is3 p a b d) (ha : a ≤ m) (hb : b ≤ m) (hd : d ≤ m) : fitsV p c m = (formatV c m && ((3 : Int) == c)) := by
  rw [fitsV_iff, smp3 h]; simp [ha, hb, hd]
theorem fitsV3_bad {p a b d c m : Int} (h : Is3 p a b d) (hx : m < a ∨ m < b ∨ m < d) : fitsV p c m = false := by
  rw [fitsV_iff, smp3 h]; simp; intros; omega
theorem fitsV1_all {p a c m : Int} (h : Is1 p a) (ha : a ≤ m) : fitsV p c m = (formatV c m && ((1 : Int) == c)) := by
  rw [fitsV_iff, smp1 h]; simp [ha]
theorem fitsV1_bad {p a c m : Int} (h : Is1 p a) (hx : m < a) : fitsV p c m = false := by
  rw [fitsV_iff, smp1 h]; simp; intros; omega
theorem fitsV0 {p c m : Int} (h : Is0 p) : fitsV p c m = false := by
  cases hf : formatV c m
  · exact fitsV_bad hf
  · have := formatC hf
    exact fitsV_len (by rw [smp0 h]; simp; omega)
theorem fits3_get {p a b d c m : Int} (h : Is3 p a b d) (hf : fitsV p c m = true) : c = 3 ∧ a ≤ m ∧ b ≤ m ∧ d ≤ m ∧ 1 ≤ m ∧ m ≤ 65535 := by
  rw [fitsV_iff, smp3 h] at hf
  simp at hf
  have := formatM hf.1
  omega
theorem fits1_get {p a c m : Int} (h : Is1 p a) (hf : fitsV p c m = true) : c = 1 ∧ a ≤ m ∧ 1 ≤ m ∧ m ≤ 65535 := by
  rw [fitsV_iff, smp1 h] at hf
  simp at hf
  have := formatM hf.1
  omega
theorem fits0_no {p c m : Int} (h : Is0 p) (hf : fitsV p c m = true) : False := by rw [fitsV0 h] at hf; cases hf
end Px
end Pq
end Go.Proofs.YtkjkepnailamnaaGreat
namespace Go.Proofs.YtkjkepnailamnaaGreat
open Go.RowKit
set_option linter.unusedVariables false
namespace Pq
theorem refFits3 (p c m a b d : Int) (h : Px.Is3 p a b d) (w : World) :
    Calls Tryz.prog 73 #[.int .u64 p, .agg #[.int .i64 c, .int .i64 m]] w fun e w' => e = .returned (.bool (Px.fitsV p c m)) ∧ Below w.heap.size w w' := by
  by_cases ha : m < a
  · have X := Lib.hid (Px.fitsV3_bad (c := c) h (.inl ha))
    go_enter Tryz.func73, Tryz.ntmps73
    go_wp2_with (go_at_call 74; refine (refUnpack3 p a b d h _).mono ?_; rintro e w1 ⟨g, cap, rfl, ⟨hg0, hg1, c0, c1, c2, f0, f1, f2⟩, hb1⟩)
    have d0 : w1.cell? ⟨w.heap.size, 0, none⟩ = some (.int .i64 c) := cell_later hb1 (by simp [go_sem])
    have d1 : w1.cell? ⟨w.heap.size, 1, none⟩ = some (.int .i64 m) := cell_later hb1 (by simp [go_sem])
    have hz : w.heap.size < w1.heap.size := by have := hb1.size; simp at this; omega
    have hb0 := box_below w _ _ hb1
    clear hb1
    refine wp_loop_rounds 4 ?_
    repeat any_goals (rw [rounds_succ]; go_wp2_with (first | go_quiet (fail) | (go_at_call 52; refine (refFormat_any _ _ _).mono ?_; rintro e w2 ⟨rfl, hb2⟩; have d2 : w2.cell? ⟨w.heap.size, 0, none⟩ = some (.int .i64 c) := cell_later hb2 (by simp [go_sem, d0]); have hb3 : Below w.heap.size w w2 := (by first | exact (below_drewN hb0 _).trans (hb2.mono (B' := w.heap.size) (by simp; omega)) | exact hb0.trans (hb2.mono (B' := w.heap.size) (by omega))); clear hb2)))
    all_goals go_ret
    all_goals first | exact ⟨ret_b X.out.symm, below_drewN hb0 _⟩ | exact ⟨ret_b X.out.symm, below_drewN (below_drewN hb0 _) _⟩ | exact ⟨ret_b X.out.symm, hb3⟩
  by_cases hb : m < b
  · have X := Lib.hid (Px.fitsV3_bad (c := c) h (.inr (.inl hb)))
    go_enter Tryz.func73, Tryz.ntmps73
    go_wp2_with (go_at_call 74; refine (refUnpack3 p a b d h _).mono ?_; rintro e w1 ⟨g, cap, rfl, ⟨hg0, hg1, c0, c1, c2, f0, f1, f2⟩, hb1⟩)
    have d0 : w1.cell? ⟨w.heap.size, 0, none⟩ = some (.int .i64 c) := cell_later hb1 (by simp [go_sem])
    have d1 : w1.cell? ⟨w.heap.size, 1, none⟩ = some (.int .i64 m) := cell_later hb1 (by simp [go_sem])
    have hz : w.heap.size < w1.heap.size := by have := hb1.size; simp at this; omega
    have hb0 := box_below w _ _ hb1
    clear hb1
    refine wp_loop_rounds 4 ?_
    repeat any_goals (rw [rounds_succ]; go_wp2_with (first | go_quiet (fail) | (go_at_call 52; refine (refFormat_any _ _ _).mono ?_; rintro e w2 ⟨rfl, hb2⟩; have d2 : w2.cell? ⟨w.heap.size, 0, none⟩ = some (.int .i64 c) := cell_later hb2 (by simp [go_sem, d0]); have hb3 : Below w.heap.size w w2 := (by first | exact (below_drewN hb0 _).trans (hb2.mono (B' := w.heap.size) (by simp; omega)) | exact hb0.trans (hb2.mono (B' := w.heap.size) (by omega))); clear hb2)))
    all_goals go_ret
    all_goals first | exact ⟨ret_b X.out.symm, below_drewN hb0 _⟩ | exact ⟨ret_b X.out.symm, below_drewN (below_drewN hb0 _) _⟩ | exact ⟨ret_b X.out.symm, hb3⟩
  by_cases hd : m < d
  · have X := Lib.hid (Px.fitsV3_bad (c := c) h (.inr (.inr hd)))
    go_enter Tryz.func73, Tryz.ntmps73
    go_wp2_with (go_at_call 74; refine (refUnpack3 p a b d h _).mono ?_; rintro e w1 ⟨g, cap, rfl, ⟨hg0, hg1, c0, c1, c2, f0, f1, f2⟩, hb1⟩)
    have d0 : w1.cell? ⟨w.heap.size, 0, none⟩ = some (.int .i64 c) := cell_later hb1 (by simp [go_sem])
    have d1 : w1.cell? ⟨w.heap.size, 1, none⟩ = some (.int .i64 m) := cell_later hb1 (by simp [go_sem])
    have hz : w.heap.size < w1.heap.size := by have := hb1.size; simp at this; omega
    have hb0 := box_below w _ _ hb1
    clear hb1
    refine wp_loop_rounds 4 ?_
    repeat any_goals (rw [rounds_succ]; go_wp2_with (first | go_quiet (fail) | (go_at_call 52; refine (refFormat_any _ _ _).mono ?_; rintro e w2 ⟨rfl, hb2⟩; have d2 : w2.cell? ⟨w.heap.size, 0, none⟩ = some (.int .i64 c) := cell_later hb2 (by simp [go_sem, d0]); have hb3 : Below w.heap.size w w2 := (by first | exact (below_drewN hb0 _).trans (hb2.mono (B' := w.heap.size) (by simp; omega)) | exact hb0.trans (hb2.mono (B' := w.heap.size) (by omega))); clear hb2)))
    all_goals go_ret
    all_goals first | exact ⟨ret_b X.out.symm, below_drewN hb0 _⟩ | exact ⟨ret_b X.out.symm, below_drewN (below_drewN hb0 _) _⟩ | exact ⟨ret_b X.out.symm, hb3⟩
  cases hf : Px.formatV c m
  · have X := Lib.hid (show Px.fitsV p c m = false by rw [Px.fitsV_bad hf])
    go_enter Tryz.func73, Tryz.ntmps73
    go_wp2_with (go_at_call 74; refine (refUnpack3 p a b d h _).mono ?_; rintro e w1 ⟨g, cap, rfl, ⟨hg0, hg1, c0, c1, c2, f0, f1, f2⟩, hb1⟩)
    have d0 : w1.cell? ⟨w.heap.size, 0, none⟩ = some (.int .i64 c) := cell_later hb1 (by simp [go_sem])
    have d1 : w1.cell? ⟨w.heap.size, 1, none⟩ = some (.int .i64 m) := cell_later hb1 (by simp [go_sem])
    have hz : w.heap.size < w1.heap.size := by have := hb1.size; simp at this; omega
    have hb0 := box_below w _ _ hb1
    clear hb1
    refine wp_loop_rounds 4 ?_
    repeat any_goals (rw [rounds_succ]; go_wp2_with (first | go_quiet (fail) | (go_at_call 52; refine (refFormat_any _ _ _).mono ?_; rintro e w2 ⟨rfl, hb2⟩; have d2 : w2.cell? ⟨w.heap.size, 0, none⟩ = some (.int .i64 c) := cell_later hb2 (by simp [go_sem, d0]); have hb3 : Below w.heap.size w w2 := (by first | exact (below_drewN hb0 _).trans (hb2.mono (B' := w.heap.size) (by simp; omega)) | exact hb0.trans (hb2.mono (B' := w.heap.size) (by omega))); clear hb2)))
    all_goals go_ret
    all_goals first | exact ⟨ret_b X.out.symm, below_drewN hb0 _⟩ | exact ⟨ret_b X.out.symm, below_drewN (below_drewN hb0 _) _⟩ | exact ⟨ret_b X.out.symm, hb3⟩
  cases k : ((3 : Int) == c)
  · have X := Lib.hid (show Px.fitsV p c m = false by rw [Px.fitsV3_all h (by omega) (by omega) (by omega), hf, k]; rfl)
    go_enter Tryz.func73, Tryz.ntmps73
    go_wp2_with (go_at_call 74; refine (refUnpack3 p a b d h _).mono ?_; rintro e w1 ⟨g, cap, rfl, ⟨hg0, hg1, c0, c1, c2, f0, f1, f2⟩, hb1⟩)
    have d0 : w1.cell? ⟨w.heap.size, 0, none⟩ = some (.int .i64 c) := cell_later hb1 (by simp [go_sem])
    have d1 : w1.cell? ⟨w.heap.size, 1, none⟩ = some (.int .i64 m) := cell_later hb1 (by simp [go_sem])
    have hz : w.heap.size < w1.heap.size := by have := hb1.size; simp at this; omega
    have hb0 := box_below w _ _ hb1
    clear hb1
    refine wp_loop_rounds 4 ?_
    repeat any_goals (rw [rounds_succ]; go_wp2_with (first | go_quiet (fail) | (go_at_call 52; refine (refFormat_any _ _ _).mono ?_; rintro e w2 ⟨rfl, hb2⟩; have d2 : w2.cell? ⟨w.heap.size, 0, none⟩ = some (.int .i64 c) := cell_later hb2 (by simp [go_sem, d0]); have hb3 : Below w.heap.size w w2 := (by first | exact (below_drewN hb0 _).trans (hb2.mono (B' := w.heap.size) (by simp; omega)) | exact hb0.trans (hb2.mono (B' := w.heap.size) (by omega))); clear hb2)))
    all_goals go_ret
    all_goals first | exact ⟨ret_b X.out.symm, below_drewN hb0 _⟩ | exact ⟨ret_b X.out.symm, below_drewN (below_drewN hb0 _) _⟩ | exact ⟨ret_b X.out.symm, hb3⟩
  · have X := Lib.hid (show Px.fitsV p c m = true by rw [Px.fitsV3_all h (by omega) (by omega) (by omega), hf, k]; rfl)
    go_enter Tryz.func73, Tryz.ntmps73
    go_wp2_with (go_at_call 74; refine (refUnpack3 p a b d h _).mono ?_; rintro e w1 ⟨g, cap, rfl, ⟨hg0, hg1, c0, c1, c2, f0, f1, f2⟩, hb1⟩)
    have d0 : w1.cell? ⟨w.heap.size, 0, none⟩ = some (.int .i64 c) := cell_later hb1 (by simp [go_sem])
    have d1 : w1.cell? ⟨w.heap.size, 1, none⟩ = some (.int .i64 m) := cell_later hb1 (by simp [go_sem])
    have hz : w.heap.size < w1.heap.size := by have := hb1.size; simp at this; omega
    have hb0 := box_below w _ _ hb1
    clear hb1
    refine wp_loop_rounds 4 ?_
    repeat any_goals (rw [rounds_succ]; go_wp2_with (first | go_quiet (fail) | (go_at_call 52; refine (refFormat_any _ _ _).mono ?_; rintro e w2 ⟨rfl, hb2⟩; have d2 : w2.cell? ⟨w.heap.size, 0, none⟩ = some (.int .i64 c) := cell_later hb2 (by simp [go_sem, d0]); have hb3 : Below w.heap.size w w2 := (by first | exact (below_drewN hb0 _).trans (hb2.mono (B' := w.heap.size) (by simp; omega)) | exact hb0.trans (hb2.mono (B' := w.heap.size) (by omega))); clear hb2)))
    all_goals go_ret
    all_goals first | exact ⟨ret_b X.out.symm, below_drewN hb0 _⟩ | exact ⟨ret_b X.out.symm, below_drewN (below_drewN hb0 _) _⟩ | exact ⟨ret_b X.out.symm, hb3⟩
theorem refFits1 (p c m a : Int) (h : Px.Is1 p a) (w : World) :
    Calls Tryz.prog 73 #[.int .u64 p, .agg #[.int .i64 c, .int .i64 m]] w fun e w' => e = .returned (.bool (Px.fitsV p c m)) ∧ Below w.heap.size w w' := by
  by_cases ha : m < a
  · have X := Lib.hid (Px.fitsV1_bad (c := c) h ha)
    go_enter Tryz.func73, Tryz.ntmps73
    go_wp2_with (go_at_call 74; refine (refUnpack1 p a h _).mono ?_; rintro e w1 ⟨g, cap, rfl, ⟨hg0, hg1, c0, f0⟩, hb1⟩)
    have d0 : w1.cell? ⟨w.heap.size, 0, none⟩ = some (.int .i64 c) := cell_later hb1 (by simp [go_sem])
    have d1 : w1.cell? ⟨w.heap.size, 1, none⟩ = some (.int .i64 m) := cell_later hb1 (by simp [go_sem])
    have hz : w.heap.size < w1.heap.size := by have := hb1.size; simp at this; omega
    have hb0 := box_below w _ _ hb1
    clear hb1
    refine wp_loop_rounds 2 ?_
    repeat any_goals (rw [rounds_succ]; go_wp2_with (first | go_quiet (fail) | (go_at_call 52; refine (refFormat_any _ _ _).mono ?_; rintro e w2 ⟨rfl, hb2⟩; have d2 : w2.cell? ⟨w.heap.size, 0, none⟩ = some (.int .i64 c) := cell_later hb2 (by simp [go_sem, d0]); have hb3 : Below w.heap.size w w2 := (by first | exact (below_drewN hb0 _).trans (hb2.mono (B' := w.heap.size) (by simp; omega)) | exact hb0.trans (hb2.mono (B' := w.heap.size) (by omega))); clear hb2)))
    all_goals go_ret
    all_goals first | exact ⟨ret_b X.out.symm, below_drewN hb0 _⟩ | exact ⟨ret_b X.out.symm, below_drewN (below_drewN hb0 _) _⟩ | exact ⟨ret_b X.out.symm, hb3⟩
  cases hf : Px.formatV c m
  · have X := Lib.hid (show Px.fitsV p c m = false by rw [Px.fitsV_bad hf])
    go_enter Tryz.func73, Tryz.ntmps73
    go_wp2_with (go_at_call 74; refine (refUnpack1 p a h _).mono ?_; rintro e w1 ⟨g, cap, rfl, ⟨hg0, hg1, c0, f0⟩, hb1⟩)
    have d0 : w1.cell? ⟨w.heap.size, 0, none⟩ = some (.int .i64 c) := cell_later hb1 (by simp [go_sem])
    have d1 : w1.cell? ⟨w.heap.size, 1, none⟩ = some (.int .i64 m) := cell_later hb1 (by simp [go_sem])
    have hz : w.heap.size < w1.heap.size := by have := hb1.size; simp at this; omega
    have hb0 := box_below w _ _ hb1
    clear hb1
    refine wp_loop_rounds 2 ?_
    repeat any_goals (rw [rounds_succ]; go_wp2_with (first | go_quiet (fail) | (go_at_call 52; refine (refFormat_any _ _ _).mono ?_; rintro e w2 ⟨rfl, hb2⟩; have d2 : w2.cell? ⟨w.heap.size, 0, none⟩ = some (.int .i64 c) := cell_later hb2 (by simp [go_sem, d0]); have hb3 : Below w.heap.size w w2 := (by first | exact (below_drewN hb0 _).trans (hb2.mono (B' := w.heap.size) (by simp; omega)) | exact hb0.trans (hb2.mono (B' := w.heap.size) (by omega))); clear hb2)))
    all_goals go_ret
    all_goals first | exact ⟨ret_b X.out.symm, below_drewN hb0 _⟩ | exact ⟨ret_b X.out.symm, below_drewN (below_drewN hb0 _) _⟩ | exact ⟨ret_b X.out.symm, hb3⟩
  cases k : ((1 : Int) == c)
  · have X := Lib.hid (show Px.fitsV p c m = false by rw [Px.fitsV1_all h (by omega), hf, k]; rfl)
    go_enter Tryz.func73, Tryz.ntmps73
    go_wp2_with (go_at_call 74; refine (refUnpack1 p a h _).mono ?_; rintro e w1 ⟨g, cap, rfl, ⟨hg0, hg1, c0, f0⟩, hb1⟩)
    have d0 : w1.cell? ⟨w.heap.size, 0, none⟩ = some (.int .i64 c) := cell_later hb1 (by simp [go_sem])
    have d1 : w1.cell? ⟨w.heap.size, 1, none⟩ = some (.int .i64 m) := cell_later hb1 (by simp [go_sem])
    have hz : w.heap.size < w1.heap.size := by have := hb1.size; simp at this; omega
    have hb0 := box_below w _ _ hb1
    clear hb1
    refine wp_loop_rounds 2 ?_
    repeat any_goals (rw [rounds_succ]; go_wp2_with (first | go_quiet (fail) | (go_at_call 52; refine (refFormat_any _ _ _).mono ?_; rintro e w2 ⟨rfl, hb2⟩; have d2 : w2.cell? ⟨w.heap.size, 0, none⟩ = some (.int .i64 c) := cell_later hb2 (by simp [go_sem, d0]); have hb3 : Below w.heap.size w w2 := (by first | exact (below_drewN hb0 _).trans (hb2.mono (B' := w.heap.size) (by simp; omega)) | exact hb0.trans (hb2.mono (B' := w.heap.size) (by omega))); clear hb2)))
    all_goals go_ret
    all_goals first | exact ⟨ret_b X.out.symm, below_drewN hb0 _⟩ | exact ⟨ret_b X.out.symm, below_drewN (below_drewN hb0 _) _⟩ | exact ⟨ret_b X.out.symm, hb3⟩
  · have X := Lib.hid (show Px.fitsV p c m = true by rw [Px.fitsV1_all h (by omega), hf, k]; rfl)
    go_enter Tryz.func73, Tryz.ntmps73
    go_wp2_with (go_at_call 74; refine (refUnpack1 p a h _).mono ?_; rintro e w1 ⟨g, cap, rfl, ⟨hg0, hg1, c0, f0⟩, hb1⟩)
    have d0 : w1.cell? ⟨w.heap.size, 0, none⟩ = some (.int .i64 c) := cell_later hb1 (by simp [go_sem])
    have d1 : w1.cell? ⟨w.heap.size, 1, none⟩ = some (.int .i64 m) := cell_later hb1 (by simp [go_sem])
    have hz : w.heap.size < w1.heap.size := by have := hb1.size; simp at this; omega
    have hb0 := box_below w _ _ hb1
    clear hb1
    refine wp_loop_rounds 2 ?_
    repeat any_goals (rw [rounds_succ]; go_wp2_with (first | go_quiet (fail) | (go_at_call 52; refine (refFormat_any _ _ _).mono ?_; rintro e w2 ⟨rfl, hb2⟩; have d2 : w2.cell? ⟨w.heap.size, 0, none⟩ = some (.int .i64 c) := cell_later hb2 (by simp [go_sem, d0]); have hb3 : Below w.heap.size w w2 := (by first | exact (below_drewN hb0 _).trans (hb2.mono (B' := w.heap.size) (by simp; omega)) | exact hb0.trans (hb2.mono (B' := w.heap.size) (by omega))); clear hb2)))
    all_goals go_ret
    all_goals first | exact ⟨ret_b X.out.symm, below_drewN hb0 _⟩ | exact ⟨ret_b X.out.symm, below_drewN (below_drewN hb0 _) _⟩ | exact ⟨ret_b X.out.symm, hb3⟩
theorem refFits0 (p c m : Int) (hU : Px.U p) (h : Px.Is0 p) (w : World) :
    Calls Tryz.prog 73 #[.int .u64 p, .agg #[.int .i64 c, .int .i64 m]] w fun e w' => e = .returned (.bool (Px.fitsV p c m)) ∧ Below w.heap.size w w' := by
  cases hf : Px.formatV c m
  · have X := Lib.hid (show Px.fitsV p c m = false by rw [Px.fitsV_bad hf])
    go_enter Tryz.func73, Tryz.ntmps73
    go_wp2_with (go_at_call 74; refine (refUnpack0 p hU h _).mono ?_; rintro e w1 ⟨ad, cap, rfl, hb1⟩)
    have d0 : w1.cell? ⟨w.heap.size, 0, none⟩ = some (.int .i64 c) := cell_later hb1 (by simp [go_sem])
    have d1 : w1.cell? ⟨w.heap.size, 1, none⟩ = some (.int .i64 m) := cell_later hb1 (by simp [go_sem])
    have hz : w.heap.size < w1.heap.size := by have := hb1.size; simp at this; omega
    have hb0 := box_below w _ _ hb1
    clear hb1
    refine wp_loop_rounds 1 ?_
    repeat any_goals (rw [rounds_succ]; go_wp2_with (first | go_quiet (fail) | (go_at_call 52; refine (refFormat_any _ _ _).mono ?_; rintro e w2 ⟨rfl, hb2⟩; have d2 : w2.cell? ⟨w.heap.size, 0, none⟩ = some (.int .i64 c) := cell_later hb2 (by simp [go_sem, d0]); have hb3 : Below w.heap.size w w2 := (by first | exact (below_drewN hb0 _).trans (hb2.mono (B' := w.heap.size) (by simp; omega)) | exact hb0.trans (hb2.mono (B' := w.heap.size) (by omega))); clear hb2)))
    all_goals go_ret
    all_goals first | exact ⟨ret_b X.out.symm, below_drewN hb0 _⟩ | exact ⟨ret_b X.out.symm, below_drewN (below_drewN hb0 _) _⟩ | exact ⟨ret_b X.out.symm, hb3⟩
  have k : ((0 : Int) == c) = false := by
    have := Px.formatC hf
    rw [beq_eq_false_iff_ne]; omega
  · have X := Lib.hid (Px.fitsV0 (c := c) (m := m) h)
    go_enter Tryz.func73, Tryz.ntmps73
    go_wp2_with (go_at_call 74; refine (refUnpack0 p hU h _).mono ?_; rintro e w1 ⟨ad, cap, rfl, hb1⟩)
    have d0 : w1.cell? ⟨w.heap.size, 0, none⟩ = some (.int .i64 c) := cell_later hb1 (by simp [go_sem])
    have d1 : w1.cell? ⟨w.heap.size, 1, none⟩ = some (.int .i64 m) := cell_later hb1 (by simp [go_sem])
    have hz : w.heap.size < w1.heap.size := by have := hb1.size; simp at this; omega
    have hb0 := box_below w _ _ hb1
    clear hb1
    refine wp_loop_rounds 1 ?_
    repeat any_goals (rw [rounds_succ]; go_wp2_with (first | go_quiet (fail) | (go_at_call 52; refine (refFormat_any _ _ _).mono ?_; rintro e w2 ⟨rfl, hb2⟩; have d2 : w2.cell? ⟨w.heap.size, 0, none⟩ = some (.int .i64 c) := cell_later hb2 (by simp [go_sem, d0]); have hb3 : Below w.heap.size w w2 := (by first | exact (below_drewN hb0 _).trans (hb2.mono (B' := w.heap.size) (by simp; omega)) | exact hb0.trans (hb2.mono (B' := w.heap.size) (by omega))); clear hb2)))
    all_goals go_ret
    all_goals first | exact ⟨ret_b X.out.symm, below_drewN hb0 _⟩ | exact ⟨ret_b X.out.symm, below_drewN (below_drewN hb0 _) _⟩ | exact ⟨ret_b X.out.symm, hb3⟩
theorem refFits_any (p c m : Int) (hU : Px.U p) (w : World) :
    Calls Tryz.prog 73 #[.int .u64 p, .agg #[.int .i64 c, .int .i64 m]] w fun e w' => e = .returned (.bool (Px.fitsV p c m)) ∧ Below w.heap.size w w' := by
  rcases Px.tri hU with ⟨a, b, d, h⟩ | ⟨a, h⟩ | h
  · exact refFits3 p c m a b d h w
  · exact refFits1 p c m a h w
  · exact refFits0 p c m hU h w
end Pq
end Go.Proofs.YtkjkepnailamnaaGreat
namespace Go.Proofs.YtkjkepnailamnaaGreat
open Go.RowKit
set_option linter.unusedVariables false
namespace Nu
def I (n : Int) : Prop := -9223372036854775808 ≤ n ∧ n ≤ 9223372036854775807
def dig (b n : Int) : List Int :=
  if h : 2 ≤ b ∧ b ≤ n then n % b :: dig b (n / b) else [n % b]
termination_by n.toNat
decreasing_by
  have h1 : 0 ≤ n / b := Int.ediv_nonneg (by omega) (by omega)
  have h2 : n / b < n := Int.ediv_lt_self_of_pos_of_ne_one (by omega) (by omega)
  omega
theorem dig_more {b n : Int} (h2 : 2 ≤ b) (h : b ≤ n) : dig b n = n % b :: dig b (n / b) := by rw [dig, dif_pos ⟨h2, h⟩]
theorem dig_last {b n : Int} (h : n < b) : dig b n = [n % b] := by rw [dig, dif_neg (by omega)]
theorem dig_ne (b n : Int) : dig b n ≠ [] := by rw [dig]; split <;> simp
theorem dig_lt {b : Int} (hb : 0 < b) (n : Int) : ∀ x ∈ dig b n, 0 ≤ x ∧ x < b := by
  induction n using dig.induct (b := b) with
  | case1 n h ih =>
    rw [dig_more h.1 h.2]
    intro x hx
    rcases List.mem_cons.1 hx with rfl | hx
    · exact ⟨Int.emod_nonneg _ (by omega), Int.emod_lt_of_pos _ hb⟩
    · exact ih x hx
  | case2 n h =>
    rw [dig, dif_neg h]
    intro x hx
    obtain rfl : x = n % b := by simpa using hx
    exact ⟨Int.emod_nonneg _ (by omega), Int.emod_lt_of_pos _ hb⟩
theorem dig_len {b : Int} (h2 : 2 ≤ b) : ∀ (k : Nat) (n : Int), n < 2 ^ k → (dig b n).length ≤ k + 1 := by
  intro k
  induction k with
  | zero => intro n h; rw [dig_last (by simp at h; omega)]; simp
  | succ k ih =>
    intro n h
    by_cases hb : b ≤ n
    · rw [dig_more h2 hb]
      have : n / b < 2 ^ k := by
        have e : (2 : Int) ^ (k + 1) = 2 ^ k * 2 := by rw [Int.pow_succ]
        rw [e] at h
        refine Int.ediv_lt_of_lt_mul (by omega) (Int.lt_of_lt_of_le h ?_)
        exact Int.mul_le_mul_of_nonneg_left h2 (Int.pow_nonneg (by omega))
      have := ih _ this
      simp; omega
    · rw [dig_last (by omega)]; simp
theorem dig_len64 {b n : Int} (h2 : 2 ≤ b) (h : n ≤ 18446744073709551615) : (dig b n).length ≤ 65 := by
  have e : (2 : Int) ^ 64 = 18446744073709551616 := by decide
  exact dig_len h2 64 n (by rw [e]; omega)
end Nu
end Go.Proofs.YtkjkepnailamnaaGreat
namespace Go.Proofs.YtkjkepnailamnaaGreat
open Go.RowKit
set_option linter.unusedVariables false
def Nu.stepV (n c most : Int) : Int × Int :=
  if c < 48 ∨ 57 < c then (0, 3) else if most / 10 < n ∨ (n = most / 10 ∧ most % 10 < c - 48) then (0, 4) else (10 * n + (c - 48), 0)
theorem ret_step {a b : Int} {t : Int × Int} (h : t = (a, b)) : Ending.returned (.tuple #[.int .i64 a, .int .i64 b]) = .returned (.tuple #[.int .i64 t.1, .int .i64 t.2]) := by rw [h]
def StepR (n c most : Int) (w : World) (e : Ending) (w' : World) : Prop := e = .returned (.tuple #[.int .i64 (Nu.stepV n c most).1, .int .i64 (Nu.stepV n c most).2]) ∧ w = w'
theorem step_any (n c most : Int) (n0 : 0 ≤ n) (n1 : n ≤ most) (m1 : most ≤ 4611686018427387903) (c0 : 0 ≤ c) (c1 : c ≤ 255) (w : World) :
    Calls Tryz.prog 207 #[.int .i64 n, .int .u8 c, .int .i64 most] w (StepR n c most w) := by
  by_cases h1 : c < 48
  · have X := Lib.hid (show Nu.stepV n c most = (0, 3) by unfold Nu.stepV; rw [if_pos (.inl h1)])
    go_enter Tryz.func207, Tryz.ntmps207
    go_wp2
    go_ret2
    exact ⟨ret_step X.out, rfl⟩
  by_cases h2 : 57 < c
  · have X := Lib.hid (show Nu.stepV n c most = (0, 3) by unfold Nu.stepV; rw [if_pos (.inr h2)])
    go_enter Tryz.func207, Tryz.ntmps207
    go_wp2
    go_ret2
    exact ⟨ret_step X.out, rfl⟩
  have hs : ¬ (c < 48 ∨ 57 < c) := by omega
  by_cases h3 : most / 10 < n
  · have X := Lib.hid (show Nu.stepV n c most = (0, 4) by unfold Nu.stepV; rw [if_neg hs, if_pos (.inl h3)])
    clear hs
    go_enter Tryz.func207, Tryz.ntmps207
    go_wp2
    go_ret2
    exact ⟨ret_step X.out, rfl⟩
  by_cases h4 : n = most / 10
  · by_cases h5 : most % 10 < c - 48
    · have X := Lib.hid (show Nu.stepV n c most = (0, 4) by unfold Nu.stepV; rw [if_neg hs, if_pos (.inr ⟨h4, h5⟩)])
      have k4 : (n == most / 10) = true := by simp [h4]
      clear hs h4
      go_enter Tryz.func207, Tryz.ntmps207
      go_wp2
      go_ret2
      exact ⟨ret_step X.out, rfl⟩
    · have X := Lib.hid (show Nu.stepV n c most = (10 * n + (c - 48), 0) by unfold Nu.stepV; rw [if_neg hs, if_neg (by omega)])
      have k4 : (n == most / 10) = true := by simp [h4]
      have k5 : decide (most % 10 < c - 48) = false := by simp; omega
      clear hs h4
      go_enter Tryz.func207, Tryz.ntmps207
      go_wp2
      go_ret2
      exact ⟨ret_step X.out, rfl⟩
  · have X := Lib.hid (show Nu.stepV n c most = (10 * n + (c - 48), 0) by unfold Nu.stepV; rw [if_neg hs, if_neg (by omega)])
    have k4 : (n == most / 10) = false := by simp [h4]
    clear hs h4
    go_enter Tryz.func207, Tryz.ntmps207
    go_wp2
    go_ret2
    exact ⟨ret_step X.out, rfl⟩
theorem refStep_any (n c most : Int) (n0 : 0 ≤ n) (n1 : n ≤ most) (m1 : most ≤ 4611686018427387903) (c0 : 0 ≤ c) (c1 : c ≤ 255) (w : World) :
    Calls Tryz.prog 139 #[.int .i64 n, .int .u8 c, .int .i64 most] w (StepR n c most w) := by
  by_cases h1 : c < 48
  · have X := Lib.hid (show Nu.stepV n c most = (0, 3) by unfold Nu.stepV; rw [if_pos (.inl h1)])
    go_enter Tryz.func139, Tryz.ntmps139
    go_wp2
    go_ret2
    exact ⟨ret_step X.out, rfl⟩
  by_cases h2 : 57 < c
  · have X := Lib.hid (show Nu.stepV n c most = (0, 3) by unfold Nu.stepV; rw [if_pos (.inr h2)])
    go_enter Tryz.func139, Tryz.ntmps139
    go_wp2
    go_ret2
    exact ⟨ret_step X.out, rfl⟩
  have hs : ¬ (c < 48 ∨ 57 < c) := by omega
  by_cases h3 : most / 10 < n
  · have X := Lib.hid (show Nu.stepV n c most = (0, 4) by unfold Nu.stepV; rw [if_neg hs, if_pos (.inl h3)])
    clear hs
    go_enter Tryz.func139, Tryz.ntmps139
    go_wp2
    go_ret2
    exact ⟨ret_step X.out, rfl⟩
  by_cases h4 : n = most / 10
  · by_cases h5 : most % 10 < c - 48
    · have X := Lib.hid (show Nu.stepV n c most = (0, 4) by unfold Nu.stepV; rw [if_neg hs, if_pos (.inr ⟨h4, h5⟩)])
      have k4 : (n == most / 10) = true := by simp [h4]
      clear hs h4
      go_enter Tryz.func139, Tryz.ntmps139
      go_wp2
      go_ret2
      exact ⟨ret_step X.out, rfl⟩
    · have X := Lib.hid (show Nu.stepV n c most = (n * 10 + (c - 48), 0) by unfold Nu.stepV; rw [if_neg hs, if_neg (by omega), Int.mul_comm])
      have k4 : (n == most / 10) = true := by simp [h4]
      have k5 : decide (most % 10 < c - 48) = false := by simp; omega
      clear hs h4
      go_enter Tryz.func139, Tryz.ntmps139
      go_wp2
      go_ret2
      exact ⟨ret_step X.out, rfl⟩
  · have X := Lib.hid (show Nu.stepV n c most = (n * 10 + (c - 48), 0) by unfold Nu.stepV; rw [if_neg hs, if_neg (by omega), Int.mul_comm])
    have k4 : (n == most / 10) = false := by simp [h4]
    clear hs h4
    go_enter Tryz.func139, Tryz.ntmps139
    go_wp2
    go_ret2
    exact ⟨ret_step X.out, rfl⟩
end Go.Proofs.YtkjkepnailamnaaGreat
namespace Go.Proofs.YtkjkepnailamnaaGreat
open Go.RowKit
set_option linter.unusedVariables false
def bytesOf (s : ByteArray) : List Int := s.data.toList.map fun c => (c.toNat : Int)
theorem bytesOf_length (s : ByteArray) : (bytesOf s).length = s.size := by simp [bytesOf]
theorem bytesOf_drop (s : ByteArray) (k : Nat) (h : k < s.size) : (bytesOf s).drop k = (s[k].toNat : Int) :: (bytesOf s).drop (k + 1) := by
  rw [List.drop_eq_getElem_cons (by rw [bytesOf_length]; exact h)]
  simp [bytesOf, ByteArray.getElem_eq_getElem_data]
theorem Nu.stepV_le (n c most : Int) (n0 : 0 ≤ n) (n1 : n ≤ most) (h : (Nu.stepV n c most).2 = 0) : 0 ≤ (Nu.stepV n c most).1 ∧ (Nu.stepV n c most).1 ≤ most := by
  unfold Nu.stepV at *
  split at h
  · simp at h
  · split at h
    · simp at h
    · rename_i h1 h2
      rw [if_neg h1, if_neg h2]
      simp only []
      omega
theorem step_two (n c most : Int) (n0 : 0 ≤ n) (n1 : n ≤ most) (m1 : most ≤ 4611686018427387903) (c0 : 0 ≤ c) (c1 : c ≤ 255) (m e : Int) (h : Nu.stepV n c most = (m, e)) (w : World) :
    Calls Tryz.prog 207 #[.int .i64 n, .int .u8 c, .int .i64 most] w fun r w' => r = .returned (.tuple #[.int .i64 m, .int .i64 e]) ∧ w = w' := by
  refine (step_any n c most n0 n1 m1 c0 c1 w).mono ?_
  rintro r w' ⟨rfl, rfl⟩
  rw [h]; exact ⟨rfl, rfl⟩
theorem refStep_two (n c most : Int) (n0 : 0 ≤ n) (n1 : n ≤ most) (m1 : most ≤ 4611686018427387903) (c0 : 0 ≤ c) (c1 : c ≤ 255) (m e : Int) (h : Nu.stepV n c most = (m, e)) (w : World) :
    Calls Tryz.prog 139 #[.int .i64 n, .int .u8 c, .int .i64 most] w fun r w' => r = .returned (.tuple #[.int .i64 m, .int .i64 e]) ∧ w = w' := by
  refine (refStep_any n c most n0 n1 m1 c0 c1 w).mono ?_
  rintro r w' ⟨rfl, rfl⟩
  rw [h]; exact ⟨rfl, rfl⟩
def Nu.parseF (most : Int) : Int → List Int → Int × Int
  | n, [] => (n, 0)
  | n, c :: cs => if (Nu.stepV n c most).2 = 0 then Nu.parseF most (Nu.stepV n c most).1 cs else (0, (Nu.stepV n c most).2)
def Nu.parseV (l : List Int) (most : Int) : Int × Int := if l = [] then (0, 3) else Nu.parseF most 0 l
end Go.Proofs.YtkjkepnailamnaaGreat
namespace Go.Proofs.YtkjkepnailamnaaGreat
open Go.RowKit
set_option linter.unusedVariables false
namespace Tk
def blank (c : Int) : Bool := decide (c = 32 ∨ (9 ≤ c ∧ c ≤ 13))
def line (c : Int) : Bool := decide (c = 10 ∨ c = 13)
structure S where
  k : Nat
  n : Int
  e : Int
  bg : Bool
def new : S := ⟨0, 0, 9, false⟩
def put (m : Int) (s : S) (c : Int) : S :=
  if s.k = 4 ∨ s.k = 5 then s
  else if s.k = 1 then (if line c = true then ⟨0, s.n, s.e, s.bg⟩ else s)
  else if s.k = 3 then (if line c = true then ⟨4, s.n, 0, s.bg⟩ else s)
  else if c = 35 then ⟨s.k + 1, s.n, s.e, s.bg⟩
  else if blank c = true then (if s.k = 0 then s else ⟨4, s.n, 0, s.bg⟩)
  else if (Nu.stepV s.n c m).2 = 0 then ⟨2, (Nu.stepV s.n c m).1, s.e, true⟩
  else ⟨5, 0, (Nu.stepV s.n c m).2, s.bg⟩
def st (s : S) : Int := if s.k = 4 then 1 else if s.k = 5 then 2 else 0
def val (s : S) : Int × Int := if s.e = 0 then (s.n, 0) else (0, s.e)
def Good (m : Int) (s : S) : Prop :=
  s.k ≤ 5 ∧ 0 ≤ s.n ∧ s.n ≤ m ∧ (s.k ≤ 3 → s.e = 9) ∧ (s.k = 4 → s.e = 0) ∧ (s.k = 5 → (s.e = 3 ∨ s.e = 4)) ∧ (s.k ≤ 1 → s.n = 0 ∧ s.bg = false) ∧ (2 ≤ s.k → s.k ≤ 4 → s.bg = true)
theorem stepV_e (n c m : Int) : (Nu.stepV n c m).2 = 0 ∨ (Nu.stepV n c m).2 = 3 ∨ (Nu.stepV n c m).2 = 4 := by
  unfold Nu.stepV; split
  · exact .inr (.inl rfl)
  · split
    · exact .inr (.inr rfl)
    · exact .inl rfl
theorem good_new {m : Int} (h : 0 ≤ m) : Good m new := by unfold Good new; simp; exact h
theorem good_put {m : Int} {s : S} (h : Good m s) (c : Int) : Good m (put m s c) := by
  have H := h
  obtain ⟨h1, h2, h3, h4, h5, h6, h7, h8⟩ := h
  obtain ⟨k, n, e, bg⟩ := s
  simp only at h1 h2 h3 h4 h5 h6 h7 h8
  unfold put; simp only
  split
  · exact H
  rename_i hk
  split
  · rename_i hk1; subst hk1
    split
    · exact ⟨by simp, h2, h3, fun _ => h4 (by omega), fun h => absurd h (by simp), fun h => absurd h (by simp), fun _ => h7 (by omega), fun h => absurd h (by simp)⟩
    · exact H
  split
  · rename_i hk1 hk3; subst hk3
    split
    · exact ⟨by simp, h2, h3, fun h => absurd h (by simp), fun _ => rfl, fun h => absurd h (by simp), fun h => absurd h (by simp), fun _ _ => h8 (by omega) (by omega)⟩
    · exact H
  rename_i hk1 hk3
  split
  · refine ⟨by simp; omega, h2, h3, fun _ => h4 (by omega), fun h => absurd h (by simp; omega), fun h => absurd h (by simp; omega), fun hh => h7 (by simp at hh; omega), fun hh _ => h8 (by simp at hh; omega) (by omega)⟩
  split
  · split
    · exact H
    · exact ⟨by simp, h2, h3, fun h => absurd h (by simp), fun _ => rfl, fun h => absurd h (by simp), fun h => absurd h (by simp), fun _ _ => h8 (by omega) (by omega)⟩
  split
  · rename_i he
    obtain ⟨g1, g2⟩ := Nu.stepV_le n c m h2 h3 he
    exact ⟨by simp, g1, g2, fun _ => h4 (by omega), fun h => absurd h (by simp), fun h => absurd h (by simp), fun h => absurd h (by simp), fun _ _ => rfl⟩
  · rename_i he
    exact ⟨by simp, by simp, by simp; omega, fun h => absurd h (by simp), fun h => absurd h (by simp), fun _ => (stepV_e n c m).resolve_left he, fun h => absurd h (by simp), fun _ h => absurd h (by simp)⟩
end Tk
end Go.Proofs.YtkjkepnailamnaaGreat
namespace Go.Proofs.YtkjkepnailamnaaGreat
set_option linter.unusedVariables false
namespace Bt
def bytesV (w : Int) : Int := if w < 1 ∨ 4096 < w then 0 else (w + 7) / 8
def eight (c : Int) : List Int := [c / 128 % 2, c / 64 % 2, c / 32 % 2, c / 16 % 2, c / 8 % 2, c / 4 % 2, c / 2 % 2, c % 2]
theorem eight_len (c : Int) : (eight c).length = 8 := rfl
def bitsOf : List Int → List Int
  | [] => []
  | c :: l => eight c ++ bitsOf l
theorem bitsOf_len : ∀ l : List Int, (bitsOf l).length = 8 * l.length
  | [] => rfl
  | c :: l => by simp [bitsOf, bitsOf_len l, eight_len]; omega
theorem bitsOf_append : ∀ a b : List Int, bitsOf (a ++ b) = bitsOf a ++ bitsOf b
  | [], b => rfl
  | c :: a, b => by simp [bitsOf, bitsOf_append a b]
def num : List Int → Int → Int
  | [], n => n
  | x :: l, n => num l (n * 2 + x)
theorem num_append : ∀ (a b : List Int) (n : Int), num (a ++ b) n = num b (num a n)
  | [], b, n => rfl
  | x :: a, b, n => by simp [num, num_append a b]
def pad (l : List Int) : List Int := l ++ List.replicate (8 - l.length) 0
theorem pad_len (l : List Int) (h : l.length ≤ 8) : (pad l).length = 8 := by simp [pad]; omega
def packB (l : List Int) : List Int :=
  if h : l = [] then [] else num (pad (l.take 8)) 0 :: packB (l.drop 8)
termination_by l.length
decreasing_by have : l.length ≠ 0 := fun e => h (List.eq_nil_of_length_eq_zero e); simp; omega
theorem packB_nil : packB [] = [] := by rw [packB]; simp
theorem packB_more {l : List Int} (h : l ≠ []) : packB l = num (pad (l.take 8)) 0 :: packB (l.drop 8) := by rw [packB, dif_neg h]
def Ones (l : List Int) : Prop := ∀ x ∈ l, x = 0 ∨ x = 1
instance (l : List Int) : Decidable (Ones l) := by unfold Ones; exact inferInstance
def packOk (l : List Int) : Bool := decide (1 ≤ l.length) && decide (l.length ≤ 4096) && decide (Ones l)
def packV (l : List Int) : List Int := if packOk l then packB l else []
def packE (l : List Int) : Int := if packOk l then 0 else 1
def rowE (n : Nat) (w : Int) : Int := if bytesV w = 0 then 1 else if (n : Int) < bytesV w then 6 else 0
def unpackV (zs : List Int) (w : Int) : List Int := if rowE zs.length w = 0 then (bitsOf zs).take w.toNat else []
end Bt
end Go.Proofs.YtkjkepnailamnaaGreat
namespace Go.Proofs.YtkjkepnailamnaaGreat
open Go.RowKit
set_option linter.unusedVariables false
namespace Bt
theorem ret_i {k : IntKind} {a b : Int} (h : a = b) : Ending.returned (.int k a) = .returned (.int k b) := by rw [h]
theorem bytes_any (n : Int) (w : World) : Calls Tryz.prog 199 #[.int .i64 n] w fun e w' => e = .returned (.int .i64 (bytesV n)) ∧ w = w' := by
  by_cases h1 : n < 1
  · have X := Lib.hid (show 0 = bytesV n by unfold bytesV; rw [if_pos (.inl h1)])
    go_enter Tryz.func199, Tryz.ntmps199
    go_wp2
    go_ret
    exact ⟨ret_i X.out, rfl⟩
  · by_cases h2 : 4096 < n
    · have X := Lib.hid (show 0 = bytesV n by unfold bytesV; rw [if_pos (.inr h2)])
      go_enter Tryz.func199, Tryz.ntmps199
      go_wp2
      go_ret
      exact ⟨ret_i X.out, rfl⟩
    · have X := Lib.hid (show (n + 8 - 1) / 8 = bytesV n by unfold bytesV; rw [if_neg (by omega)]; omega)
      have h3 : 1 ≤ n := by omega
      have h4 : n ≤ 4096 := by omega
      go_enter Tryz.func199, Tryz.ntmps199
      go_wp2
      go_ret
      exact ⟨ret_i X.out, rfl⟩
theorem refBytes_any (n : Int) (w : World) : Calls Tryz.prog 179 #[.int .i64 n] w fun e w' => e = .returned (.int .i64 (bytesV n)) ∧ w = w' := by
  by_cases h1 : n < 1
  · have X := Lib.hid (show 0 = bytesV n by unfold bytesV; rw [if_pos (.inl h1)])
    go_enter Tryz.func179, Tryz.ntmps179
    go_wp2
    go_ret
    exact ⟨ret_i X.out, rfl⟩
  · by_cases h2 : 4096 < n
    · have X := Lib.hid (show 0 = bytesV n by unfold bytesV; rw [if_pos (.inr h2)])
      go_enter Tryz.func179, Tryz.ntmps179
      go_wp2
      go_ret
      exact ⟨ret_i X.out, rfl⟩
    · have h3 : 1 ≤ n := by omega
      have h4 : n ≤ 4096 := by omega
      by_cases h5 : 0 < n % 8
      · have X := Lib.hid (show n / 8 + 1 = bytesV n by unfold bytesV; rw [if_neg (by omega)]; omega)
        go_enter Tryz.func179, Tryz.ntmps179
        go_wp2
        go_ret
        exact ⟨ret_i X.out, rfl⟩
      · have X := Lib.hid (show n / 8 = bytesV n by unfold bytesV; rw [if_neg (by omega)]; omega)
        go_enter Tryz.func179, Tryz.ntmps179
        go_wp2
        go_ret
        exact ⟨ret_i X.out, rfl⟩
end Bt
end Go.Proofs.YtkjkepnailamnaaGreat
namespace Go.Proofs.YtkjkepnailamnaaGreat
open Go.RowKit
set_option linter.unusedVariables false
namespace Pq
def Alike (x y : List Int) (k : Nat) : Prop := ∀ i, i < k → x.getD i 0 = y.getD i 0
theorem alike_all {x y : List Int} {n : Nat} (hx : x.length = n) (hy : y.length = n) (h : Alike x y n) : x = y := by
  refine List.ext_getElem (by rw [hx, hy]) fun i h1 h2 => ?_
  have := h i (by omega)
  rw [List.getD_eq_getElem?_getD, List.getD_eq_getElem?_getD, List.getElem?_eq_getElem h1, List.getElem?_eq_getElem h2] at this
  simpa using this
theorem alike_succ {x y : List Int} {k : Nat} (h : Alike x y k) (e : x.getD k 0 = y.getD k 0) : Alike x y (k + 1) := fun i hi => by
  rcases Nat.lt_or_ge i k with h1 | h1
  · exact h i h1
  · obtain rfl : i = k := by omega
    exact e
end Pq
end Go.Proofs.YtkjkepnailamnaaGreat
