/- A range over a function whose iterator keeps state of its own in cells: what the iterator owes, what the loop's body owes, and the law that joins them. No condition beyond what is named. -/
import Derived.RangeFuncNested
import Derived.RangeFuncBound
import Derived.RangeFuncCalls
import Derived.RangeFuncLeaves
import Derived.Shelf.Abstract
import Derived.Shelf.RegionOpen
import Derived.WalkKit
import Derived.OwnWalkIn
import Derived.OwnWalk
import Derived.TacticsInMore
import Derived.LoopNIn
import Derived.LoopIn
import Derived.Maps.AppendAt
import Derived.Handy
import Derived.WalkSpells
import Derived.WalkLawsBesides
import Derived.Lib.Hide
import Derived.Laws.OwnMore
import Derived.Deep.AppendLies
import Derived.Test.YtpkikhoicobmcaaRows
import Derived.Test.YtpkikhoicobmcaaChecked
import Derived.BigQuiet
import Derived.Deep.QuietTactic
import Derived.Deep.DeepCutAuto
import Derived.LoopN
import Derived.Laws.EntriesVeiled
import Derived.Deep.CutBlock
import Derived.Test.YtpkikhoicobmcaaProg
import Derived.Deep.LoopGhost
import Derived.RegionTactic
import Derived.Lib.Walk
import Derived.Sort.WalkB12
import Derived.Lib.SlicesMore
import Derived.Lib.OwnBridge
import Derived.Deep.CutRange
import Derived.Deep.RegionHeld3
import Derived.Deep.RegionLaw
import Derived.Shelf.Spec.SlicesInsert
import Derived.Shelf.Spec.SlicesInsertGrow
namespace Go.Proofs.Ytpkikhoicobmcaa
open Go.RowKit

/-- All that lay outside Z lies as it lay. -/
structure Sep (Z : Nat → Prop) (A B : World) : Prop where
  os : B.os = A.os
  tape : B.tape = A.tape
  output : B.output = A.output
  size : A.heap.size ≤ B.heap.size
  block : ∀ k, k < A.heap.size → ¬ Z k → B.heap[k]? = A.heap[k]?
/-- All that lay in Z lies as it lay. -/
structure Hold (Z : Nat → Prop) (A B : World) : Prop where
  size : A.heap.size ≤ B.heap.size
  block : ∀ k, k < A.heap.size → Z k → B.heap[k]? = A.heap[k]?

theorem Sep.refl (Z : Nat → Prop) (A : World) : Sep Z A A := ⟨rfl, rfl, rfl, Nat.le_refl _, fun _ _ _ => rfl⟩
theorem Sep.trans {Z : Nat → Prop} {A B C : World} (h : Sep Z A B) (k : Sep Z B C) : Sep Z A C :=
  ⟨k.os.trans h.os, k.tape.trans h.tape, k.output.trans h.output, Nat.le_trans h.size k.size, fun i hi hz => (k.block i (Nat.lt_of_lt_of_le hi h.size) hz).trans (h.block i hi hz)⟩
theorem Sep.mono {Z Z' : Nat → Prop} {A B : World} (h : Sep Z A B) (hz : ∀ k, Z k → Z' k) : Sep Z' A B :=
  ⟨h.os, h.tape, h.output, h.size, fun k hk hn => h.block k hk (fun e => hn (hz k e))⟩
theorem Sep.alloc (Z : Nat → Prop) (A : World) (o : Obj) : Sep Z A (A.alloc o) := ⟨rfl, rfl, rfl, by simp, fun k hk _ => Below.heap_alloc _ _ _ hk⟩
theorem Sep.setCell {Z : Nat → Prop} (A : World) {b o : Nat} {p : Option Nat} (hz : Z b) (v : Value) : Sep Z A (A.setCell ⟨b, o, p⟩ v) :=
  ⟨rfl, rfl, rfl, by simp [World.setCell], fun k _ hn => Below.heap_setCell _ _ _ _ (fun e => hn (e ▸ hz))⟩
theorem Sep.putObj {Z : Nat → Prop} (A : World) {b : Nat} (hz : Z b) (o : Obj) : Sep Z A (A.putObj b o) :=
  ⟨rfl, rfl, rfl, by simp, fun k _ hn => World.putObj_heap_other (fun e => hn (e ▸ hz))⟩
theorem Sep.drewN (Z : Nat → Prop) (A : World) (m : Nat) : Sep Z A (A.drewN m) := ⟨rfl, rfl, rfl, Nat.le_refl _, fun _ _ _ => rfl⟩
theorem Sep.drew (Z : Nat → Prop) (A : World) : Sep Z A A.drew := ⟨rfl, rfl, rfl, Nat.le_refl _, fun _ _ _ => rfl⟩
theorem Sep.below {Z : Nat → Prop} {A B : World} {m : Nat} (h : Sep Z A B) (hm : m ≤ A.heap.size) (hz : ∀ k, k < m → ¬ Z k) : Below m A B :=
  ⟨h.os, h.tape, h.output, h.size, fun k hk => h.block k (by omega) (hz k hk)⟩
theorem Sep.cell {Z : Nat → Prop} {A B : World} (h : Sep Z A B) {b o : Nat} {p : Option Nat} {v : Value} (hb : ¬ Z b) (hc : A.cell? ⟨b, o, p⟩ = some v) : B.cell? ⟨b, o, p⟩ = some v :=
  (World.cell?_of_block (w := A) (a := ⟨b, o, p⟩) (h.block b (block_lt_of_cell hc) hb)).trans hc

theorem Sep.frozen {Z : Nat → Prop} {A B : World} (h : Sep Z A B) {b o : Nat} {p : Option Nat} (hb : ¬ Z b) (hl : b < A.heap.size) : B.frozen? ⟨b, o, p⟩ = A.frozen? ⟨b, o, p⟩ :=
  World.frozen?_of_block (w := A) (a := ⟨b, o, p⟩) (h.block b hl hb)

theorem Hold.refl (Z : Nat → Prop) (A : World) : Hold Z A A := ⟨Nat.le_refl _, fun _ _ _ => rfl⟩
theorem Hold.trans {Z : Nat → Prop} {A B C : World} (h : Hold Z A B) (k : Hold Z B C) : Hold Z A C :=
  ⟨Nat.le_trans h.size k.size, fun i hi hz => (k.block i (Nat.lt_of_lt_of_le hi h.size) hz).trans (h.block i hi hz)⟩
theorem Hold.mono {Z Z' : Nat → Prop} {A B : World} (h : Hold Z A B) (hz : ∀ k, Z' k → Z k) : Hold Z' A B := ⟨h.size, fun k hk hn => h.block k hk (hz k hn)⟩
theorem Hold.alloc (Z : Nat → Prop) (A : World) (o : Obj) : Hold Z A (A.alloc o) := ⟨by simp, fun k hk _ => Below.heap_alloc _ _ _ hk⟩
theorem Hold.setCell {Z : Nat → Prop} (A : World) {b o : Nat} {p : Option Nat} (hz : ¬ Z b) (v : Value) : Hold Z A (A.setCell ⟨b, o, p⟩ v) :=
  ⟨by simp [World.setCell], fun k _ hn => Below.heap_setCell _ _ _ _ (fun e => by simp at e; subst e; exact hz hn)⟩
theorem Hold.putObj {Z : Nat → Prop} (A : World) {b : Nat} (hz : ¬ Z b) (o : Obj) : Hold Z A (A.putObj b o) :=
  ⟨by simp, fun k _ hn => World.putObj_heap_other (fun e => hz (e ▸ hn))⟩
theorem Hold.grown {Z : Nat → Prop} {A B : World} {row : Option Nat} (hg : A.grownBy B row) (hr : ∀ k, row = some k → ¬ Z k) : Hold Z A B :=
  ⟨hg.size, fun k hk hz => hg.block k hk (fun e => hr k e.symm hz)⟩
theorem Hold.below {Z : Nat → Prop} {A B : World} {m : Nat} (h : Below m A B) (hz : ∀ k, Z k → k < m) : Hold Z A B := ⟨h.size, fun k _ hn => h.block k (hz k hn)⟩
theorem Hold.drewN (Z : Nat → Prop) (A : World) (m : Nat) : Hold Z A (A.drewN m) := ⟨Nat.le_refl _, fun _ _ _ => rfl⟩
theorem Hold.cell {Z : Nat → Prop} {A B : World} (h : Hold Z A B) {b o : Nat} {p : Option Nat} {v : Value} (hb : Z b) (hc : A.cell? ⟨b, o, p⟩ = some v) : B.cell? ⟨b, o, p⟩ = some v :=
  (World.cell?_of_block (w := A) (a := ⟨b, o, p⟩) (h.block b (block_lt_of_cell hc) hb)).trans hc
theorem Hold.frozen {Z : Nat → Prop} {A B : World} (h : Hold Z A B) {b o : Nat} {p : Option Nat} (hb : Z b) (hl : b < A.heap.size) : B.frozen? ⟨b, o, p⟩ = A.frozen? ⟨b, o, p⟩ :=
  World.frozen?_of_block (w := A) (a := ⟨b, o, p⟩) (h.block b hl hb)

/-- WHAT AN ITERATOR OWES: over the blocks Z, which are its own, it hands out xs, one by one, and turns nothing else. -/
def Gives {α : Type} (F : Fence) (n : Nat) (P : Program) (g : Nat) (lb : Array Value) (encs : α → Array Value) (Z : Nat → Prop) (xs : List α) (W0 : World) : Prop :=
  ∀ (l : Nat) (J Jx : List α → World → Prop) (W : World), Hold Z W0 W →
    (∀ s A B, J s A → Sep Z A B → J s B) → (∀ s A B, Jx s A → Sep Z A B → Jx s B) →
    (∀ pre x rest W1, xs = pre ++ x :: rest → J pre W1 → YieldAt F (n - 1) P l (encs x) W1 fun e W' => Hold Z W1 W' ∧
      ((e = .returned (.bool true) ∧ J (pre ++ [x]) W') ∨ (e = .returned (.bool false) ∧ Jx (pre ++ [x]) W'))) →
    J [] W → CallsIn F n P g (#[.func (.yield l) #[] #[]] ++ lb) W fun e W' => (∃ v, e = .returned v) ∧ (J xs W' ∨ ∃ pre, pre <+: xs ∧ Jx pre W')

/-- The same of an iterator that begins behind the loop's own two blocks: Z may hold all blocks that are made from then on; Zs is what of Z it may turn itself. -/
def GivesN {α : Type} (F : Fence) (n : Nat) (P : Program) (g : Nat) (lb : Array Value) (encs : α → Array Value) (Z Zs : Nat → Prop) (xs : List α) (W0 : World) : Prop :=
  ∀ (l : Nat) (J Jx : List α → World → Prop) (W : World), W0.heap.size + 2 ≤ W.heap.size → Hold Z W0 W →
    (∀ s A B, J s A → Sep Zs A B → J s B) → (∀ s A B, Jx s A → Sep Zs A B → Jx s B) →
    (∀ pre x rest W1, xs = pre ++ x :: rest → J pre W1 → YieldAt F (n - 1) P l (encs x) W1 fun e W' => Hold Z W1 W' ∧
      ((e = .returned (.bool true) ∧ J (pre ++ [x]) W') ∨ (e = .returned (.bool false) ∧ Jx (pre ++ [x]) W'))) →
    J [] W → CallsIn F n P g (#[.func (.yield l) #[] #[]] ++ lb) W fun e W' => (∃ v, e = .returned v) ∧ (J xs W' ∨ ∃ pre, pre <+: xs ∧ Jx pre W')
theorem Gives.n {α : Type} {F : Fence} {n : Nat} {P : Program} {g : Nat} {lb : Array Value} {encs : α → Array Value} {Z : Nat → Prop} {xs : List α} {W0 : World} (h : Gives F n P g lb encs Z xs W0) : GivesN F n P g lb encs Z Z xs W0 :=
  fun l J Jx W _ => h l J Jx W

/-- How a round may be left: nothing of the iterator's and of the loop's own has turned. -/
def roundEnd {α : Type} (Z : Nat → Prop) (I : List α → World → Prop) (Ix : Code → List α → World → Prop) (xs : List α) (W : World) : Exit → Act → World → Prop
  | .normal, _, W' => Hold Z W W' ∧ I xs W'
  | .ret, _, W' => Hold Z W W' ∧ Ix .ret xs W'
  | .exit id, _, W' => Hold Z W W' ∧ Ix (.exit id) xs W'
  | .goto t, _, W' => Hold Z W W' ∧ Ix (.goto t) xs W'
  | .panic _, _, _ => False
  | .outgrown, _, _ => False

variable {F : Fence} {n : Nat} {P : Program}

theorem range_ownN {α : Type} {g : Operand} {ps : Array Tmp} {assign body : Code} {Q : Exit → Act → World → Prop} {a : Act} {w : World}
    (hro : F.round = none) (h1 : 1 ≤ n) {gf : Nat} {lb : Array Value} (hg : a.eval g = .func (.func gf) #[] lb) (hFg : F.fn gf) (eg : ∀ args w, (callFunc gf args).run P w = .ok (.enter gf args) w)
    {encs : α → Array Value} {Z Zs : Nat → Prop} {xs : List α} (hseq : GivesN F (n - 1) P gf lb encs Z Zs xs w) (hsub : ∀ k, Zs k → Z k) (nZD : ¬ Z w.heap.size) (nZL : ¬ Z (w.heap.size + 1)) (hps : ∀ x, (encs x).size = ps.size)
    (I : List α → World → Prop) (Ix : Code → List α → World → Prop)
    (hI : ∀ s A B, I s A → Sep (fun k => Zs k ∨ k = w.heap.size ∨ k = w.heap.size + 1) A B → I s B)
    (hIx : ∀ c s A B, Ix c s A → Sep (fun k => Zs k ∨ k = w.heap.size ∨ k = w.heap.size + 1) A B → Ix c s B)
    (h0 : I [] w) (Ax : α → Act → World → Prop) (hAx : ∀ x a' A B, Ax x a' A → Sep (fun k => Zs k ∨ k = w.heap.size ∨ k = w.heap.size + 1) A B → Ax x a' B)
    (hassign : ∀ (l : Nat) (pre : List α) (x : α) (W : World) (K : Act → World → Prop), I pre W → w.heap.size + 1 < W.heap.size →
      (∀ a' W', Hold (fun k => Z k ∨ k = w.heap.size ∨ k = w.heap.size + 1) W W' → I pre W' → Ax x a' W' → K a' W') →
      assign.wpIn (F.inRound l) (n - 1 - 1) P (Exit.then K (fun _ _ _ => False)) { tmps := (ps.zip (encs x)).foldl (fun t (p, v) => t.setIfInBounds p v) a.tmps, defers := [] } W)
    (hbody : ∀ (l : Nat) (pre : List α) (x : α) (rest : List α) (a' : Act) (W : World), xs = pre ++ x :: rest → w.heap.size + 1 < W.heap.size → I pre W → Ax x a' W →
      body.wpIn (F.inRound l) (n - 1 - 1) P (roundEnd (fun k => Z k ∨ k = w.heap.size ∨ k = w.heap.size + 1) I Ix (pre ++ [x]) W) a' W)
    (hdone : ∀ (W : World), I xs W → W.heap[w.heap.size]? = some (.deferred (some [])) → Q .normal { a with defers := { target := .collected w.heap.size, args := #[] } :: a.defers } W)
    (hstop : ∀ (c : Code) (pre : List α) (W : World), pre <+: xs → Ix c pre W → W.heap[w.heap.size]? = some (.deferred (some [])) → c.wpIn F n P Q { a with defers := { target := .collected w.heap.size, args := #[] } :: a.defers } W) :
    (Code.rangeFunc g ps assign body).wpIn F n P Q a w := by
  refine wpIn_rangeFunc fun fn hfn => ?_
  rw [hro]
  -- the loop's record, in a state and with a jump that waits
  obtain ⟨rec, hrec⟩ : ∃ rec : LoopState → Option Code → Loop, rec = fun s j => { state := s, pending := j, fn, tmps := a.tmps, params := ps, assign, body, defers := w.heap.size } := ⟨_, rfl⟩
  have hrs : ∀ s j, (rec s j).state = s := fun s j => by rw [hrec]
  have hrp : ∀ s j, (rec s j).pending = j := fun s j => by rw [hrec]
  have hf1 : (rec .ready none).params = ps := by rw [hrec]
  have hf2 : (rec .ready none).fn = fn := by rw [hrec]
  have hf3 : (rec .ready none).tmps = a.tmps := by rw [hrec]
  have hf4 : (rec .ready none).assign = assign := by rw [hrec]
  have hf5 : (rec .ready none).body = body := by rw [hrec]
  have hset : ∀ s j s' j', ({ rec s j with state := s', pending := j' } : Loop) = rec s' j' := fun s j s' j' => by rw [hrec]
  have hset1 : ∀ s j s', ({ rec s j with state := s' } : Loop) = rec s' j := fun s j s' => by rw [hrec]
  generalize hW1 : (w.alloc (.deferred (some []))).alloc (.loop (rec .ready none)) = W1
  have sz1 : W1.heap.size = w.heap.size + 2 := by rw [← hW1]; simp
  have hL1 : W1.heap[w.heap.size + 1]? = some (.loop (rec .ready none)) := by
    rw [← hW1]; have := World.alloc_heap_new (w.alloc (.deferred (some []))) (.loop (rec .ready none)); rwa [World.size_alloc] at this
  have hD1 : W1.heap[w.heap.size]? = some (.deferred (some [])) := by
    rw [← hW1, Below.heap_alloc _ _ _ (by simp)]; exact World.alloc_heap_new w _
  have hI1 : I [] W1 := by rw [← hW1]; exact hI _ _ _ (hI _ _ _ h0 (.alloc _ _ _)) (.alloc _ _ _)
  have hH1 : Hold Z w W1 := by rw [← hW1]; exact (Hold.alloc Z w _).trans (.alloc Z _ _)
  refine ⟨w.heap.size + 1, [{ target := .collected w.heap.size, args := #[] }], W1, { target := .fn (.func gf) lb, args := #[.func (.yield (w.heap.size + 1)) #[] #[]] }, W1, gf,
    #[.func (.yield (w.heap.size + 1)) #[] #[]] ++ lb, W1, ?_, ?_, ?_, ?_, fun _ => h1, ?_⟩
  · rw [← hW1, hrec]; exact run_enterLoop_outer _ _ _ _ _
  · simp only [resolve, hg]; simp [go_sem]
  · intro f' hf'; simp [Target.leads] at hf'; subst hf'; exact hFg
  · simp [invoke, go_sem, eg]
  -- the iterator, at the caller's invariant and the loop's two blocks
  have keep : ∀ {o : Obj} {A B : World} {k : Nat}, ¬ Zs k → A.heap[k]? = some o → Sep Zs A B → B.heap[k]? = some o := fun hk ho hs => (hs.block _ (Array.getElem?_eq_some_iff.1 ho).1 hk).trans ho
  have wide : ∀ {A B : World}, Sep Zs A B → Sep (fun k => Zs k ∨ k = w.heap.size ∨ k = w.heap.size + 1) A B := fun h => h.mono fun _ e => .inl e
  have iz : ∀ {A : World} (o : Obj), Sep (fun k => Zs k ∨ k = w.heap.size ∨ k = w.heap.size + 1) A (A.putObj (w.heap.size + 1) o) := fun o => .putObj _ (.inr (.inr rfl)) o
  have hold : ∀ {A B : World}, Hold (fun k => Z k ∨ k = w.heap.size ∨ k = w.heap.size + 1) A B → Hold Z A B := fun h => h.mono fun _ e => .inl e
  refine (hseq (w.heap.size + 1)
    (fun pre W => I pre W ∧ W.heap[w.heap.size + 1]? = some (.loop (rec .ready none)) ∧ W.heap[w.heap.size]? = some (.deferred (some [])))
    (fun pre W => ∃ c, Ix c pre W ∧ W.heap[w.heap.size + 1]? = some (.loop (rec .done (some c))) ∧ W.heap[w.heap.size]? = some (.deferred (some [])))
    W1 (by omega) hH1 (fun s A B h hs => ⟨hI s A B h.1 (wide hs), keep (fun e => nZL (hsub _ e)) h.2.1 hs, keep (fun e => nZD (hsub _ e)) h.2.2 hs⟩)
    (fun s A B ⟨c, h, hl, hd⟩ hs => ⟨c, hIx c s A B h (wide hs), keep (fun e => nZL (hsub _ e)) hl hs, keep (fun e => nZD (hsub _ e)) hd hs⟩) ?_ ⟨hI1, hL1, hD1⟩).mono ?_
  · rintro pre x rest W hx ⟨hi, hl, hd⟩
    have hlt := (Array.getElem?_eq_some_iff.1 hl).1
    have hy := run_yield (P := P) (args := encs x) hl (by rw [hf1]; exact hps x)
    rw [hf1, hf2, hf3, hf4, hf5] at hy
    refine ⟨fn, _, assign, body, hy, roundIn_of_wpIn hfn ?_⟩
    refine hassign _ pre x W _ hi hlt fun a' Wa ha hia hax => ?_
    have hla : Wa.heap[w.heap.size + 1]? = some (.loop (rec .ready none)) := (ha.block _ hlt (.inr (.inr rfl))).trans hl
    have hda : Wa.heap[w.heap.size]? = some (.deferred (some [])) := (ha.block _ (by omega) (.inr (.inl rfl))).trans hd
    have hlta : w.heap.size + 1 < Wa.heap.size := (Array.getElem?_eq_some_iff.1 hla).1
    refine ⟨_, run_beginRound hla (hrs _ _), ?_⟩
    rw [hset1]
    generalize hWb : Wa.putObj (w.heap.size + 1) (.loop (rec .busy none)) = Wb
    have hlb : Wb.heap[w.heap.size + 1]? = some (.loop (rec .busy none)) := by rw [← hWb]; exact World.putObj_heap_same hlta
    have hdb : Wb.heap[w.heap.size]? = some (.deferred (some [])) := by rw [← hWb, World.putObj_heap_other (by omega)]; exact hda
    have hib : I pre Wb := by rw [← hWb]; exact hI _ _ _ hia (iz _)
    have hxb : Ax x a' Wb := by rw [← hWb]; exact hAx _ _ _ _ hax (iz _)
    have hWab : Hold Z W Wb := (hold ha).trans (by rw [← hWb]; exact .putObj _ nZL _)
    have hltb : w.heap.size + 1 < Wb.heap.size := (Array.getElem?_eq_some_iff.1 hlb).1
    refine wpIn_mono (hbody _ pre x rest a' Wb hx hltb hib hxb) ?_
    have fin : ∀ (j : Option Code) (W3 : World), Hold (fun k => Z k ∨ k = w.heap.size ∨ k = w.heap.size + 1) Wb W3 →
        ∃ W4, (Instr.endRound (w.heap.size + 1) j).run P W3 = .ok (.bool j.isNone) W4 ∧ Sep (fun k => Zs k ∨ k = w.heap.size ∨ k = w.heap.size + 1) W3 W4 ∧ Hold Z W W4 ∧
          W4.heap[w.heap.size + 1]? = some (.loop (rec (if j.isNone then .ready else .done) j)) ∧ W4.heap[w.heap.size]? = some (.deferred (some [])) := fun j W3 h3 => by
      have hl3 : W3.heap[w.heap.size + 1]? = some (.loop (rec .busy none)) := (h3.block _ hltb (.inr (.inr rfl))).trans hlb
      have hd3 : W3.heap[w.heap.size]? = some (.deferred (some [])) := (h3.block _ (by omega) (.inr (.inl rfl))).trans hdb
      refine ⟨_, run_endRound j hl3, iz _, hWab.trans ((hold h3).trans (.putObj _ nZL _)), ?_, ?_⟩
      · rw [hset]; exact World.putObj_heap_same (Array.getElem?_eq_some_iff.1 hl3).1
      · rw [World.putObj_heap_other (by omega)]; exact hd3
    rintro e a3 W3 hp
    cases e with
    | normal => obtain ⟨h3, hi3⟩ := hp; obtain ⟨W4, hr, hs, hh, hl4, hd4⟩ := fin none W3 h3; exact ⟨_, W4, hr, hh, .inl ⟨rfl, hI _ _ _ hi3 hs, hl4, hd4⟩⟩
    | ret => obtain ⟨h3, hi3⟩ := hp; obtain ⟨W4, hr, hs, hh, hl4, hd4⟩ := fin (some .ret) W3 h3; exact ⟨_, W4, hr, hh, .inr ⟨rfl, _, hIx _ _ _ _ hi3 hs, hl4, hd4⟩⟩
    | exit id => obtain ⟨h3, hi3⟩ := hp; obtain ⟨W4, hr, hs, hh, hl4, hd4⟩ := fin (some (.exit id)) W3 h3; exact ⟨_, W4, hr, hh, .inr ⟨rfl, _, hIx _ _ _ _ hi3 hs, hl4, hd4⟩⟩
    | goto t => obtain ⟨h3, hi3⟩ := hp; obtain ⟨W4, hr, hs, hh, hl4, hd4⟩ := fin (some (.goto t)) W3 h3; exact ⟨_, W4, hr, hh, .inr ⟨rfl, _, hIx _ _ _ _ hi3 hs, hl4, hd4⟩⟩
    | panic ch => exact hp.elim
    | outgrown => exact hp.elim
  · rintro e W2 ⟨⟨v, rfl⟩, hJ⟩
    rcases hJ with ⟨hi, hl, hd⟩ | ⟨pre, hpre, c, hi, hl, hd⟩
    · exact ⟨none, _, by rw [run_endLoop hl (by rw [hrs]; simp), hrp], hdone _ (hI _ _ _ hi (iz _)) (by rw [World.putObj_heap_other (by omega)]; exact hd)⟩
    · exact ⟨some c, _, by rw [run_endLoop hl (by rw [hrs]; simp), hrp], hstop c pre _ hpre (hIx _ _ _ _ hi (iz _)) (by rw [World.putObj_heap_other (by omega)]; exact hd)⟩

theorem range_own {α : Type} {g : Operand} {ps : Array Tmp} {assign body : Code} {Q : Exit → Act → World → Prop} {a : Act} {w : World}
    (hro : F.round = none) (h1 : 1 ≤ n) {gf : Nat} {lb : Array Value} (hg : a.eval g = .func (.func gf) #[] lb) (hFg : F.fn gf) (eg : ∀ args w, (callFunc gf args).run P w = .ok (.enter gf args) w)
    {encs : α → Array Value} {Z : Nat → Prop} {xs : List α} (hseq : Gives F (n - 1) P gf lb encs Z xs w) (hZ : ∀ k, Z k → k < w.heap.size) (hps : ∀ x, (encs x).size = ps.size)
    (I : List α → World → Prop) (Ix : Code → List α → World → Prop)
    (hI : ∀ s A B, I s A → Sep (fun k => Z k ∨ k = w.heap.size ∨ k = w.heap.size + 1) A B → I s B)
    (hIx : ∀ c s A B, Ix c s A → Sep (fun k => Z k ∨ k = w.heap.size ∨ k = w.heap.size + 1) A B → Ix c s B)
    (h0 : I [] w) (Ax : α → Act → World → Prop) (hAx : ∀ x a' A B, Ax x a' A → Sep (fun k => Z k ∨ k = w.heap.size ∨ k = w.heap.size + 1) A B → Ax x a' B)
    (hassign : ∀ (l : Nat) (pre : List α) (x : α) (W : World) (K : Act → World → Prop), I pre W → w.heap.size + 1 < W.heap.size →
      (∀ a' W', Hold (fun k => Z k ∨ k = w.heap.size ∨ k = w.heap.size + 1) W W' → I pre W' → Ax x a' W' → K a' W') →
      assign.wpIn (F.inRound l) (n - 1 - 1) P (Exit.then K (fun _ _ _ => False)) { tmps := (ps.zip (encs x)).foldl (fun t (p, v) => t.setIfInBounds p v) a.tmps, defers := [] } W)
    (hbody : ∀ (l : Nat) (pre : List α) (x : α) (rest : List α) (a' : Act) (W : World), xs = pre ++ x :: rest → w.heap.size + 1 < W.heap.size → I pre W → Ax x a' W →
      body.wpIn (F.inRound l) (n - 1 - 1) P (roundEnd (fun k => Z k ∨ k = w.heap.size ∨ k = w.heap.size + 1) I Ix (pre ++ [x]) W) a' W)
    (hdone : ∀ (W : World), I xs W → W.heap[w.heap.size]? = some (.deferred (some [])) → Q .normal { a with defers := { target := .collected w.heap.size, args := #[] } :: a.defers } W)
    (hstop : ∀ (c : Code) (pre : List α) (W : World), pre <+: xs → Ix c pre W → W.heap[w.heap.size]? = some (.deferred (some [])) → c.wpIn F n P Q { a with defers := { target := .collected w.heap.size, args := #[] } :: a.defers } W) :
    (Code.rangeFunc g ps assign body).wpIn F n P Q a w :=
  range_ownN hro h1 hg hFg eg hseq.n (fun _ e => e) (fun e => by have := hZ _ e; omega) (fun e => by have := hZ _ e; omega) hps I Ix hI hIx h0 Ax hAx hassign hbody hdone hstop

/-- The same where a round's variable lies in a slot: what the assignment leaves is named ahead of the world. -/
theorem range_own1N {α : Type} {g : Operand} {ps : Array Tmp} {assign body : Code} {Q : Exit → Act → World → Prop} {a : Act} {w : World}
    (hro : F.round = none) (h1 : 1 ≤ n) {gf : Nat} {lb : Array Value} (hg : a.eval g = .func (.func gf) #[] lb) (hFg : F.fn gf) (eg : ∀ args w, (callFunc gf args).run P w = .ok (.enter gf args) w)
    {encs : α → Array Value} {Z Zs : Nat → Prop} {xs : List α} (hseq : GivesN F (n - 1) P gf lb encs Z Zs xs w) (hsub : ∀ k, Zs k → Z k) (nZD : ¬ Z w.heap.size) (nZL : ¬ Z (w.heap.size + 1)) (hps : ∀ x, (encs x).size = ps.size)
    (I : List α → World → Prop) (Ix : Code → List α → World → Prop)
    (hI : ∀ s A B, I s A → Sep (fun k => Zs k ∨ k = w.heap.size ∨ k = w.heap.size + 1) A B → I s B)
    (hIx : ∀ c s A B, Ix c s A → Sep (fun k => Zs k ∨ k = w.heap.size ∨ k = w.heap.size + 1) A B → Ix c s B)
    (h0 : I [] w) (a₁ : α → Act)
    (hassign : ∀ (l : Nat) (x : α) (W : World) (K : Act → World → Prop), K (a₁ x) W →
      assign.wpIn (F.inRound l) (n - 1 - 1) P (Exit.then K (fun _ _ _ => False)) { tmps := (ps.zip (encs x)).foldl (fun t (p, v) => t.setIfInBounds p v) a.tmps, defers := [] } W)
    (hbody : ∀ (l : Nat) (pre : List α) (x : α) (rest : List α) (W : World), xs = pre ++ x :: rest → w.heap.size + 1 < W.heap.size → I pre W →
      body.wpIn (F.inRound l) (n - 1 - 1) P (roundEnd (fun k => Z k ∨ k = w.heap.size ∨ k = w.heap.size + 1) I Ix (pre ++ [x]) W) (a₁ x) W)
    (hdone : ∀ (W : World), I xs W → W.heap[w.heap.size]? = some (.deferred (some [])) → Q .normal { a with defers := { target := .collected w.heap.size, args := #[] } :: a.defers } W)
    (hstop : ∀ (c : Code) (pre : List α) (W : World), pre <+: xs → Ix c pre W → W.heap[w.heap.size]? = some (.deferred (some [])) → c.wpIn F n P Q { a with defers := { target := .collected w.heap.size, args := #[] } :: a.defers } W) :
    (Code.rangeFunc g ps assign body).wpIn F n P Q a w :=
  range_ownN hro h1 hg hFg eg hseq hsub nZD nZL hps I Ix hI hIx h0 (fun x a' _ => a' = a₁ x) (fun _ _ _ _ h _ => h)
    (fun l pre x W K hi _ hK => hassign l x W K (hK _ _ (.refl _ _) hi rfl)) (fun l pre x rest a' W hx hlt hi ha => by subst ha; exact hbody l pre x rest W hx hlt hi) hdone hstop

/-- The same in a plain walk. -/
theorem range_wpN {α : Type} {g : Operand} {ps : Array Tmp} {assign body : Code} {Q : Exit → Act → World → Prop} {a : Act} {w : World}
    {gf : Nat} {lb : Array Value} (hg : a.eval g = .func (.func gf) #[] lb) (eg : ∀ args w, (callFunc gf args).run P w = .ok (.enter gf args) w)
    {encs : α → Array Value} {Z Zs : Nat → Prop} {xs : List α} (hseq : GivesN Fence.wide 2 P gf lb encs Z Zs xs w) (hsub : ∀ k, Zs k → Z k) (nZD : ¬ Z w.heap.size) (nZL : ¬ Z (w.heap.size + 1)) (hps : ∀ x, (encs x).size = ps.size)
    (I : List α → World → Prop) (Ix : Code → List α → World → Prop)
    (hI : ∀ s A B, I s A → Sep (fun k => Zs k ∨ k = w.heap.size ∨ k = w.heap.size + 1) A B → I s B)
    (hIx : ∀ c s A B, Ix c s A → Sep (fun k => Zs k ∨ k = w.heap.size ∨ k = w.heap.size + 1) A B → Ix c s B)
    (h0 : I [] w) (a₁ : α → Act)
    (hassign : ∀ (l : Nat) (x : α) (W : World) (K : Act → World → Prop), K (a₁ x) W →
      assign.wpIn (Fence.wide.inRound l) 1 P (Exit.then K (fun _ _ _ => False)) { tmps := (ps.zip (encs x)).foldl (fun t (p, v) => t.setIfInBounds p v) a.tmps, defers := [] } W)
    (hbody : ∀ (l : Nat) (pre : List α) (x : α) (rest : List α) (W : World), xs = pre ++ x :: rest → w.heap.size + 1 < W.heap.size → I pre W →
      body.wpIn (Fence.wide.inRound l) 1 P (roundEnd (fun k => Z k ∨ k = w.heap.size ∨ k = w.heap.size + 1) I Ix (pre ++ [x]) W) (a₁ x) W)
    (hdone : ∀ (W : World), I xs W → W.heap[w.heap.size]? = some (.deferred (some [])) → Q .normal { a with defers := { target := .collected w.heap.size, args := #[] } :: a.defers } W)
    (hstop : ∀ (c : Code) (pre : List α) (W : World), pre <+: xs → Ix c pre W → W.heap[w.heap.size]? = some (.deferred (some [])) → c.wp P Q { a with defers := { target := .collected w.heap.size, args := #[] } :: a.defers } W) :
    (Code.rangeFunc g ps assign body).wp P Q a w :=
  (wpIn_wide (n := 3)).1 (range_own1N rfl (by omega) hg trivial eg hseq hsub nZD nZL hps I Ix hI hIx h0 a₁ hassign hbody hdone (fun c pre W h1 h2 h3 => wpIn_wide.2 (hstop c pre W h1 h2 h3)))

/-- The same where a round's variable lies in a slot: what the assignment leaves is named ahead of the world. -/
theorem range_own1 {α : Type} {g : Operand} {ps : Array Tmp} {assign body : Code} {Q : Exit → Act → World → Prop} {a : Act} {w : World}
    (hro : F.round = none) (h1 : 1 ≤ n) {gf : Nat} {lb : Array Value} (hg : a.eval g = .func (.func gf) #[] lb) (hFg : F.fn gf) (eg : ∀ args w, (callFunc gf args).run P w = .ok (.enter gf args) w)
    {encs : α → Array Value} {Z : Nat → Prop} {xs : List α} (hseq : Gives F (n - 1) P gf lb encs Z xs w) (hZ : ∀ k, Z k → k < w.heap.size) (hps : ∀ x, (encs x).size = ps.size)
    (I : List α → World → Prop) (Ix : Code → List α → World → Prop)
    (hI : ∀ s A B, I s A → Sep (fun k => Z k ∨ k = w.heap.size ∨ k = w.heap.size + 1) A B → I s B)
    (hIx : ∀ c s A B, Ix c s A → Sep (fun k => Z k ∨ k = w.heap.size ∨ k = w.heap.size + 1) A B → Ix c s B)
    (h0 : I [] w) (a₁ : α → Act)
    (hassign : ∀ (l : Nat) (x : α) (W : World) (K : Act → World → Prop), K (a₁ x) W →
      assign.wpIn (F.inRound l) (n - 1 - 1) P (Exit.then K (fun _ _ _ => False)) { tmps := (ps.zip (encs x)).foldl (fun t (p, v) => t.setIfInBounds p v) a.tmps, defers := [] } W)
    (hbody : ∀ (l : Nat) (pre : List α) (x : α) (rest : List α) (W : World), xs = pre ++ x :: rest → w.heap.size + 1 < W.heap.size → I pre W →
      body.wpIn (F.inRound l) (n - 1 - 1) P (roundEnd (fun k => Z k ∨ k = w.heap.size ∨ k = w.heap.size + 1) I Ix (pre ++ [x]) W) (a₁ x) W)
    (hdone : ∀ (W : World), I xs W → W.heap[w.heap.size]? = some (.deferred (some [])) → Q .normal { a with defers := { target := .collected w.heap.size, args := #[] } :: a.defers } W)
    (hstop : ∀ (c : Code) (pre : List α) (W : World), pre <+: xs → Ix c pre W → W.heap[w.heap.size]? = some (.deferred (some [])) → c.wpIn F n P Q { a with defers := { target := .collected w.heap.size, args := #[] } :: a.defers } W) :
    (Code.rangeFunc g ps assign body).wpIn F n P Q a w :=
  range_own hro h1 hg hFg eg hseq hZ hps I Ix hI hIx h0 (fun x a' _ => a' = a₁ x) (fun _ _ _ _ h _ => h)
    (fun l pre x W K hi _ hK => hassign l x W K (hK _ _ (.refl _ _) hi rfl)) (fun l pre x rest a' W hx hlt hi ha => by subst ha; exact hbody l pre x rest W hx hlt hi) hdone hstop

/-- The same in a plain walk. -/
theorem range_wp {α : Type} {g : Operand} {ps : Array Tmp} {assign body : Code} {Q : Exit → Act → World → Prop} {a : Act} {w : World}
    {gf : Nat} {lb : Array Value} (hg : a.eval g = .func (.func gf) #[] lb) (eg : ∀ args w, (callFunc gf args).run P w = .ok (.enter gf args) w)
    {encs : α → Array Value} {Z : Nat → Prop} {xs : List α} (hseq : Gives Fence.wide 2 P gf lb encs Z xs w) (hZ : ∀ k, Z k → k < w.heap.size) (hps : ∀ x, (encs x).size = ps.size)
    (I : List α → World → Prop) (Ix : Code → List α → World → Prop)
    (hI : ∀ s A B, I s A → Sep (fun k => Z k ∨ k = w.heap.size ∨ k = w.heap.size + 1) A B → I s B)
    (hIx : ∀ c s A B, Ix c s A → Sep (fun k => Z k ∨ k = w.heap.size ∨ k = w.heap.size + 1) A B → Ix c s B)
    (h0 : I [] w) (a₁ : α → Act)
    (hassign : ∀ (l : Nat) (x : α) (W : World) (K : Act → World → Prop), K (a₁ x) W →
      assign.wpIn (Fence.wide.inRound l) 1 P (Exit.then K (fun _ _ _ => False)) { tmps := (ps.zip (encs x)).foldl (fun t (p, v) => t.setIfInBounds p v) a.tmps, defers := [] } W)
    (hbody : ∀ (l : Nat) (pre : List α) (x : α) (rest : List α) (W : World), xs = pre ++ x :: rest → w.heap.size + 1 < W.heap.size → I pre W →
      body.wpIn (Fence.wide.inRound l) 1 P (roundEnd (fun k => Z k ∨ k = w.heap.size ∨ k = w.heap.size + 1) I Ix (pre ++ [x]) W) (a₁ x) W)
    (hdone : ∀ (W : World), I xs W → W.heap[w.heap.size]? = some (.deferred (some [])) → Q .normal { a with defers := { target := .collected w.heap.size, args := #[] } :: a.defers } W)
    (hstop : ∀ (c : Code) (pre : List α) (W : World), pre <+: xs → Ix c pre W → W.heap[w.heap.size]? = some (.deferred (some [])) → c.wp P Q { a with defers := { target := .collected w.heap.size, args := #[] } :: a.defers } W) :
    (Code.rangeFunc g ps assign body).wp P Q a w :=
  (wpIn_wide (n := 3)).1 (range_own1 rfl (by omega) hg trivial eg hseq hZ hps I Ix hI hIx h0 a₁ hassign hbody hdone (fun c pre W h1 h2 h3 => wpIn_wide.2 (hstop c pre W h1 h2 h3)))

/-- A function that holds a range over a function, from its body's plain walk. -/
theorem calls_of_marks {f : FuncId} {fn : Func} {c : Code} {args : Array Value} {w : World} {R : Ending → World → Prop} (hf : P.funcs[f]? = some fn) (hb : fn.body = some c)
    (h : c.wp P (bodyPostM Fence.wide 3 P fn R) { tmps := args ++ Array.replicate (fn.ntmps - args.size) undef, defers := [] } w) : Calls P f args w R :=
  (callsIn_wide (n := 3)).1 (callsIn_of_wp_marks hf hb trivial (wpIn_wide.2 h) rfl)

/-- At the function's return: the block for the rounds' deferred calls is shut. -/
theorem ret_mark {fn : Func} {tmps : Array Value} {R : Ending → World → Prop} {D : Nat} {w : World} {v : Value} (hK : w.heap[D]? = some (.deferred (some [])))
    (hres : (results fn tmps).run P (w.putObj D (.deferred none)) = .ok v (w.putObj D (.deferred none))) (hR : R (.returned v) (w.putObj D (.deferred none))) :
    bodyPostM F n P fn R .ret { tmps := tmps, defers := [{ target := .collected D, args := #[] }] } w :=
  ⟨by simp, .inl ⟨D, _, rfl, run_takeDeferred hK, _, hres, hR⟩⟩
theorem Below.putObj {m : Nat} {a w : World} {D : Nat} (h : Below m a w) (hD : m ≤ D) (o : Obj) : Below m a (w.putObj D o) :=
  h.trans ⟨rfl, rfl, rfl, by simp, fun k hk => World.putObj_heap_other (by omega)⟩
end Go.Proofs.Ytpkikhoicobmcaa

/- A variable's cell that holds a slice of the call's own, through a loop's rounds; and what is known of a slice of integers of any kind. No condition. -/
namespace Go.Proofs.Ytpkikhoicobmcaa
open Go.RowKit Go.Shelf

theorem boxed_sep {Z : Nat → Prop} {A B : World} {b : Nat} {t : TypeId} {v : Value} (h : Boxed A b t v) (hs : Sep Z A B) (hz : ¬ Z b) : Boxed B b t v := (hs.block b h.lt hz).trans h
theorem ownsRow_sep {Z : Nat → Prop} {A B : World} {base : Nat} {e : TypeId} {size : Nat} {v : Value} {n : Nat} {xs : List Value} (h : A.ownsRow base e size v n xs) (hs : Sep Z A B) (hz : ∀ k, base ≤ k → ¬ Z k) : B.ownsRow base e size v n xs := by
  obtain ⟨h1, h2⟩ := h
  refine ⟨h1, ?_⟩
  rcases h2 with h2 | ⟨g, cap, cur, rfl, hb, hg, r⟩
  · exact .inl h2
  · exact .inr ⟨g, cap, cur, rfl, hb, (hs.block g (Array.getElem?_eq_some_iff.1 hg).1 (hz g hb)).trans hg, r⟩
theorem ownsRow_base {A : World} {base base' : Nat} {e : TypeId} {size : Nat} {v : Value} {n : Nat} {xs : List Value} (h : A.ownsRow base e size v n xs) (hb : base' ≤ base) : A.ownsRow base' e size v n xs := by
  obtain ⟨h1, h2⟩ := h
  refine ⟨h1, ?_⟩
  rcases h2 with h2 | ⟨g, cap, cur, rfl, hg, r⟩
  · exact .inl h2
  · exact .inr ⟨g, cap, cur, rfl, Nat.le_trans hb hg, r⟩
/-- 'x = append(x, ..)', x in a cell of its own: all that a round owes behind it. -/
theorem pushed {W w1 : World} {base B : Nat} {t e : TypeId} {size : Nat} {v v' : Value} {k m : Nat} {xs ys : List Value} {tmp : Obj}
    (hv : Boxed W B t v) (hte : t ≠ e) (hrow : W.ownsRow base e size v k xs) (hown' : w1.ownsRow base e size v' m ys) (hgrow : (W.alloc tmp).grownBy w1 v.ownBlock) :
    Boxed w1 B t v ∧ Boxed (w1.setCell ⟨B, 0, none⟩ v') B t v' ∧ (w1.setCell ⟨B, 0, none⟩ v').ownsRow base e size v' m ys ∧
    (∀ Z : Nat → Prop, ¬ Z B → (∀ k, base ≤ k → ¬ Z k) → Hold Z W (w1.setCell ⟨B, 0, none⟩ v')) ∧
    (∀ m, m ≤ B → m ≤ base → m ≤ W.heap.size → Below m W (w1.setCell ⟨B, 0, none⟩ v')) := by
  have hb : ∀ j, v.ownBlock = some j → base ≤ j := fun j ej => (hrow.lt j ej).1
  have hv1 : Boxed w1 B t v := (hv.alloc tmp).kept hgrow (hv.not_row hte hrow)
  refine ⟨hv1, hv1.set v', hown'.kept (grownBy_setCell' w1 B v') (.inr (hv1.not_row hte hown').symm), fun Z hz hzb => ?_, fun m h1 h2 h3 => ?_⟩
  · exact ((Hold.alloc Z W tmp).trans (.grown hgrow fun j ej => hzb j (hb j ej))).trans (.setCell _ hz _)
  · exact (((Below.refl m W).alloc h3 tmp).grown hgrow (by simp; omega) fun j ej => Nat.le_trans h2 (hb j ej)).setCell (p := ⟨B, 0, none⟩) h1 v'

/-- WHAT IS KNOWN OF A SLICE OF INTEGERS OF KIND q: its length, and what its cells hold. -/
def SlK (q : IntKind) (w : World) (a : Option Addr) (len : Nat) (zs : List Int) : Prop :=
  zs.length = len ∧ (len = 0 ∨ ∃ blk off, a = some ⟨blk, off, none⟩ ∧ ∀ i, i < len → w.cell? ⟨blk, off + i, none⟩ = some (.int q (zs.getD i 0)))
theorem SlK.below {q : IntKind} {w w' : World} {a : Option Addr} {n : Nat} {zs : List Int} (h : SlK q w a n zs) (hb : Below w.heap.size w w') : SlK q w' a n zs := by
  obtain ⟨h1, h2⟩ := h
  refine ⟨h1, ?_⟩
  rcases h2 with h2 | ⟨blk, off, ha, hc⟩
  · exact .inl h2
  · exact .inr ⟨blk, off, ha, fun i hi => cell_later hb (hc i hi)⟩
/-- Integers in memory of the call's own. -/
def OwnK (q : IntKind) (base : Nat) (w : World) (ad : Option Addr) (zs : List Int) : Prop :=
  zs = [] ∨ ∃ g, ad = some ⟨g, 0, none⟩ ∧ base ≤ g ∧ g < w.heap.size ∧ (∀ i, i < zs.length → w.cell? ⟨g, i, none⟩ = some (.int q (zs.getD i 0))) ∧ (∀ i, w.frozen? ⟨g, i, none⟩ = false)
theorem OwnK.sl {q : IntKind} {base : Nat} {w : World} {ad : Option Addr} {zs : List Int} (h : OwnK q base w ad zs) : SlK q w ad zs.length zs := by
  refine ⟨rfl, ?_⟩
  rcases h with rfl | ⟨g, h1, _, _, h2, _⟩
  · exact .inl rfl
  · exact .inr ⟨g, 0, h1, fun i hi => by simpa using h2 i hi⟩
theorem OwnK.mono {q : IntKind} {base base' : Nat} {w : World} {ad : Option Addr} {zs : List Int} (h : OwnK q base w ad zs) (hb : base' ≤ base) : OwnK q base' w ad zs := by
  rcases h with h | ⟨g, h1, h2, h3⟩
  · exact .inl h
  · exact .inr ⟨g, h1, Nat.le_trans hb h2, h3⟩
theorem OwnK.later {q : IntKind} {base : Nat} {w w' : World} {ad : Option Addr} {zs : List Int} (h : OwnK q base w ad zs) (hb : Below w.heap.size w w') : OwnK q base w' ad zs := by
  rcases h with rfl | ⟨g, h1, h2, h3, h4, h5⟩
  · exact .inl rfl
  · exact .inr ⟨g, h1, h2, by have := hb.size; omega, fun i hi => cell_later hb (h4 i hi), fun i => by rw [hb.frozen (p := ⟨g, i, none⟩) h3]; exact h5 i⟩
theorem ownK_row {q : IntKind} {base : Nat} {w : World} {e : TypeId} {v : Value} {n : Nat} {zs : List Int} (hn : zs.length = n) (h : w.ownsRow base e 1 v n (zs.map (Value.int q))) :
    ∃ ad cap, v = .slice ad n cap ∧ OwnK q base w ad zs ∧ n ≤ cap := by
  have H := h
  obtain ⟨h1, h2⟩ := h
  rcases h2 with ⟨rfl, rfl⟩ | ⟨g, cap, cur, rfl, hb, hg, hle, hm, hsz, htk⟩
  · exact ⟨none, 0, rfl, .inl (by cases zs with | nil => rfl | cons => simp at hn), Nat.le_refl _⟩
  · refine ⟨_, cap, rfl, .inr ⟨g, rfl, hb, (H.lt g rfl).2, fun i hi => ?_, fun i => H.frozenAt i⟩, hle⟩
    rw [H.cellAt i (by omega), List.getElem?_map, List.getElem?_eq_getElem hi, List.getD_eq_getElem?_getD, List.getElem?_eq_getElem hi]; rfl
theorem ownsRow_cap {w : World} {base : Nat} {e : TypeId} {size : Nat} {g n cap : Nat} {xs : List Value} (h : w.ownsRow base e size (.slice (some ⟨g, 0, none⟩) n cap) n xs) : n ≤ cap := by
  rcases h.2 with ⟨e, _⟩ | ⟨_, _, _, e, _, _, hle, _⟩
  · cases e
  · cases e; exact hle
theorem ownK_lit {q : IntKind} (w : World) (cs : Array Value) (t : TypeId) (zs : List Int) (h : cs.toList = zs.map (Value.int q)) : OwnK q w.heap.size (w.alloc (.cells cs t)) (some ⟨w.heap.size, 0, none⟩) zs := by
  refine .inr ⟨w.heap.size, rfl, Nat.le_refl _, by simp, fun i hi => ?_, fun i => by simp [go_sem]⟩
  rw [World.cell?_alloc_at _ _ _ _ rfl]
  have : cs[i]? = cs.toList[i]? := by simp
  rw [this, h, List.getElem?_map, List.getElem?_eq_getElem hi, List.getD_eq_getElem?_getD, List.getElem?_eq_getElem hi]; rfl
end Go.Proofs.Ytpkikhoicobmcaa

/- Words by their beginnings, as a list of paths and a list of words: plain facts. No condition. -/
namespace Go.Proofs.Ytpkikhoicobmcaa
set_option linter.unusedVariables false
namespace Tr
abbrev LL := List (List Int)
theorem gD {α : Type} {L : List α} {k : Nat} {d : α} (h : k < L.length) : L.getD k d = L[k] := by rw [List.getD_eq_getElem?_getD, List.getElem?_eq_getElem h]; rfl
theorem gD_app {α : Type} {L M : List α} {k : Nat} {d : α} (h : k < L.length) : (L ++ M).getD k d = L.getD k d := by
  rw [List.getD_eq_getElem?_getD, List.getD_eq_getElem?_getD, List.getElem?_append_left h]
theorem gD_new {α : Type} (L : List α) (x d : α) : (L ++ [x]).getD L.length d = x := by
  rw [List.getD_eq_getElem?_getD, List.getElem?_append_right (Nat.le_refl _)]; simp
theorem gD_mem {α : Type} {L : List α} {k : Nat} {d : α} (h : k < L.length) : L.getD k d ∈ L := by rw [gD h]; exact List.getElem_mem _
/-- where a path stands; the list's length: nowhere -/
def idx (L : LL) (p : List Int) : Nat := L.findIdx (fun x => decide (x = p))
def findV (L : LL) (p : List Int) : Int := if idx L p < L.length then (idx L p : Int) else -1
theorem idx_hit {L : LL} {p : List Int} {k : Nat} (hk : k < L.length) (hp : L.getD k [] = p) (h : ∀ j, j < k → L.getD j [] ≠ p) : idx L p = k := by
  unfold idx
  rw [List.findIdx_eq hk]
  refine ⟨by rw [gD hk] at hp; simpa using hp, fun j hj => ?_⟩
  have := h j hj
  rw [gD (by omega)] at this
  simpa using this
theorem idx_lt_iff {L : LL} {p : List Int} : idx L p < L.length ↔ p ∈ L := by
  unfold idx; rw [List.findIdx_lt_length]; simp
theorem idx_at {L : LL} {p : List Int} (h : p ∈ L) : L.getD (idx L p) [] = p := by
  have h1 := idx_lt_iff.2 h
  rw [gD h1]
  exact of_decide_eq_true (@List.findIdx_getElem _ (fun x => decide (x = p)) L h1)
theorem findV_hit {L : LL} {p : List Int} {k : Nat} (hk : k < L.length) (hp : L.getD k [] = p) (h : ∀ j, j < k → L.getD j [] ≠ p) : findV L p = (k : Int) := by
  unfold findV; rw [idx_hit hk hp h, if_pos hk]
theorem findV_mem {L : LL} {p : List Int} (h : p ∈ L) : findV L p = (idx L p : Int) := by unfold findV; rw [if_pos (idx_lt_iff.2 h)]
theorem findV_not {L : LL} {p : List Int} (h : p ∉ L) : findV L p = -1 := by unfold findV; rw [if_neg (fun k => h (idx_lt_iff.1 k))]
theorem findV_none {L : LL} {p : List Int} (h : ∀ j, j < L.length → L.getD j [] ≠ p) : findV L p = -1 := by
  refine findV_not fun hm => h _ (idx_lt_iff.2 hm) (idx_at hm)
theorem findV_in (L : LL) (p : List Int) : -1 ≤ findV L p ∧ findV L p < L.length := by
  unfold findV; split <;> omega
theorem findV_pos {L : LL} {p : List Int} : 0 ≤ findV L p ↔ p ∈ L := by
  by_cases h : p ∈ L
  · rw [findV_mem h]; simp [h]
  · rw [findV_not h]; simp [h]
theorem findV_self {L : LL} (hn : L.Nodup) {k : Nat} (hk : k < L.length) : findV L (L.getD k []) = (k : Int) := by
  refine findV_hit hk rfl fun j hj e => ?_
  rw [gD hk, gD (by omega)] at e
  exact (List.pairwise_iff_getElem.1 hn) j k (by omega) hk hj e
theorem idx_old {L M : LL} {p : List Int} (h : p ∈ L) : idx (L ++ M) p = idx L p := by
  have h1 := idx_lt_iff.2 h
  unfold idx at h1 ⊢; rw [List.findIdx_append, if_pos h1]
theorem findV_old {L M : LL} {p : List Int} (h : p ∈ L) : findV (L ++ M) p = findV L p := by
  rw [findV_mem h, findV_mem (List.mem_append_left _ h), idx_old h]
theorem findV_new {L : LL} {p : List Int} (h : p ∉ L) : findV (L ++ [p]) p = (L.length : Int) := by
  refine findV_hit (by simp) (gD_new _ _ _) fun j hj e => ?_
  rw [gD_app hj] at e
  exact h (by rw [← e]; exact gD_mem hj)
theorem findV_eq {L : LL} (hn : L.Nodup) {p : List Int} {k : Nat} (hk : k < L.length) : findV L p = (k : Int) ↔ p = L.getD k [] := by
  constructor
  · intro h
    have hm : p ∈ L := findV_pos.1 (by rw [h]; omega)
    rw [findV_mem hm] at h
    have : idx L p = k := by omega
    rw [← this, idx_at hm]
  · rintro rfl; exact findV_self hn hk
/-- the numbers that a node is of last -/
def num (L : LL) (n : Nat) : Int := (L.getD n []).getLastD 0
abbrev out (L : LL) (k : Int) : Prop := k < 0 ∨ (L.length : Int) ≤ k
def parV (L : LL) (k : Int) : Int := if k < 1 ∨ (L.length : Int) ≤ k then -1 else findV L (L.getD k.toNat []).dropLast
def depV (L : LL) (k : Int) : Int := if out L k then -1 else ((L.getD k.toNat []).length : Int)
def pathV (L : LL) (k : Int) : List Int := if out L k then [] else L.getD k.toNat []
def childV (L : LL) (k p : Int) : Int := if out L k then -1 else findV L (L.getD k.toNat [] ++ [p])
/-- the place of a number in a row of rising ones -/
def place (K : List Int) (p : Int) : Nat := K.findIdx (fun x => decide (p ≤ x))
def insP (K : List Int) (p : Int) : List Int := K.take (place K p) ++ p :: K.drop (place K p)
def insN (L : LL) (acc : List Nat) (j : Nat) : List Nat := acc.take (place (acc.map (num L)) (num L j)) ++ j :: acc.drop (place (acc.map (num L)) (num L j))
def isKid (L : LL) (n : Int) (j : Nat) : Bool := decide (parV L j = n)
def kids (L : LL) (n : Nat) : List Nat := ((List.range L.length).filter (isKid L n)).foldl (insN L) []
def kidsV (L : LL) (k : Int) : List Int := if out L k then [] else (kids L k.toNat).map (num L)
/-- a tree's paths: each behind the path that it makes longer -/
structure Inv (L : LL) : Prop where
  pos : 0 < L.length
  root : L.getD 0 [] = []
  nd : L.Nodup
  up : ∀ j, 1 ≤ j → j < L.length → L.getD j [] ≠ [] ∧ (L.getD j []).dropLast ∈ L ∧ idx L (L.getD j []).dropLast < j
theorem Inv.start : Inv [[]] := ⟨by simp, rfl, by simp, fun j h1 h2 => by simp at h2; omega⟩
theorem Inv.path {L : LL} (h : Inv L) {p : List Int} (hp : p ∈ L) (h0 : p ≠ []) : p.dropLast ∈ L := by
  have h1 := idx_lt_iff.2 hp
  by_cases hz : idx L p = 0
  · have := idx_at hp; rw [hz, h.root] at this; exact absurd this.symm h0
  · have := (h.up _ (by omega) h1).2.1; rwa [idx_at hp] at this
theorem Inv.nil {L : LL} (h : Inv L) : [] ∈ L := by have := gD_mem (d := []) h.pos; rwa [h.root] at this
theorem Inv.take {L : LL} (h : Inv L) {p : List Int} (hp : p ∈ L) (k : Nat) : p.take k ∈ L := by
  by_cases hk : p.length ≤ k
  · rwa [List.take_of_length_le hk]
  · have H : ∀ d, d ≤ p.length → p.take (p.length - d) ∈ L := by
      intro d
      induction d with
      | zero => intro _; simpa using hp
      | succ d ih =>
        intro hd
        have hm := ih (by omega)
        have := h.path hm (by intro e; have := congrArg List.length e; rw [List.length_take] at this; simp at this; omega)
        rw [List.dropLast_eq_take, List.length_take, List.take_take] at this
        rwa [show min (min (p.length - d) p.length - 1) (p.length - d) = p.length - (d + 1) by omega] at this
    have := H (p.length - k) (by omega)
    rwa [show p.length - (p.length - k) = k by omega] at this
theorem Inv.add {L : LL} (h : Inv L) {x : List Int} (h1 : x ∉ L) (h2 : x.dropLast ∈ L) : Inv (L ++ [x]) := by
  have h0 : x ≠ [] := fun e => h1 (by rw [e]; exact h.nil)
  refine ⟨by simp, by rw [gD_app h.pos]; exact h.root, ?_, fun j hj1 hj2 => ?_⟩
  · rw [List.nodup_append]
    refine ⟨h.nd, by simp, fun a ha b hb => ?_⟩
    simp at hb; subst hb
    intro e; exact h1 (by rw [← e]; exact ha)
  · rw [List.length_append, List.length_singleton] at hj2
    by_cases hj : j < L.length
    · obtain ⟨a, b, c⟩ := h.up j hj1 hj
      rw [gD_app hj]
      exact ⟨a, List.mem_append_left _ b, by rw [idx_old b]; exact c⟩
    · obtain rfl : j = L.length := by omega
      rw [gD_new]
      exact ⟨h0, List.mem_append_left _ h2, by rw [idx_old h2]; exact idx_lt_iff.2 h2⟩
theorem num_old {L : LL} {x : List Int} {i : Nat} (hi : i < L.length) : num (L ++ [x]) i = num L i := by unfold num; rw [gD_app hi]
theorem num_new {L : LL} {x : List Int} : num (L ++ [x]) L.length = x.getLastD 0 := by unfold num; rw [gD_new]
theorem parV_in (L : LL) (k : Int) : -1 ≤ parV L k ∧ parV L k < L.length := by
  unfold parV; split
  · omega
  · exact findV_in _ _
theorem par_at {L : LL} {j : Nat} (h1 : 1 ≤ j) (h2 : j < L.length) : parV L j = findV L (L.getD j []).dropLast := by
  unfold parV; rw [if_neg (by omega)]; simp
theorem par_old {L : LL} (h : Inv L) {x : List Int} {j : Nat} (hj : j < L.length) : parV (L ++ [x]) j = parV L j := by
  by_cases h0 : j = 0
  · subst h0; unfold parV; simp
  · rw [par_at (by omega) (by simp; omega), par_at (by omega) hj, gD_app hj, findV_old (h.up j (by omega) hj).2.1]
theorem par_new {L : LL} (h : Inv L) {x : List Int} (h2 : x.dropLast ∈ L) : parV (L ++ [x]) L.length = findV L x.dropLast := by
  have := h.pos
  rw [par_at (by omega) (by simp), gD_new, findV_old h2]
theorem last_split {p : List Int} (h : p ≠ []) : p.dropLast ++ [p.getLastD 0] = p := by
  rw [List.getLastD_eq_getLast?, List.getLast?_eq_some_getLast h]; exact List.dropLast_concat_getLast h
theorem kid_iff {L : LL} (h : Inv L) {n j : Nat} (hn : n < L.length) (hj : j < L.length) : isKid L n j = true ↔ 1 ≤ j ∧ L.getD j [] = L.getD n [] ++ [num L j] := by
  unfold isKid
  rw [decide_eq_true_iff]
  constructor
  · intro e
    have h1 : 1 ≤ j := by
      rcases Nat.eq_zero_or_pos j with h0 | h0
      · subst h0; unfold parV at e; rw [if_pos (Or.inl (by omega))] at e; omega
      · exact h0
    refine ⟨h1, ?_⟩
    rw [par_at h1 hj, findV_eq h.nd hn] at e
    rw [← e]; exact (last_split (h.up j h1 hj).1).symm
  · rintro ⟨h1, e⟩
    rw [par_at h1 hj, findV_eq h.nd hn, e]; simp
theorem insN_mem {L : LL} {acc : List Nat} {j i : Nat} : i ∈ insN L acc j ↔ i = j ∨ i ∈ acc := by
  unfold insN
  rw [List.mem_append, List.mem_cons]
  constructor
  · rintro (h | h | h)
    · exact .inr (List.mem_of_mem_take h)
    · exact .inl h
    · exact .inr (List.mem_of_mem_drop h)
  · rintro (h | h)
    · exact .inr (.inl h)
    · rw [← List.take_append_drop (place (acc.map (num L)) (num L j)) acc, List.mem_append] at h
      rcases h with h | h
      · exact .inl h
      · exact .inr (.inr h)
theorem foldl_insN_mem {L : LL} : ∀ (l acc : List Nat) {i : Nat}, i ∈ l.foldl (insN L) acc ↔ i ∈ l ∨ i ∈ acc
  | [], acc, i => by simp
  | j :: l, acc, i => by
    rw [List.foldl_cons, foldl_insN_mem l, insN_mem, List.mem_cons]
    constructor
    · rintro (h | h | h)
      · exact .inl (.inr h)
      · exact .inl (.inl h)
      · exact .inr h
    · rintro ((h | h) | h)
      · exact .inr (.inl h)
      · exact .inl h
      · exact .inr (.inr h)
theorem kids_mem {L : LL} {n i : Nat} : i ∈ kids L n ↔ i < L.length ∧ isKid L n i = true := by
  unfold kids; rw [foldl_insN_mem, List.mem_filter, List.mem_range]; simp
theorem insN_len (L : LL) (acc : List Nat) (j : Nat) : (insN L acc j).length = acc.length + 1 := by
  unfold insN; rw [List.length_append, List.length_cons, List.length_take, List.length_drop]; omega
theorem foldl_insN_len {L : LL} : ∀ (l acc : List Nat), (l.foldl (insN L) acc).length = acc.length + l.length
  | [], acc => by simp
  | j :: l, acc => by rw [List.foldl_cons, foldl_insN_len l, insN_len, List.length_cons]; omega
theorem kids_len (L : LL) (n : Nat) : (kids L n).length ≤ L.length := by
  unfold kids
  rw [foldl_insN_len, List.length_nil, Nat.zero_add]
  exact Nat.le_trans (List.length_filter_le _ _) (by simp)
theorem insN_congr {L M : LL} {acc : List Nat} {j : Nat} (h : ∀ i, i ∈ acc → num L i = num M i) (hj : num L j = num M j) : insN L acc j = insN M acc j := by
  unfold insN
  rw [List.map_congr_left h, hj]
theorem foldl_congr {L M : LL} : ∀ (l acc : List Nat), (∀ i, i ∈ l → num L i = num M i) → (∀ i, i ∈ acc → num L i = num M i) → l.foldl (insN L) acc = l.foldl (insN M) acc
  | [], acc, _, _ => rfl
  | j :: l, acc, h1, h2 => by
    have hj := h1 j (List.mem_cons_self ..)
    rw [List.foldl_cons, List.foldl_cons, insN_congr h2 hj]
    refine foldl_congr l _ (fun i hi => h1 i (List.mem_cons_of_mem _ hi)) fun i hi => ?_
    rcases insN_mem.1 hi with rfl | hi
    · exact hj
    · exact h2 i hi
theorem kids_old {L : LL} (h : Inv L) {x : List Int} (h1 : x ∉ L) (h2 : x.dropLast ∈ L) {n : Nat} (hn : n < L.length) :
    kids (L ++ [x]) n = if findV L x.dropLast = n then insN (L ++ [x]) (kids L n) L.length else kids L n := by
  unfold kids
  rw [List.length_append, List.length_singleton, List.range_succ, List.filter_append, List.foldl_append]
  have e1 : (List.range L.length).filter (isKid (L ++ [x]) n) = (List.range L.length).filter (isKid L n) := by
    refine List.filter_congr fun j hj => ?_
    unfold isKid; rw [par_old h (List.mem_range.1 hj)]
  have e2 : ((List.range L.length).filter (isKid L n)).foldl (insN (L ++ [x])) [] = ((List.range L.length).filter (isKid L n)).foldl (insN L) [] := by
    refine foldl_congr _ _ (fun i hi => num_old (List.mem_range.1 (List.mem_filter.1 hi).1)) (fun i hi => by cases hi)
  rw [e1, e2]
  have e3 : isKid (L ++ [x]) n L.length = decide (findV L x.dropLast = n) := by unfold isKid; rw [par_new h h2]
  by_cases e : findV L x.dropLast = n
  · rw [if_pos e, List.filter_cons, e3, decide_eq_true e]; rfl
  · rw [if_neg e, List.filter_cons, e3, decide_eq_false e]; rfl
theorem kids_new {L : LL} (h : Inv L) {x : List Int} (h1 : x ∉ L) (h2 : x.dropLast ∈ L) : kids (L ++ [x]) L.length = [] := by
  apply List.eq_nil_iff_forall_not_mem.2
  intro i hi
  obtain ⟨a, b⟩ := kids_mem.1 hi
  have hI := h.add h1 h2
  obtain ⟨c, d⟩ := (kid_iff hI (by simp) a).1 b
  rw [gD_new] at d
  have := (hI.up i c a).2.1
  rw [d] at this
  rw [List.length_append, List.length_singleton] at a
  by_cases hi' : i < L.length
  · have h5 := (h.up i c hi').2.1
    rw [gD_app hi'] at d
    rw [d] at h5
    simp at h5
    exact h1 h5
  · obtain rfl : i = L.length := by omega
    rw [gD_new] at d
    have := congrArg List.length d
    simp at this
/-- rising -/
def Ris (K : List Int) : Prop := K.Pairwise (· ≤ ·)
theorem place_le (K : List Int) (p : Int) : place K p ≤ K.length := List.findIdx_le_length
theorem place_lt {K : List Int} {p : Int} {i : Nat} (h : i < place K p) : K.getD i 0 < p := by
  have hl := place_le K p
  have := @List.not_of_lt_findIdx _ (fun x => decide (p ≤ x)) K i h
  rw [gD (by omega)]
  simpa using this
theorem place_at {K : List Int} {p : Int} (h : place K p < K.length) : p ≤ K.getD (place K p) 0 := by
  rw [gD h]
  exact of_decide_eq_true (@List.findIdx_getElem _ (fun x => decide (p ≤ x)) K h)
theorem place_eq {K : List Int} {p : Int} {k : Nat} (hk : k ≤ K.length) (h1 : ∀ i, i < k → K.getD i 0 < p) (h2 : k < K.length → p ≤ K.getD k 0) : place K p = k := by
  rcases Nat.lt_trichotomy (place K p) k with h | h | h
  · have := h1 _ h
    have := place_at (K := K) (p := p) (by omega)
    omega
  · exact h
  · have h3 := place_lt h
    have := place_le K p
    have := h2 (by omega)
    omega
theorem ris_get {K : List Int} (h : Ris K) {i j : Nat} (hij : i ≤ j) (hj : j < K.length) : K.getD i 0 ≤ K.getD j 0 := by
  rw [gD (by omega), gD hj]
  rcases Nat.eq_or_lt_of_le hij with rfl | hlt
  · exact Int.le_refl _
  · exact (List.pairwise_iff_getElem.1 h) i j (by omega) hj hlt
theorem ris_ins {K : List Int} (h : Ris K) (p : Int) : Ris (insP K p) := by
  unfold insP Ris
  have ht := List.take_append_drop (place K p) K
  have hp : (K.take (place K p) ++ K.drop (place K p)).Pairwise (· ≤ ·) := by rw [ht]; exact h
  rw [List.pairwise_append] at hp ⊢
  obtain ⟨a, b, c⟩ := hp
  have A : ∀ x ∈ K.take (place K p), x ≤ p := by
    intro x hx
    obtain ⟨i, hi, rfl⟩ := List.getElem_of_mem hx
    rw [List.length_take] at hi
    have := place_lt (K := K) (p := p) (i := i) (by omega)
    rw [gD (by omega)] at this
    rw [List.getElem_take]; omega
  have B : ∀ x ∈ K.drop (place K p), p ≤ x := by
    intro x hx
    obtain ⟨i, hi, rfl⟩ := List.getElem_of_mem hx
    rw [List.length_drop] at hi
    have h1 := place_at (K := K) (p := p) (by omega)
    have h2 := ris_get h (i := place K p) (j := place K p + i) (by omega) (by omega)
    rw [List.getElem_drop]
    rw [gD (k := place K p + i) (by omega)] at h2
    omega
  refine ⟨a, List.pairwise_cons.2 ⟨B, b⟩, fun x hx y hy => ?_⟩
  rcases List.mem_cons.1 hy with rfl | hy
  · exact A x hx
  · exact c x hx y hy
theorem map_insN (L : LL) (acc : List Nat) (j : Nat) : (insN L acc j).map (num L) = insP (acc.map (num L)) (num L j) := by
  unfold insN insP
  rw [List.map_append, List.map_cons, List.map_take, List.map_drop]
theorem foldl_ris {L : LL} : ∀ (l acc : List Nat), Ris (acc.map (num L)) → Ris ((l.foldl (insN L) acc).map (num L))
  | [], acc, h => h
  | j :: l, acc, h => by rw [List.foldl_cons]; exact foldl_ris l _ (by rw [map_insN]; exact ris_ins h _)
theorem kids_ris (L : LL) (n : Nat) : Ris ((kids L n).map (num L)) := foldl_ris _ _ List.Pairwise.nil
theorem map_foldl (L : LL) : ∀ (l acc : List Nat), (l.foldl (insN L) acc).map (num L) = (l.map (num L)).foldl insP (acc.map (num L))
  | [], acc => rfl
  | j :: l, acc => by rw [List.foldl_cons, map_foldl L l, map_insN, List.map_cons, List.foldl_cons]
/-- a node's child, looked for in its children -/
theorem child_hit {L : LL} (h : Inv L) {n : Nat} (hn : n < L.length) {p : Int} {q : Nat} (hq : q < (kids L n).length) (e : num L ((kids L n).getD q 0) = p) : childV L n p = ((kids L n).getD q 0 : Nat) := by
  have hm := kids_mem.1 (gD_mem (d := 0) hq)
  have := (kid_iff h hn hm.1).1 hm.2
  unfold childV out
  rw [if_neg (by omega), Int.toNat_natCast, findV_eq h.nd hm.1, this.2, e]
theorem child_none {L : LL} (h : Inv L) {n : Nat} (hn : n < L.length) {p : Int} (hp : place ((kids L n).map (num L)) p = (kids L n).length ∨ num L ((kids L n).getD (place ((kids L n).map (num L)) p) 0) ≠ p) : childV L n p = -1 := by
  unfold childV out
  rw [if_neg (by omega), Int.toNat_natCast]
  refine findV_not fun hm => ?_
  have h1 := idx_lt_iff.2 hm
  have h2 := idx_at hm
  generalize idx L (L.getD n [] ++ [p]) = j at h1 h2
  have hj1 : 1 ≤ j := by
    rcases Nat.eq_zero_or_pos j with h0 | h0
    · subst h0; rw [h.root] at h2; simp at h2
    · exact h0
  have hnum : num L j = p := by unfold num; rw [h2]; simp
  have hk : j ∈ kids L n := kids_mem.2 ⟨h1, (kid_iff h hn h1).2 ⟨hj1, by rw [hnum]; exact h2⟩⟩
  obtain ⟨i, hi, hij⟩ := List.getElem_of_mem hk
  have hnk : ∀ i, i < (kids L n).length → ((kids L n).map (num L)).getD i 0 = num L ((kids L n).getD i 0) := fun i hi => by
    rw [gD (by simpa using hi), gD hi, List.getElem_map]
  have hi2 : ((kids L n).map (num L)).getD i 0 = p := by rw [hnk i hi, gD hi, hij, hnum]
  have hpl := place_le ((kids L n).map (num L)) p
  rw [List.length_map] at hpl
  rcases Nat.lt_or_ge i (place ((kids L n).map (num L)) p) with hlt | hge
  · have := place_lt hlt; omega
  · rcases hp with hp | hp
    · omega
    · refine hp ?_
      rw [← hnk _ (by omega)]
      have h3 := place_at (K := (kids L n).map (num L)) (p := p) (by rw [List.length_map]; omega)
      have h4 := ris_get (kids_ris L n) hge (by rw [List.length_map]; omega)
      omega
end Tr
end Go.Proofs.Ytpkikhoicobmcaa

/- A word put into paths; how far it is known; where words end; rows of words: plain facts. No condition. -/
namespace Go.Proofs.Ytpkikhoicobmcaa
set_option linter.unusedVariables false
namespace Tr
def kn (L : LL) (w : List Int) : Nat → Nat
  | 0 => 0
  | k + 1 => if w.take (k + 1) ∈ L then k + 1 else kn L w k
theorem kn_le (L : LL) (w : List Int) : ∀ k, kn L w k ≤ k
  | 0 => Nat.le_refl _
  | k + 1 => by
    have := kn_le L w k
    unfold kn; split <;> omega
theorem kn_mem {L : LL} (h : Inv L) (w : List Int) : ∀ k, w.take (kn L w k) ∈ L
  | 0 => by simpa [kn] using h.nil
  | k + 1 => by
    unfold kn; split
    · assumption
    · exact kn_mem h w k
theorem kn_above {L : LL} (w : List Int) : ∀ k {j}, kn L w k < j → j ≤ k → w.take j ∉ L
  | 0, j, h1, h2 => by omega
  | k + 1, j, h1, h2 => by
    unfold kn at h1
    split at h1
    · omega
    · rename_i hk
      by_cases e : j = k + 1
      · subst e; exact hk
      · exact kn_above w k h1 (by omega)
def known (L : LL) (w : List Int) : Nat := kn L w w.length
theorem known_le (L : LL) (w : List Int) : known L w ≤ w.length := kn_le _ _ _
theorem known_mem {L : LL} (h : Inv L) (w : List Int) : w.take (known L w) ∈ L := kn_mem h w _
theorem known_above {L : LL} {w : List Int} {j : Nat} (h1 : known L w < j) (h2 : j ≤ w.length) : w.take j ∉ L := kn_above w _ h1 h2
theorem known_below {L : LL} (h : Inv L) {w : List Int} {j : Nat} (h1 : j ≤ known L w) : w.take j ∈ L := by
  have := h.take (known_mem h w) j
  rwa [List.take_take, Nat.min_eq_left h1] at this
theorem known_eq {L : LL} (h : Inv L) {w : List Int} {k : Nat} (hk : k ≤ w.length) (hm : w.take k ∈ L) (hn : k = w.length ∨ w.take (k + 1) ∉ L) : known L w = k := by
  have h1 := known_le L w
  rcases Nat.lt_trichotomy (known L w) k with hlt | e | hgt
  · exact absurd hm (known_above hlt hk)
  · exact e
  · rcases hn with hn | hn
    · omega
    · exact absurd (known_below h (by omega)) hn
def walkN (L : LL) (w : List Int) : Int := findV L (w.take (known L w))
def putK (L : LL) (w : List Int) : Nat → LL
  | 0 => L
  | k + 1 => if w.take (k + 1) ∈ putK L w k then putK L w k else putK L w k ++ [w.take (k + 1)]
def putL (L : LL) (w : List Int) : LL := putK L w w.length
theorem take_drop1 {w : List Int} {k : Nat} (hk : k < w.length) : (w.take (k + 1)).dropLast = w.take k := by
  rw [List.dropLast_eq_take, List.length_take, List.take_take]; congr 1; omega
theorem putK_inv {L : LL} (h : Inv L) (w : List Int) : ∀ k, k ≤ w.length → Inv (putK L w k) ∧ w.take k ∈ putK L w k
  | 0, _ => ⟨h, by simpa [putK] using h.nil⟩
  | k + 1, hk => by
    obtain ⟨a, b⟩ := putK_inv h w k (by omega)
    unfold putK
    split
    · exact ⟨a, by assumption⟩
    · exact ⟨a.add (by assumption) (by rw [take_drop1 (by omega)]; exact b), by simp⟩
theorem putK_mem {L : LL} {w : List Int} : ∀ {k x}, x ∈ putK L w k ↔ x ∈ L ∨ ∃ j, 1 ≤ j ∧ j ≤ k ∧ x = w.take j
  | 0, x => by
    unfold putK
    constructor
    · exact .inl
    · rintro (h | ⟨j, a, b, _⟩)
      · exact h
      · omega
  | k + 1, x => by
    have ih := @putK_mem L w k
    have H : x ∈ putK L w (k + 1) ↔ x ∈ putK L w k ∨ x = w.take (k + 1) := by
      conv => lhs; unfold putK
      split
      · constructor
        · exact .inl
        · rintro (h | h)
          · exact h
          · rw [h]; assumption
      · rw [List.mem_append, List.mem_singleton]
    rw [H, ih]
    constructor
    · rintro ((h | ⟨j, a, b, c⟩) | h)
      · exact .inl h
      · exact .inr ⟨j, a, by omega, c⟩
      · exact .inr ⟨k + 1, by omega, Nat.le_refl _, h⟩
    · rintro (h | ⟨j, a, b, c⟩)
      · exact .inl (.inl h)
      · by_cases e : j = k + 1
        · exact .inr (by rw [c, e])
        · exact .inl (.inr ⟨j, a, by omega, c⟩)
theorem putK_app (L : LL) (w : List Int) : ∀ k, ∃ M, putK L w k = L ++ M ∧ M.length ≤ k
  | 0 => ⟨[], by simp [putK], Nat.le_refl _⟩
  | k + 1 => by
    obtain ⟨M, e, hl⟩ := putK_app L w k
    unfold putK
    split
    · exact ⟨M, e, by omega⟩
    · exact ⟨M ++ [w.take (k + 1)], by rw [e, List.append_assoc], by rw [List.length_append, List.length_singleton]; omega⟩
theorem putK_len (L : LL) (w : List Int) (k : Nat) : L.length ≤ (putK L w k).length ∧ (putK L w k).length ≤ L.length + k := by
  obtain ⟨M, e, hl⟩ := putK_app L w k
  rw [e, List.length_append]; omega
theorem putK_below {L : LL} (h : Inv L) (w : List Int) : ∀ k, k ≤ known L w → putK L w k = L
  | 0, _ => rfl
  | k + 1, hk => by
    unfold putK
    rw [putK_below h w k (by omega), if_pos (known_below h hk)]
theorem putK_fresh {L : LL} {w : List Int} {k : Nat} (h1 : known L w ≤ k) (h2 : k < w.length) : w.take (k + 1) ∉ putK L w k := by
  intro hm
  rcases putK_mem.1 hm with hm | ⟨j, a, b, c⟩
  · exact known_above (by omega) (by omega) hm
  · have := congrArg List.length c
    rw [List.length_take, List.length_take] at this
    omega
theorem putK_above {L : LL} {w : List Int} {k : Nat} (h1 : known L w ≤ k) (h2 : k < w.length) : putK L w (k + 1) = putK L w k ++ [w.take (k + 1)] := by
  conv => lhs; unfold putK
  rw [if_neg (putK_fresh h1 h2)]
theorem putL_inv {L : LL} (h : Inv L) (w : List Int) : Inv (putL L w) := (putK_inv h w _ (Nat.le_refl _)).1
theorem putL_self {L : LL} (h : Inv L) (w : List Int) : w ∈ putL L w := by
  have := (putK_inv h w _ (Nat.le_refl _)).2
  rwa [List.take_of_length_le (Nat.le_refl _)] at this
theorem putL_keeps {L : LL} {w x : List Int} (h : x ∈ L) : x ∈ putL L w := putK_mem.2 (.inl h)
theorem putL_old {L : LL} {w x : List Int} (h : x ∈ L) : findV (putL L w) x = findV L x := by
  obtain ⟨M, e, _⟩ := putK_app L w w.length
  unfold putL; rw [e]; exact findV_old h
/-- where words end -/
def wordV (L W : LL) (i : Int) : Int := if out W i then -1 else findV L (W.getD i.toNat [])
def wordsV (L W : LL) (n : Int) : List Int := ((List.range W.length).filter fun i => decide (findV L (W.getD i []) = n)).map fun (i : Nat) => (i : Int)
def endsV (L W : LL) : List Int := W.map (findV L)
theorem wordsV_out {L W : LL} (hW : ∀ x ∈ W, x ∈ L) {n : Int} (hn : out L n) : wordsV L W n = [] := by
  unfold wordsV
  rw [List.map_eq_nil_iff, List.filter_eq_nil_iff]
  intro i hi
  have h1 := findV_in L (W.getD i [])
  have h2 := findV_pos.2 (hW _ (gD_mem (d := []) (List.mem_range.1 hi)))
  unfold out at hn
  rw [decide_eq_true_iff]; omega
theorem wordsV_grow {L W : LL} (hW : ∀ x ∈ W, x ∈ L) (M : LL) (n : Int) : wordsV (L ++ M) W n = wordsV L W n := by
  unfold wordsV
  congr 1
  refine List.filter_congr fun i hi => ?_
  rw [findV_old (hW _ (gD_mem (d := []) (List.mem_range.1 hi)))]
theorem endsV_grow {L W : LL} (hW : ∀ x ∈ W, x ∈ L) (M : LL) : endsV (L ++ M) W = endsV L W := List.map_congr_left fun x hx => findV_old (hW x hx)
theorem wordsV_add (L W : LL) (w : List Int) (n : Int) : wordsV L (W ++ [w]) n = if findV L w = n then wordsV L W n ++ [(W.length : Int)] else wordsV L W n := by
  unfold wordsV
  rw [List.length_append, List.length_singleton, List.range_succ, List.filter_append, List.map_append]
  have e1 : ((List.range W.length).filter fun i => decide (findV L ((W ++ [w]).getD i []) = n)) = ((List.range W.length).filter fun i => decide (findV L (W.getD i []) = n)) := by
    refine List.filter_congr fun i hi => ?_
    rw [gD_app (List.mem_range.1 hi)]
  rw [e1]
  by_cases e : findV L w = n
  · rw [if_pos e, List.filter_cons, gD_new, decide_eq_true e]; rfl
  · rw [if_neg e, List.filter_cons, gD_new, decide_eq_false e]; simp
theorem wordsV_len (L W : LL) (n : Int) : (wordsV L W n).length ≤ W.length := by
  unfold wordsV; rw [List.length_map]
  exact Nat.le_trans (List.length_filter_le _ _) (by simp)
/-- a tree with its words -/
structure Iw (L W : LL) : Prop where
  inv : Inv L
  ws : ∀ x ∈ W, x ∈ L ∧ x ≠ []
def stepT (T : LL × LL) (w : List Int) : LL × LL := if w = [] then T else (putL T.1 w, T.2 ++ [w])
theorem stepT_iw {T : LL × LL} (h : Iw T.1 T.2) (w : List Int) : Iw (stepT T w).1 (stepT T w).2 := by
  unfold stepT
  split
  · exact h
  · refine ⟨putL_inv h.inv w, fun x hx => ?_⟩
    rcases List.mem_append.1 hx with hx | hx
    · exact ⟨putL_keeps (h.ws x hx).1, (h.ws x hx).2⟩
    · rw [List.mem_singleton] at hx; subst hx
      exact ⟨putL_self h.inv _, by assumption⟩
def treeOf (ws : LL) : LL × LL := ws.foldl stepT ([[]], [])
theorem treeOf_snoc (ws : LL) (w : List Int) : treeOf (ws ++ [w]) = stepT (treeOf ws) w := by unfold treeOf; rw [List.foldl_append]; rfl
theorem foldl_iw : ∀ (ws : LL) {T : LL × LL}, Iw T.1 T.2 → Iw (ws.foldl stepT T).1 (ws.foldl stepT T).2
  | [], _, h => h
  | w :: ws, _, h => foldl_iw ws (stepT_iw h w)
theorem treeOf_iw (ws : LL) : Iw (treeOf ws).1 (treeOf ws).2 := foldl_iw ws ⟨Inv.start, fun x hx => by cases hx⟩
theorem foldl_words : ∀ (ws : LL) (T : LL × LL), (ws.foldl stepT T).2 = T.2 ++ ws.filter (fun w => decide (w ≠ []))
  | [], T => by simp
  | w :: ws, T => by
    rw [List.foldl_cons, foldl_words ws, List.filter_cons]
    unfold stepT
    by_cases h : w = []
    · simp [h]
    · simp [h]
theorem treeOf_words (ws : LL) : (treeOf ws).2 = ws.filter (fun w => decide (w ≠ [])) := by unfold treeOf; rw [foldl_words]; rfl
theorem foldl_mem : ∀ (ws : LL) (T : LL × LL) {x : List Int}, x ∈ (ws.foldl stepT T).1 ↔ x ∈ T.1 ∨ ∃ w ∈ ws, ∃ j, 1 ≤ j ∧ j ≤ w.length ∧ x = w.take j
  | [], T, x => by simp
  | w :: ws, T, x => by
    rw [List.foldl_cons, foldl_mem ws]
    have H : x ∈ (stepT T w).1 ↔ x ∈ T.1 ∨ ∃ j, 1 ≤ j ∧ j ≤ w.length ∧ x = w.take j := by
      unfold stepT
      split
      · rename_i h; subst h
        constructor
        · exact .inl
        · rintro (h | ⟨j, a, b, _⟩)
          · exact h
          · simp at b; omega
      · exact putK_mem
    rw [H]
    constructor
    · rintro ((h | h) | ⟨v, hv, h⟩)
      · exact .inl h
      · exact .inr ⟨w, List.mem_cons_self .., h⟩
      · exact .inr ⟨v, List.mem_cons_of_mem _ hv, h⟩
    · rintro (h | ⟨v, hv, h⟩)
      · exact .inl (.inl h)
      · rcases List.mem_cons.1 hv with rfl | hv
        · exact .inl (.inr h)
        · exact .inr ⟨v, hv, h⟩
theorem foldl_len : ∀ (ws : LL) (T : LL × LL), (∀ w ∈ ws, w.length ≤ 5) → (ws.foldl stepT T).1.length ≤ T.1.length + 5 * ws.length ∧ (ws.foldl stepT T).2.length ≤ T.2.length + ws.length
  | [], T, _ => ⟨Nat.le_refl _, Nat.le_refl _⟩
  | w :: ws, T, h => by
    have h1 := foldl_len ws (stepT T w) (fun v hv => h v (List.mem_cons_of_mem _ hv))
    have h2 := h w (List.mem_cons_self ..)
    have h3 : (stepT T w).1.length ≤ T.1.length + 5 ∧ (stepT T w).2.length ≤ T.2.length + 1 := by
      unfold stepT
      split
      · exact ⟨by omega, by omega⟩
      · have := (putK_len T.1 w w.length).2
        refine ⟨?_, by simp⟩
        show (putK T.1 w w.length).length ≤ _
        omega
    rw [List.foldl_cons, List.length_cons]; omega
theorem treeOf_len (ws : LL) (h : ∀ w ∈ ws, w.length ≤ 5) : (treeOf ws).1.length ≤ 1 + 5 * ws.length ∧ (treeOf ws).2.length ≤ ws.length := by
  have := foldl_len ws ([[]], []) h
  unfold treeOf
  simp only [List.length_singleton, List.length_nil] at this
  omega
theorem putL_twice {L : LL} {w : List Int} (h : Inv L) (hw : w ∈ L) : putL L w = L := by
  refine putK_below h w _ ?_
  rw [known_eq h (Nat.le_refl _) (by rwa [List.take_of_length_le (Nat.le_refl _)]) (.inl rfl)]
  exact Nat.le_refl _
end Tr
end Go.Proofs.Ytpkikhoicobmcaa

/- Words looked for all at once: last numbers, falls, links, what ends; nodes by their depth: plain facts. No condition. -/
namespace Go.Proofs.Ytpkikhoicobmcaa
set_option linter.unusedVariables false
open Tr
namespace Au
/-- the longest last numbers that a path is of -/
def suf (L : LL) : List Int → List Int
  | [] => []
  | x :: t => if (x :: t) ∈ L then x :: t else suf L t
theorem suf_nil (L : LL) : suf L [] = [] := rfl
theorem suf_in {L : LL} {x : Int} {t : List Int} (h : (x :: t) ∈ L) : suf L (x :: t) = x :: t := by rw [suf, if_pos h]
theorem suf_out {L : LL} {x : Int} {t : List Int} (h : (x :: t) ∉ L) : suf L (x :: t) = suf L t := by rw [suf, if_neg h]
theorem suf_self {L : LL} {l : List Int} (h : l ∈ L) : suf L l = l := by
  cases l with
  | nil => rfl
  | cons x t => exact suf_in h
theorem suf_mem {L : LL} (h : Inv L) : ∀ l, suf L l ∈ L
  | [] => h.nil
  | x :: t => by
    by_cases hm : (x :: t) ∈ L
    · rw [suf_in hm]; exact hm
    · rw [suf_out hm]; exact suf_mem h t
theorem suf_suffix (L : LL) : ∀ l, suf L l <:+ l
  | [] => List.suffix_refl _
  | x :: t => by
    by_cases hm : (x :: t) ∈ L
    · rw [suf_in hm]; exact List.suffix_refl _
    · rw [suf_out hm]; exact (suf_suffix L t).trans (List.suffix_cons _ _)
theorem suf_len (L : LL) (l : List Int) : (suf L l).length ≤ l.length := (suf_suffix L l).length_le
theorem suf_long {L : LL} : ∀ {l s : List Int}, s <:+ l → s ∈ L → s <:+ suf L l
  | [], s, h, _ => h
  | x :: t, s, h, hs => by
    by_cases hm : (x :: t) ∈ L
    · rw [suf_in hm]; exact h
    · rw [suf_out hm]
      rcases List.suffix_cons_iff.1 h with e | h
      · exact absurd (e ▸ hs) hm
      · exact suf_long h hs
theorem suf_app {L : LL} (h : Inv L) (p : Int) : ∀ l, suf L (l ++ [p]) = suf L (suf L l ++ [p])
  | [] => rfl
  | x :: t => by
    by_cases hm : (x :: t) ∈ L
    · rw [suf_in hm]
    · rw [suf_out hm, ← suf_app h p t, List.cons_append, suf_out]
      intro hh
      have := h.path hh (by simp)
      rw [← List.cons_append, List.dropLast_concat] at this
      exact hm this
theorem suf_snoc_in {L : LL} {q : List Int} {p : Int} (h : (q ++ [p]) ∈ L) : suf L (q ++ [p]) = q ++ [p] := suf_self h
theorem suf_snoc_out {L : LL} {q : List Int} {p : Int} (hI : Inv L) (h : (q ++ [p]) ∉ L) (h0 : q ≠ []) : suf L (q ++ [p]) = suf L (suf L q.tail ++ [p]) := by
  cases q with
  | nil => exact absurd rfl h0
  | cons x t =>
    have h' : (x :: (t ++ [p])) ∉ L := h
    rw [List.cons_append, suf_out h', List.tail_cons, ← suf_app hI]
/-- the node of the longest last numbers -/
def deep (L : LL) (l : List Int) : Nat := idx L (suf L l)
theorem deep_lt {L : LL} (h : Inv L) (l : List Int) : deep L l < L.length := idx_lt_iff.2 (suf_mem h l)
theorem deep_at {L : LL} (h : Inv L) (l : List Int) : L.getD (deep L l) [] = suf L l := idx_at (suf_mem h l)
theorem idx_nil {L : LL} (h : Inv L) : idx L [] = 0 := idx_hit h.pos h.root (fun j hj => by omega)
theorem deep_nil {L : LL} (h : Inv L) : deep L [] = 0 := idx_nil h
theorem idx_getD {L : LL} (h : Inv L) {k : Nat} (hk : k < L.length) : idx L (L.getD k []) = k := by
  have h1 := findV_self h.nd hk
  rw [findV_mem (gD_mem hk)] at h1
  omega
theorem path_ne {L : LL} (h : Inv L) {k : Nat} (h1 : 1 ≤ k) (h2 : k < L.length) : L.getD k [] ≠ [] := (h.up k h1 h2).1
def fallV (L : LL) (k : Int) : Int := if k < 1 ∨ (L.length : Int) ≤ k then -1 else (deep L (L.getD k.toNat []).tail : Nat)
def nextV (L : LL) (k p : Int) : Int := if out L k then -1 else (deep L (L.getD k.toNat [] ++ [p]) : Nat)
theorem fall_at {L : LL} {k : Nat} (h1 : 1 ≤ k) (h2 : k < L.length) : fallV L k = (deep L (L.getD k []).tail : Nat) := by
  unfold fallV; rw [if_neg (by omega), Int.toNat_natCast]
theorem fall_zero (L : LL) : fallV L 0 = -1 := by unfold fallV; rw [if_pos (by omega)]
theorem fall_out {L : LL} {k : Int} (h : out L k) : fallV L k = -1 := by
  unfold fallV; rw [if_pos]; rcases h with h | h
  · left; omega
  · right; exact h
theorem next_at {L : LL} {k : Nat} (h2 : k < L.length) (p : Int) : nextV L k p = (deep L (L.getD k [] ++ [p]) : Nat) := by
  unfold nextV; rw [if_neg (by unfold out; omega), Int.toNat_natCast]
theorem next_out {L : LL} {k : Int} (h : out L k) (p : Int) : nextV L k p = -1 := by unfold nextV; rw [if_pos h]
/-- a fall is less deep -/
theorem fall_less {L : LL} (h : Inv L) {k : Nat} (h1 : 1 ≤ k) (h2 : k < L.length) : (L.getD (deep L (L.getD k []).tail) []).length < (L.getD k []).length := by
  rw [deep_at h]
  have h3 := suf_len L (L.getD k []).tail
  have h4 := path_ne h h1 h2
  have h5 : 0 < (L.getD k []).length := List.length_pos_iff.2 h4
  rw [List.length_tail] at h3
  omega
/-- behind a number: a child -/
theorem next_child {L : LL} {k : Nat} (hk : k < L.length) {p : Int} (h : childV L k p ≠ -1) : nextV L k p = childV L k p := by
  have hm : (L.getD k [] ++ [p]) ∈ L := by
    unfold childV at h
    rw [if_neg (by unfold out; omega), Int.toNat_natCast] at h
    refine findV_pos.1 ?_
    have := findV_in L (L.getD k [] ++ [p])
    omega
  rw [next_at hk]
  unfold childV
  rw [if_neg (by unfold out; omega), Int.toNat_natCast, findV_mem hm]
  unfold deep
  rw [suf_self hm]
theorem next_root {L : LL} (hI : Inv L) {p : Int} (h : childV L (0 : Nat) p = -1) : nextV L (0 : Nat) p = 0 := by
  have hp := hI.pos
  have hm : ([] ++ [p]) ∉ L := by
    intro hm
    unfold childV at h
    rw [if_neg (by unfold out; omega), Int.toNat_natCast, hI.root, findV_mem hm] at h
    omega
  rw [next_at hp, hI.root]
  unfold deep
  rw [List.nil_append] at hm ⊢
  rw [suf_out hm, suf_nil, idx_nil hI]; rfl
theorem next_fall {L : LL} (hI : Inv L) {k : Nat} (h1 : 1 ≤ k) (hk : k < L.length) {p : Int} (h : childV L k p = -1) : nextV L k p = nextV L (deep L (L.getD k []).tail : Nat) p := by
  have hm : (L.getD k [] ++ [p]) ∉ L := by
    intro hm
    unfold childV at h
    rw [if_neg (by unfold out; omega), Int.toNat_natCast, findV_mem hm] at h
    omega
  rw [next_at hk, next_at (deep_lt hI _), deep_at hI]
  unfold deep
  rw [suf_snoc_out hI hm (path_ne hI h1 hk)]
/-- the state that numbers lead to from the root on -/
theorem next_run {L : LL} (hI : Inv L) (l : List Int) (p : Int) : nextV L (deep L l : Nat) p = (deep L (l ++ [p]) : Nat) := by
  rw [next_at (deep_lt hI _), deep_at hI]
  unfold deep
  rw [← suf_app hI]
/-- a node's fall, by its parent's -/
theorem fall_child {L : LL} (hI : Inv L) {j : Nat} (h1 : 1 ≤ j) (hj : j < L.length) {u : Nat} (hu : parV L j = (u : Int)) (hu1 : 1 ≤ u) (hul : u < L.length) :
    fallV L j = nextV L (deep L (L.getD u []).tail : Nat) (num L j) := by
  have hk := (kid_iff hI hul hj).1 (by unfold isKid; exact decide_eq_true hu)
  have hne := path_ne hI hu1 hul
  rw [fall_at h1 hj, next_run hI, hk.2, List.tail_append_of_ne_nil hne]
theorem fall_first {L : LL} (hI : Inv L) {j : Nat} (h1 : 1 ≤ j) (hj : j < L.length) (hu : parV L j = 0) : fallV L j = 0 := by
  have hk := (kid_iff hI hI.pos hj).1 (by unfold isKid; exact decide_eq_true hu)
  rw [fall_at h1 hj, hk.2, hI.root]
  show ((deep L [] : Nat) : Int) = 0
  rw [deep_nil hI]; rfl
/-- the longest last numbers that are a word -/
def lnk (W : LL) : List Int → List Int
  | [] => []
  | x :: t => if (x :: t) ∈ W then x :: t else lnk W t
theorem lnk_in {L : LL} {x : Int} {t : List Int} (h : (x :: t) ∈ L) : lnk L (x :: t) = x :: t := by rw [lnk, if_pos h]
theorem lnk_out {L : LL} {x : Int} {t : List Int} (h : (x :: t) ∉ L) : lnk L (x :: t) = lnk L t := by rw [lnk, if_neg h]
theorem lnk_self {L : LL} {l : List Int} (h : l ∈ L) : lnk L l = l := by
  cases l with
  | nil => rfl
  | cons x t => exact lnk_in h
theorem lnk_suffix (L : LL) : ∀ l, lnk L l <:+ l
  | [] => List.suffix_refl _
  | x :: t => by
    by_cases hm : (x :: t) ∈ L
    · rw [lnk_in hm]; exact List.suffix_refl _
    · rw [lnk_out hm]; exact (lnk_suffix L t).trans (List.suffix_cons _ _)
theorem lnk_mem {L : LL} : ∀ {l : List Int}, lnk L l ≠ [] → lnk L l ∈ L
  | [], h => absurd rfl h
  | x :: t, h => by
    by_cases hm : (x :: t) ∈ L
    · rw [lnk_in hm]; exact hm
    · rw [lnk_out hm] at h ⊢; exact lnk_mem h
theorem lnk_long {L : LL} : ∀ {l s : List Int}, s <:+ l → s ∈ L → s <:+ lnk L l
  | [], s, h, _ => h
  | x :: t, s, h, hs => by
    by_cases hm : (x :: t) ∈ L
    · rw [lnk_in hm]; exact h
    · rw [lnk_out hm]
      rcases List.suffix_cons_iff.1 h with e | h
      · exact absurd (e ▸ hs) hm
      · exact lnk_long h hs
theorem lnk_suf {L W : LL} (hW : ∀ x ∈ W, x ∈ L) : ∀ l, lnk W l = lnk W (suf L l)
  | [] => rfl
  | x :: t => by
    by_cases hm : (x :: t) ∈ L
    · rw [suf_in hm]
    · rw [suf_out hm, lnk_out (fun h => hm (hW _ h)), lnk_suf hW t]
def nodeV (L : LL) (p : List Int) : Int := if p = [] then -1 else (idx L p : Nat)
def endV (L W : LL) (k : Int) : Int := if out L k then -1 else nodeV L (lnk W (L.getD k.toNat []))
def linkV (L W : LL) (k : Int) : Int := if out L k then -1 else nodeV L (lnk W (L.getD k.toNat []).tail)
theorem end_at {L W : LL} {k : Nat} (h : k < L.length) : endV L W k = nodeV L (lnk W (L.getD k [])) := by unfold endV; rw [if_neg (by unfold out; omega), Int.toNat_natCast]
theorem link_at {L W : LL} {k : Nat} (h : k < L.length) : linkV L W k = nodeV L (lnk W (L.getD k []).tail) := by unfold linkV; rw [if_neg (by unfold out; omega), Int.toNat_natCast]
theorem end_out {L W : LL} {k : Int} (h : out L k) : endV L W k = -1 := by unfold endV; rw [if_pos h]
theorem link_out {L W : LL} {k : Int} (h : out L k) : linkV L W k = -1 := by unfold linkV; rw [if_pos h]
theorem link_zero {L : LL} (hI : Inv L) (W : LL) : linkV L W 0 = -1 := by
  have h := link_at (W := W) hI.pos
  rw [hI.root] at h
  exact h
theorem words_ne {L W : LL} (hI : Inv L) {k : Nat} (hk : k < L.length) : wordsV L W k ≠ [] ↔ L.getD k [] ∈ W := by
  unfold wordsV
  rw [Ne, List.map_eq_nil_iff, List.filter_eq_nil_iff]
  constructor
  · intro h
    simp only [List.mem_range, decide_eq_true_eq] at h
    apply Classical.byContradiction
    intro hn
    refine h fun i hi e => hn ?_
    rw [findV_eq hI.nd hk] at e
    rw [← e]; exact gD_mem hi
  · intro h hn
    have hi := idx_lt_iff.2 h
    refine hn _ (List.mem_range.2 hi) ?_
    rw [decide_eq_true_iff, findV_eq hI.nd hk, idx_at h]
theorem end_words {L W : LL} (hI : Inv L) {k : Nat} (hk : k < L.length) (h : wordsV L W k ≠ []) (hW0 : [] ∉ W) : endV L W k = k := by
  have hm := (words_ne hI hk).1 h
  rw [end_at hk, lnk_self hm]
  unfold nodeV
  rw [if_neg (fun e => hW0 (by rw [e] at hm; exact hm)), idx_getD hI hk]
theorem end_link {L W : LL} (hI : Inv L) {k : Nat} (hk : k < L.length) (h : wordsV L W k = []) : endV L W k = linkV L W k := by
  have hm : L.getD k [] ∉ W := fun hm => (words_ne hI hk).2 hm h
  rw [end_at hk, link_at hk]
  cases hq : L.getD k [] with
  | nil => rfl
  | cons x t => rw [hq] at hm; rw [lnk_out hm]; rfl
/-- a link is what ends at the fall -/
theorem link_fall {L W : LL} (hI : Inv L) (hW : ∀ x ∈ W, x ∈ L) {k : Nat} (hk : k < L.length) : linkV L W k = endV L W (deep L (L.getD k []).tail : Nat) := by
  rw [link_at hk, end_at (deep_lt hI _), deep_at hI, ← lnk_suf hW]
theorem node_in {L W : LL} (hW : ∀ x ∈ W, x ∈ L) (l : List Int) : nodeV L (lnk W l) = -1 ∨ ∃ e : Nat, nodeV L (lnk W l) = (e : Int) ∧ e < L.length ∧ L.getD e [] = lnk W l ∧ lnk W l ∈ W ∧ lnk W l ≠ [] := by
  unfold nodeV
  by_cases h : lnk W l = []
  · rw [if_pos h]; exact .inl rfl
  · rw [if_neg h]
    exact .inr ⟨_, rfl, idx_lt_iff.2 (hW _ (lnk_mem h)), idx_at (hW _ (lnk_mem h)), lnk_mem h, h⟩
/-- the words that are these numbers; all that end, longest first; what ends, rising -/
def same (W : LL) (q : List Int) : List Int := ((List.range W.length).filter fun i => decide (W.getD i [] = q)).map fun (i : Nat) => (i : Int)
def chain (W : LL) : List Int → List Int
  | [] => []
  | x :: t => same W (x :: t) ++ chain W t
def fin (W : LL) (q : List Int) : List Int := ((List.range W.length).filter fun i => decide (W.getD i [] <:+ q)).map fun (i : Nat) => (i : Int)
def finV (L W : LL) (k : Int) : List Int := if out L k then [] else fin W (L.getD k.toNat [])
theorem fin_at {L W : LL} {k : Nat} (h : k < L.length) : finV L W k = fin W (L.getD k []) := by unfold finV; rw [if_neg (by unfold out; omega), Int.toNat_natCast]
theorem same_words {L W : LL} (hI : Inv L) {k : Nat} (hk : k < L.length) : wordsV L W k = same W (L.getD k []) := by
  unfold wordsV same
  congr 1
  refine List.filter_congr fun i _ => ?_
  rw [decide_eq_decide, findV_eq hI.nd hk]
theorem same_none {W : LL} {q : List Int} (h : q ∉ W) : same W q = [] := by
  unfold same
  rw [List.map_eq_nil_iff, List.filter_eq_nil_iff]
  intro i hi
  rw [decide_eq_true_iff]
  intro e
  exact h (by rw [← e]; exact gD_mem (List.mem_range.1 hi))
theorem chain_lnk (W : LL) : ∀ l, chain W l = chain W (lnk W l)
  | [] => rfl
  | x :: t => by
    by_cases hm : (x :: t) ∈ W
    · rw [lnk_in hm]
    · rw [lnk_out hm, chain, same_none hm, List.nil_append, chain_lnk W t]
theorem chain_step {W : LL} {q : List Int} (h : q ≠ []) : chain W q = same W q ++ chain W q.tail := by
  cases q with
  | nil => exact absurd rfl h
  | cons x t => rfl
theorem mem_same {W : LL} {q : List Int} {z : Int} : z ∈ same W q ↔ ∃ i : Nat, z = i ∧ i < W.length ∧ W.getD i [] = q := by
  unfold same
  simp only [List.mem_map, List.mem_filter, List.mem_range, decide_eq_true_eq]
  constructor
  · rintro ⟨i, ⟨h1, h2⟩, rfl⟩; exact ⟨i, rfl, h1, h2⟩
  · rintro ⟨i, rfl, h1, h2⟩; exact ⟨i, ⟨h1, h2⟩, rfl⟩
theorem mem_fin {W : LL} {q : List Int} {z : Int} : z ∈ fin W q ↔ ∃ i : Nat, z = i ∧ i < W.length ∧ W.getD i [] <:+ q := by
  unfold fin
  simp only [List.mem_map, List.mem_filter, List.mem_range, decide_eq_true_eq]
  constructor
  · rintro ⟨i, ⟨h1, h2⟩, rfl⟩; exact ⟨i, rfl, h1, h2⟩
  · rintro ⟨i, rfl, h1, h2⟩; exact ⟨i, ⟨h1, h2⟩, rfl⟩
theorem mem_chain {W : LL} (hW : [] ∉ W) : ∀ {q : List Int} {z : Int}, z ∈ chain W q ↔ ∃ i : Nat, z = i ∧ i < W.length ∧ W.getD i [] <:+ q
  | [], z => by
    constructor
    · intro h; cases h
    · rintro ⟨i, rfl, h1, h2⟩
      have := List.suffix_nil.1 h2
      exact absurd (by rw [← this]; exact gD_mem h1) hW
  | x :: t, z => by
    rw [chain, List.mem_append, mem_same, mem_chain hW]
    constructor
    · rintro (⟨i, rfl, h1, h2⟩ | ⟨i, rfl, h1, h2⟩)
      · exact ⟨i, rfl, h1, by rw [h2]; exact List.suffix_refl _⟩
      · exact ⟨i, rfl, h1, h2.trans (List.suffix_cons _ _)⟩
    · rintro ⟨i, rfl, h1, h2⟩
      rcases List.suffix_cons_iff.1 h2 with e | e
      · exact .inl ⟨i, rfl, h1, e⟩
      · exact .inr ⟨i, rfl, h1, e⟩
theorem range_up (n : Nat) (p : Nat → Bool) : (((List.range n).filter p).map fun (i : Nat) => (i : Int)).Pairwise (· < ·) := by
  rw [List.pairwise_map]
  exact (List.pairwise_lt_range.filter p).imp (fun h => by omega)
theorem same_up (W : LL) (q : List Int) : (same W q).Pairwise (· < ·) := range_up _ _
theorem fin_up (W : LL) (q : List Int) : (fin W q).Pairwise (· < ·) := range_up _ _
theorem up_nodup {l : List Int} (h : l.Pairwise (· < ·)) : l.Nodup := h.imp (fun h e => by omega)
theorem chain_nodup {W : LL} (hW : [] ∉ W) : ∀ q, (chain W q).Nodup
  | [] => List.nodup_nil
  | x :: t => by
    rw [chain, List.nodup_append]
    refine ⟨up_nodup (same_up _ _), chain_nodup hW t, fun a ha b hb e => ?_⟩
    subst e
    obtain ⟨i, rfl, h1, h2⟩ := mem_same.1 ha
    obtain ⟨j, e, h3, h4⟩ := (mem_chain hW).1 hb
    have e' : i = j := by omega
    subst e'
    rw [h2] at h4
    have := h4.length_le
    rw [List.length_cons] at this
    omega
theorem chain_perm {W : LL} (hW : [] ∉ W) (q : List Int) : (chain W q).Perm (fin W q) :=
  (List.perm_ext_iff_of_nodup (chain_nodup hW q) (up_nodup (fin_up W q))).2 fun z => by rw [mem_chain hW, mem_fin]
theorem sorted_eq : ∀ {l m : List Int}, l.Perm m → l.Pairwise (· ≤ ·) → m.Pairwise (· ≤ ·) → l = m
  | [], m, h, _, _ => (List.Perm.nil_eq h)
  | x :: l, [], h, _, _ => absurd h.symm.nil_eq (by simp)
  | x :: l, y :: m, h, h1, h2 => by
    rw [List.pairwise_cons] at h1 h2
    have e : x = y := by
      have a : x ∈ y :: m := h.mem_iff.1 (List.mem_cons_self ..)
      have b : y ∈ x :: l := h.mem_iff.2 (List.mem_cons_self ..)
      rcases List.mem_cons.1 a with a | a
      · exact a
      · rcases List.mem_cons.1 b with b | b
        · exact b.symm
        · have := h1.1 _ b; have := h2.1 _ a; omega
    subst e
    rw [sorted_eq h.cons_inv h1.2 h2.2]
theorem sort_chain {W : LL} (hW : [] ∉ W) (q : List Int) : (chain W q).mergeSort (fun x y => decide (x ≤ y)) = fin W q := by
  refine sorted_eq ((List.mergeSort_perm _ _).trans (chain_perm hW q)) ?_ ((fin_up W q).imp (fun h => by omega))
  have := List.pairwise_mergeSort (le := fun (x y : Int) => decide (x ≤ y)) (fun a b c h1 h2 => by simp at *; omega) (fun a b => by simp; omega) (chain W q)
  exact this.imp (fun h => by simpa using h)
theorem fin_len (W : LL) (q : List Int) : (fin W q).length ≤ W.length := by
  unfold fin; rw [List.length_map]; exact Nat.le_trans (List.length_filter_le _ _) (by simp)
theorem chain_len {W : LL} (hW : [] ∉ W) (q : List Int) : (chain W q).length ≤ W.length := by rw [(chain_perm hW q).length_eq]; exact fin_len _ _
/-- what ends at numbers ends at the state that they lead to -/
theorem fin_suf {L W : LL} (hW : ∀ x ∈ W, x ∈ L) (l : List Int) : fin W (suf L l) = fin W l := by
  unfold fin
  congr 1
  refine List.filter_congr fun i hi => ?_
  rw [decide_eq_decide]
  exact ⟨fun h => h.trans (suf_suffix _ _), fun h => suf_long h (hW _ (gD_mem (List.mem_range.1 hi)))⟩
theorem fin_lnk {W : LL} (l : List Int) : fin W (lnk W l) = fin W l := by
  unfold fin
  congr 1
  refine List.filter_congr fun i hi => ?_
  rw [decide_eq_decide]
  exact ⟨fun h => h.trans (lnk_suffix _ _), fun h => lnk_long h (gD_mem (List.mem_range.1 hi))⟩
theorem lnk_nil_iff {W : LL} (hW : [] ∉ W) (l : List Int) : lnk W l = [] ↔ fin W l = [] := by
  constructor
  · intro h
    rw [← fin_lnk, h]
    apply List.eq_nil_iff_forall_not_mem.2
    intro z hz
    obtain ⟨i, rfl, h1, h2⟩ := mem_fin.1 hz
    have := List.suffix_nil.1 h2
    exact hW (by rw [← this]; exact gD_mem h1)
  · intro h
    apply Classical.byContradiction
    intro hn
    have hm := lnk_mem hn
    have : ((idx W (lnk W l) : Nat) : Int) ∈ fin W l := mem_fin.2 ⟨_, rfl, idx_lt_iff.2 hm, by rw [idx_at hm]; exact lnk_suffix _ _⟩
    rw [h] at this; cases this
theorem lnk_eq_iff {W : LL} (hW : [] ∉ W) (l m : List Int) : lnk W l = lnk W m ↔ fin W l = fin W m := by
  constructor
  · intro h; rw [← fin_lnk l, h, fin_lnk]
  · intro h
    have half : ∀ {l m : List Int}, fin W l = fin W m → lnk W l <:+ lnk W m := fun {l m} h => by
      by_cases hn : lnk W l = []
      · rw [hn]; exact List.nil_suffix
      · have hm := lnk_mem hn
        have : ((idx W (lnk W l) : Nat) : Int) ∈ fin W m := by
          rw [← h]; exact mem_fin.2 ⟨_, rfl, idx_lt_iff.2 hm, by rw [idx_at hm]; exact lnk_suffix _ _⟩
        obtain ⟨i, e, h1, h2⟩ := mem_fin.1 this
        have e' : idx W (lnk W l) = i := by omega
        subst e'
        rw [idx_at hm] at h2
        exact lnk_long h2 hm
    exact (half h).eq_of_length_le (half h.symm).length_le
theorem node_eq_iff {L W : LL} (hI : Inv L) (hW : ∀ x ∈ W, x ∈ L) (l m : List Int) : nodeV L (lnk W l) = nodeV L (lnk W m) ↔ lnk W l = lnk W m := by
  constructor
  · intro h
    unfold nodeV at h
    by_cases h1 : lnk W l = []
    · by_cases h2 : lnk W m = []
      · rw [h1, h2]
      · rw [if_pos h1, if_neg h2] at h; omega
    · by_cases h2 : lnk W m = []
      · rw [if_neg h1, if_pos h2] at h; omega
      · rw [if_neg h1, if_neg h2] at h
        have e : idx L (lnk W l) = idx L (lnk W m) := by omega
        rw [← idx_at (hW _ (lnk_mem h1)), e, idx_at (hW _ (lnk_mem h2))]
  · intro h; rw [h]
end Au
end Go.Proofs.Ytpkikhoicobmcaa

/- What a law's walk is told of integers and of slices of integers that came in, and what follows of it. No condition. -/
namespace Go.Proofs.Ytpkikhoicobmcaa
open Go.RowKit
set_option linter.unusedVariables false

theorem wfI {n : Int} (h : (Lit.int .i64 n).wf = true) : -9223372036854775808 ≤ n ∧ n ≤ 9223372036854775807 := by
  simp [Lit.wf, IntKind.min, IntKind.max, IntKind.bits, IntKind.signed] at h; omega
theorem wfB {n : Int} (h : (Lit.int .u8 n).wf = true) : 0 ≤ n ∧ n ≤ 255 := by
  simp [Lit.wf, IntKind.min, IntKind.max, IntKind.bits, IntKind.signed] at h; omega
theorem bel_step {w a b : World} (h : Below w.heap.size w a) (k : Below a.heap.size a b) : Below w.heap.size w b := h.trans (k.mono h.size)
/-- It is nil; or it leads to a row of 'cap' cells, the numbers 'zs' (the first 'len' are its elements), each fitting its kind. -/
def IsRow (k : IntKind) (w : World) (a : Option Addr) (len cap : Nat) (zs : List Int) : Prop :=
  (a = none ∧ len = 0 ∧ cap = 0 ∧ zs = []) ∨
  ∃ x, a = some x ∧ len ≤ cap ∧ cap ≤ maxLen ∧ zs.length = cap ∧ (∀ i, i < zs.length → w.cell? (x.add i) = some (.int k (zs.getD i 0))) ∧ ∀ n ∈ zs, (Lit.int k n).wf = true
theorem isrow_len {k : IntKind} {w : World} {a : Option Addr} {len cap : Nat} {zs : List Int} (h : IsRow k w a len cap zs) : len ≤ 9223372036854775807 ∧ len ≤ zs.length ∧ len ≤ cap ∧ cap ≤ 9223372036854775807 := by
  rcases h with ⟨_, rfl, rfl, rfl⟩ | ⟨x, _, h1, h2, h3, _⟩
  · simp
  · unfold maxLen at h2; omega
theorem addrK_add (b off j : Nat) : (⟨b, off, none⟩ : Addr).add j = ⟨b, off + j, none⟩ := by cases j <;> simp [Addr.add]
/-- the first n elements, as a slice -/
theorem isrow_takeK {k : IntKind} {w : World} {a : Option Addr} {len cap : Nat} {zs : List Int} (h : IsRow k w a len cap zs) (n : Nat) (hn : n ≤ len) : SlK k w a n (zs.take n) := by
  have hl := isrow_len h
  refine ⟨by rw [List.length_take]; omega, ?_⟩
  rcases h with ⟨_, rfl, _, _⟩ | ⟨⟨b, o, sp⟩, rfl, h1, h2, h3, h4, _⟩
  · exact .inl (by omega)
  · by_cases h0 : n = 0
    · exact .inl h0
    · have hc := h4 0 (by omega)
      have hsp : sp = none := by simpa [Addr.add] using World.cell?_spot hc
      subst hsp
      refine .inr ⟨b, o, rfl, fun i hi => ?_⟩
      rw [← addrK_add, h4 i (by omega)]
      simp [List.getD_eq_getElem?_getD, List.getElem?_take_of_lt hi]
theorem isrow_wfK {k : IntKind} {w : World} {a : Option Addr} {len cap : Nat} {zs : List Int} (h : IsRow k w a len cap zs) : ∀ n ∈ zs, (Lit.int k n).wf = true := by
  rcases h with ⟨_, _, _, rfl⟩ | ⟨x, _, _, _, _, _, h5⟩
  · intro n hn; cases hn
  · exact h5
end Go.Proofs.Ytpkikhoicobmcaa

/- A tree in memory: its box, its nodes' row, its rows of numbers, each in a block of its own; how it turns. No condition. -/
namespace Go.Proofs.Ytpkikhoicobmcaa
open Go.RowKit
set_option linter.unusedVariables false
namespace Tr
/-- a node's number, parent, depth -/
abbrev Nd := Int × Int × Int
/-- the cell c of the node k -/
def cell (f : Nat → Nd) (rv : Nat → Value) (k c : Nat) : Value := if c = 0 then .int .u64 (f k).1 else if c = 1 then .int .i64 (f k).2.1 else if c = 2 then .int .i64 (f k).2.2 else if c = 3 then rv (2 * k + 1) else rv (2 * k + 2)
def nds (f : Nat → Nd) (rv : Nat → Value) (n : Nat) : List Value := (List.range (n * 5)).map fun i => cell f rv (i / 5) (i % 5)
theorem nds_len (f : Nat → Nd) (rv : Nat → Value) (n : Nat) : (nds f rv n).length = n * 5 := by simp [nds]
theorem nds_get (f : Nat → Nd) (rv : Nat → Value) {n k c : Nat} (hk : k < n) (hc : c < 5) : (nds f rv n)[k * 5 + c]? = some (cell f rv k c) := by
  unfold nds
  rw [List.getElem?_map, List.getElem?_range (by omega), Option.map_some, show (k * 5 + c) / 5 = k by omega, show (k * 5 + c) % 5 = c by omega]
theorem nds_congr {f g : Nat → Nd} {rv ru : Nat → Value} {n : Nat} (hf : ∀ k, k < n → f k = g k) (hr : ∀ i, 1 ≤ i → i < 2 * n + 1 → rv i = ru i) : nds f rv n = nds g ru n := by
  unfold nds
  refine List.map_congr_left fun i hi => ?_
  have hi' := List.mem_range.1 hi
  unfold cell
  rw [hf (i / 5) (by omega), hr (2 * (i / 5) + 1) (by omega) (by omega), hr (2 * (i / 5) + 2) (by omega) (by omega)]
def upd {α : Type} (f : Nat → α) (i : Nat) (x : α) : Nat → α := fun j => if j = i then x else f j
theorem upd_at {α : Type} (f : Nat → α) (i : Nat) (x : α) : upd f i x i = x := by simp [upd]
theorem upd_ne {α : Type} (f : Nat → α) {i j : Nat} (x : α) (h : j ≠ i) : upd f i x j = f j := by simp [upd, h]
/-- which cell of the nodes' row holds the row i -/
def at5 (i : Nat) : Nat := (i - 1) / 2 * 5 + (3 + (i - 1) % 2)
theorem nds_set (f : Nat → Nd) (rv : Nat → Value) {n i : Nat} (h1 : 1 ≤ i) (h2 : i < 2 * n + 1) (x : Value) : (nds f rv n).set (at5 i) x = nds f (upd rv i x) n := by
  apply List.ext_getElem?
  intro j
  by_cases hj : j < n * 5
  · obtain ⟨k, c, hk, hc, rfl⟩ : ∃ k c, k < n ∧ c < 5 ∧ j = k * 5 + c := ⟨j / 5, j % 5, by omega, by omega, by omega⟩
    rw [nds_get f _ hk hc]
    by_cases e : k * 5 + c = at5 i
    · rw [← e, List.getElem?_set_self (by rw [nds_len]; omega)]
      unfold at5 at e
      have e1 : k = (i - 1) / 2 := by omega
      have e2 : c = 3 + (i - 1) % 2 := by omega
      unfold cell
      rw [if_neg (by omega), if_neg (by omega), if_neg (by omega)]
      by_cases e3 : c = 3
      · rw [if_pos e3, show 2 * k + 1 = i by omega, upd_at]
      · rw [if_neg e3, show 2 * k + 2 = i by omega, upd_at]
    · rw [List.getElem?_set_ne (fun h => e h.symm), nds_get f _ hk hc]
      unfold cell
      unfold at5 at e
      by_cases e3 : c = 3
      · subst e3
        simp only [show ¬ (3 = 0) by omega, show ¬ (3 = 1) by omega, show ¬ (3 = 2) by omega, if_false, if_true]
        rw [upd_ne _ _ (by omega)]
      · by_cases e4 : c = 4
        · subst e4
          simp only [show ¬ (4 = 0) by omega, show ¬ (4 = 1) by omega, show ¬ (4 = 2) by omega, show ¬ (4 = 3) by omega, if_false]
          rw [upd_ne _ _ (by omega)]
        · have : c = 0 ∨ c = 1 ∨ c = 2 := by omega
          rcases this with rfl | rfl | rfl <;> simp
  · rw [List.getElem?_eq_none (by rw [List.length_set, nds_len]; omega), List.getElem?_eq_none (by rw [nds_len]; omega)]
theorem nds_succ (f : Nat → Nd) (rv : Nat → Value) (n : Nat) (x : Nd) (u v : Value) : nds (upd f n x) (upd (upd rv (2 * n + 1) u) (2 * n + 2) v) (n + 1) = nds f rv n ++ [.int .u64 x.1, .int .i64 x.2.1, .int .i64 x.2.2, u, v] := by
  have e : nds (upd f n x) (upd (upd rv (2 * n + 1) u) (2 * n + 2) v) n = nds f rv n := nds_congr (fun k hk => upd_ne _ _ (by omega)) (fun i _ hi => by rw [upd_ne _ _ (by omega), upd_ne _ _ (by omega)])
  rw [← e]
  unfold nds
  rw [show (n + 1) * 5 = n * 5 + 1 + 1 + 1 + 1 + 1 by omega, List.range_succ, List.range_succ, List.range_succ, List.range_succ, List.range_succ]
  simp only [List.map_append, List.map_cons, List.map_nil, List.append_assoc, List.cons_append, List.nil_append]
  congr 1
  have q : ∀ c, c < 5 → (n * 5 + c) / 5 = n ∧ (n * 5 + c) % 5 = c := fun c hc => ⟨by omega, by omega⟩
  have q0 := q 0 (by omega); have q1 := q 1 (by omega); have q2 := q 2 (by omega); have q3 := q 3 (by omega); have q4 := q 4 (by omega)
  simp only [Nat.add_zero] at q0
  simp only [q0.1, q0.2, q1.1, q1.2, q2.1, q2.2, q3.1, q3.2, q4.1, q4.2]
  simp [cell, upd]
/-- a tree in memory: n nodes, what each is of (f), its rows of numbers (0: where words end; 2k + 1: the node k's children; 2k + 2: its words) as slices (rv) and as numbers (xs) -/
structure TrX (w : World) (B tb nb nc n : Nat) (f : Nat → Nd) (rv : Nat → Value) (xs : Nat → List Int) : Prop where
  low : B ≤ tb
  pos : 0 < n
  box : w.heap[tb]? = some (.cells #[.slice (some ⟨nb, 0, none⟩) n nc, rv 0] 85 (0, 0))
  row : w.ownsRow B 93 5 (.slice (some ⟨nb, 0, none⟩) n nc) n (nds f rv n)
  rows : ∀ i, i < 2 * n + 1 → w.ownsRow B 3 1 (rv i) (xs i).length ((xs i).map (Value.int .i64))
  apart : ∀ i j, i < 2 * n + 1 → j < 2 * n + 1 → i ≠ j → (rv i).ownBlock = none ∨ (rv i).ownBlock ≠ (rv j).ownBlock
/-- the blocks that it lies in -/
def Fp (tb nb n : Nat) (rv : Nat → Value) (g : Nat) : Prop := g = tb ∨ g = nb ∨ ∃ i, i < 2 * n + 1 ∧ (rv i).ownBlock = some g
theorem own_type {w : World} {B : Nat} {e : TypeId} {size : Nat} {v : Value} {n : Nat} {xs : List Value} {g : Nat} (h : w.ownsRow B e size v n xs) (hg : v.ownBlock = some g) : ∃ cur, w.heap[g]? = some (.cells cur e (0, 0)) := by
  rcases h.2 with ⟨rfl, _⟩ | ⟨j, cap, cur, rfl, _, hj, _⟩
  · simp [Value.ownBlock] at hg
  · simp [Value.ownBlock] at hg; subst hg; exact ⟨cur, hj⟩
theorem own_of_block {w w' : World} {B : Nat} {e : TypeId} {size : Nat} {v : Value} {n : Nat} {xs : List Value} (h : w.ownsRow B e size v n xs) (hb : ∀ g, v.ownBlock = some g → w'.heap[g]? = w.heap[g]?) : w'.ownsRow B e size v n xs := by
  refine ⟨h.1, ?_⟩
  rcases h.2 with hn | ⟨j, cap, cur, rfl, h1, hj, r⟩
  · exact .inl hn
  · exact .inr ⟨j, cap, cur, rfl, h1, (hb j rfl).trans hj, r⟩
section
variable {w : World} {B tb nb nc n : Nat} {f : Nat → Nd} {rv : Nat → Value} {xs : Nat → List Int}
theorem TrX.lt (h : TrX w B tb nb nc n f rv xs) {g : Nat} (hg : Fp tb nb n rv g) : B ≤ g ∧ g < w.heap.size := by
  rcases hg with rfl | rfl | ⟨i, hi, hg⟩
  · exact ⟨h.low, (Array.getElem?_eq_some_iff.1 h.box).1⟩
  · exact h.row.lt _ rfl
  · exact (h.rows i hi).lt _ hg
theorem TrX.tb_ne (h : TrX w B tb nb nc n f rv xs) : tb ≠ nb := by
  intro e
  obtain ⟨cur, hc⟩ := own_type h.row rfl
  rw [← e, h.box] at hc
  injection hc with hc; injection hc with _ ht _
  exact absurd ht (by decide)
theorem TrX.row_ne (h : TrX w B tb nb nc n f rv xs) {i : Nat} (hi : i < 2 * n + 1) : (rv i).ownBlock ≠ some nb := by
  intro e
  obtain ⟨cur, hc⟩ := own_type h.row rfl
  obtain ⟨cur', hc'⟩ := own_type (h.rows i hi) e
  rw [hc] at hc'
  injection hc' with hc'; injection hc' with _ ht _
  exact absurd ht (by decide)
theorem TrX.box_ne (h : TrX w B tb nb nc n f rv xs) {i : Nat} (hi : i < 2 * n + 1) : (rv i).ownBlock ≠ some tb := by
  intro e
  obtain ⟨cur', hc'⟩ := own_type (h.rows i hi) e
  rw [h.box] at hc'
  injection hc' with hc'; injection hc' with _ ht _
  exact absurd ht (by decide)
theorem TrX.of_blocks (h : TrX w B tb nb nc n f rv xs) {w' : World} (hb : ∀ g, Fp tb nb n rv g → w'.heap[g]? = w.heap[g]?) : TrX w' B tb nb nc n f rv xs :=
  ⟨h.low, h.pos, (hb _ (.inl rfl)).trans h.box, own_of_block h.row fun g e => hb g (.inr (.inl (by simpa [Value.ownBlock] using e.symm))), fun i hi => own_of_block (h.rows i hi) fun g e => hb g (.inr (.inr ⟨i, hi, e⟩)), h.apart⟩
theorem TrX.later (h : TrX w B tb nb nc n f rv xs) {w' : World} (hb : Below w.heap.size w w') : TrX w' B tb nb nc n f rv xs := h.of_blocks fun g hg => hb.block g (h.lt hg).2
theorem TrX.congr (h : TrX w B tb nb nc n f rv xs) {g : Nat → Nd} {ys : Nat → List Int} (hf : ∀ k, k < n → f k = g k) (hx : ∀ i, i < 2 * n + 1 → xs i = ys i) : TrX w B tb nb nc n g rv ys :=
  ⟨h.low, h.pos, h.box, by rw [← nds_congr hf (fun i _ _ => rfl)]; exact h.row, fun i hi => by rw [← hx i hi]; exact h.rows i hi, h.apart⟩
/-- a cell of a node -/
theorem TrX.cell (h : TrX w B tb nb nc n f rv xs) {k c : Nat} (hk : k < n) (hc : c < 5) : w.cell? ⟨nb, k * 5 + c, none⟩ = some (cell f rv k c) := by
  rw [h.row.cellAt _ (by omega), nds_get f rv hk hc]
theorem TrX.cells (h : TrX w B tb nb nc n f rv xs) {k : Nat} (hk : k < n) : w.cell? ⟨nb, k * 5, none⟩ = some (.int .u64 (f k).1) ∧ w.cell? ⟨nb, k * 5 + 1, none⟩ = some (.int .i64 (f k).2.1) ∧ w.cell? ⟨nb, k * 5 + 2, none⟩ = some (.int .i64 (f k).2.2) ∧ w.cell? ⟨nb, k * 5 + 3, none⟩ = some (rv (2 * k + 1)) ∧ w.cell? ⟨nb, k * 5 + 4, none⟩ = some (rv (2 * k + 2)) := by
  exact ⟨by simpa [Tr.cell] using h.cell hk (c := 0) (by omega), by simpa [Tr.cell] using h.cell hk (c := 1) (by omega), by simpa [Tr.cell] using h.cell hk (c := 2) (by omega), by simpa [Tr.cell] using h.cell hk (c := 3) (by omega), by simpa [Tr.cell] using h.cell hk (c := 4) (by omega)⟩
theorem TrX.fr (h : TrX w B tb nb nc n f rv xs) (i : Nat) : w.frozen? ⟨nb, i, none⟩ = false := h.row.frozenAt i
theorem TrX.cap (h : TrX w B tb nb nc n f rv xs) : n ≤ nc ∧ nc ≤ maxLen := by
  rcases h.row.2 with ⟨e, _⟩ | ⟨_, _, _, e, _, _, h1, h2, _⟩
  · cases e
  · cases e; exact ⟨h1, h2⟩
theorem TrX.boxes (h : TrX w B tb nb nc n f rv xs) : w.cell? ⟨tb, 0, none⟩ = some (.slice (some ⟨nb, 0, none⟩) n nc) ∧ w.cell? ⟨tb, 1, none⟩ = some (rv 0) := by
  have h' := h.box
  constructor <;> simp [World.cell?, h']
theorem TrX.bfr (h : TrX w B tb nb nc n f rv xs) (i : Nat) : w.frozen? ⟨tb, i, none⟩ = false := by
  have h' := h.box
  simp [World.frozen?, h']
theorem set_same {w : World} {b : Nat} {cs : Array Value} {t : TypeId} (i : Nat) (v : Value) (h : w.heap[b]? = some (.cells cs t (0, 0))) : (w.setCell ⟨b, i, none⟩ v).heap[b]? = some (.cells (cs.setIfInBounds i v) t (0, 0)) := by
  simpa using Go.heap_setCell_same w b i _ t v h
/-- a row of numbers is another one now, behind a store into the cell that holds it -/
theorem TrX.push (h : TrX w B tb nb nc n f rv xs) {w1 : World} {i : Nat} (hi : i < 2 * n + 1) {v' : Value} {ys : List Int} (hrow : w1.ownsRow B 3 1 v' ys.length (ys.map (Value.int .i64))) (hg : w.grownBy w1 (rv i).ownBlock) (hat : v'.ownBlock = (rv i).ownBlock ∨ ∃ g, v'.ownBlock = some g ∧ w.heap.size ≤ g) (a : Addr) (ha : a = if i = 0 then ⟨tb, 1, none⟩ else ⟨nb, at5 i, none⟩) :
    TrX (w1.setCell a v') B tb nb nc n f (upd rv i v') (upd xs i ys) := by
  have hap : ∀ j, j < 2 * n + 1 → j ≠ i → (rv j).ownBlock = none ∨ (rv j).ownBlock ≠ (rv i).ownBlock := fun j hj hne => h.apart j i hj hi hne
  have hnb : w1.heap[nb]? = w.heap[nb]? := hg.block nb (h.lt (.inr (.inl rfl))).2 (fun e => h.row_ne hi e.symm)
  have htb : w1.heap[tb]? = w.heap[tb]? := hg.block tb (h.lt (.inl rfl)).2 (fun e => h.box_ne hi e.symm)
  have hv' : v'.ownBlock ≠ some nb ∧ v'.ownBlock ≠ some tb := by
    rcases hat with e | ⟨g, e, hlt⟩
    · rw [e]; exact ⟨h.row_ne hi, h.box_ne hi⟩
    · have h1 := (h.lt (.inr (.inl rfl))).2
      have h2 := (h.lt (.inl rfl)).2
      rw [e]; exact ⟨fun k => by injection k with k; omega, fun k => by injection k with k; omega⟩
  have hblk : ∀ g, g ≠ a.block → (w1.setCell a v').heap[g]? = w1.heap[g]? := fun g hne => Below.heap_setCell w1 a v' g hne
  have hab : a.block = tb ∨ a.block = nb := by rw [ha]; split <;> simp
  have hrows : ∀ j, j < 2 * n + 1 → (w1.setCell a v').ownsRow B 3 1 (upd rv i v' j) (upd xs i ys j).length ((upd xs i ys j).map (Value.int .i64)) := by
    intro j hj
    by_cases e : j = i
    · subst e
      rw [upd_at, upd_at]
      exact own_of_block hrow fun g hg' => hblk g (fun e2 => by
        rcases hab with h3 | h3
        · exact hv'.2 (by rw [hg', e2, h3])
        · exact hv'.1 (by rw [hg', e2, h3]))
    · rw [upd_ne _ _ e, upd_ne _ _ e]
      refine own_of_block (h.rows j hj) fun g hg' => ?_
      rw [hblk g (fun e2 => by
        rcases hab with h3 | h3
        · exact h.box_ne hj (by rw [hg', e2, h3])
        · exact h.row_ne hj (by rw [hg', e2, h3]))]
      refine hg.block g ((h.rows j hj).lt _ hg').2 (fun e3 => ?_)
      rcases hap j hj e with h4 | h4
      · rw [hg'] at h4; cases h4
      · exact h4 (by rw [hg', e3])
  have happ : ∀ j k, j < 2 * n + 1 → k < 2 * n + 1 → j ≠ k → (upd rv i v' j).ownBlock = none ∨ (upd rv i v' j).ownBlock ≠ (upd rv i v' k).ownBlock := by
    have key : ∀ j, j < 2 * n + 1 → j ≠ i → (rv j).ownBlock = none ∨ (rv j).ownBlock ≠ v'.ownBlock := fun j hj hne => by
      rcases hat with e | ⟨g, e, hlt⟩
      · rw [e]; exact hap j hj hne
      · cases ho : (rv j).ownBlock with
        | none => exact .inl rfl
        | some g' =>
          right
          rw [e]
          intro k; injection k with k
          have := ((h.rows j hj).lt _ ho).2
          omega
    intro j k hj hk hne
    by_cases e : j = i
    · subst e
      rw [upd_at, upd_ne _ _ (fun e => hne e.symm)]
      rcases key k hk (fun e => hne e.symm) with h1 | h1
      · cases ho : v'.ownBlock with
        | none => exact .inl rfl
        | some g => right; rw [h1]; simp
      · exact .inr (fun e => h1 e.symm)
    · rw [upd_ne _ _ e]
      by_cases e2 : k = i
      · subst e2; rw [upd_at]; exact key j hj e
      · rw [upd_ne _ _ e2]; exact h.apart j k hj hk hne
  by_cases h0 : i = 0
  · subst h0
    rw [if_pos rfl] at ha
    refine ⟨h.low, h.pos, ?_, ?_, hrows, happ⟩
    · rw [ha, upd_at]
      simpa using set_same 1 v' (htb.trans h.box)
    · rw [nds_congr (f := f) (g := f) (rv := upd rv 0 v') (ru := rv) (fun _ _ => rfl) (fun j h1 hj => upd_ne _ _ (by omega))]
      refine own_of_block h.row fun g hg' => ?_
      have eg : g = nb := by simpa [Value.ownBlock] using hg'.symm
      rw [hblk g (by rw [ha, eg]; exact h.tb_ne.symm), eg]; exact hnb
  · rw [if_neg h0] at ha
    refine ⟨h.low, h.pos, ?_, ?_, hrows, happ⟩
    · rw [hblk tb (by rw [ha]; exact h.tb_ne), htb, upd_ne _ _ (fun e => h0 e.symm)]; exact h.box
    · have h1 : w1.ownsRow B 93 5 (.slice (some ⟨nb, 0, none⟩) n nc) n (nds f rv n) := own_of_block h.row fun g hg' => by
        have eg : g = nb := by simpa [Value.ownBlock] using hg'.symm
        rw [eg]; exact hnb
      have h2 := (h1.stored (at5 i) v').1
      rw [nds_set f rv (by omega) hi] at h2
      rw [ha]; exact h2
/-- one node more, of no children and no words -/
theorem TrX.more (h : TrX w B tb nb nc n f rv xs) {w1 : World} {g cap : Nat} {x : Nd} (hrow : w1.ownsRow B 93 5 (.slice (some ⟨g, 0, none⟩) (n + 1) cap) (n + 1) (nds f rv n ++ [.int .u64 x.1, .int .i64 x.2.1, .int .i64 x.2.2, .slice none 0 0, .slice none 0 0])) (hg : w.grownBy w1 (some nb)) (hat : g = nb ∨ w.heap.size ≤ g) :
    TrX (w1.setCell ⟨tb, 0, none⟩ (.slice (some ⟨g, 0, none⟩) (n + 1) cap)) B tb g cap (n + 1) (upd f n x) (upd (upd rv (2 * n + 1) (.slice none 0 0)) (2 * n + 2) (.slice none 0 0)) (upd (upd xs (2 * n + 1) []) (2 * n + 2) []) := by
  have htb : w1.heap[tb]? = w.heap[tb]? := hg.block tb (h.lt (.inl rfl)).2 (fun e => by injection e with e; exact h.tb_ne e)
  have hgt : g ≠ tb := by
    rcases hat with e | e
    · rw [e]; exact h.tb_ne.symm
    · have := (h.lt (.inl rfl)).2; omega
  have hblk : ∀ k, k ≠ tb → (w1.setCell ⟨tb, 0, none⟩ (.slice (some ⟨g, 0, none⟩) (n + 1) cap)).heap[k]? = w1.heap[k]? := fun k hne => Below.heap_setCell w1 _ _ k hne
  have hpos := h.pos
  refine ⟨h.low, by omega, ?_, ?_, fun j hj => ?_, fun j k hj hk hne => ?_⟩
  · rw [upd_ne _ _ (by omega), upd_ne _ _ (by omega)]
    simpa using set_same 0 (.slice (some ⟨g, 0, none⟩) (n + 1) cap) (htb.trans h.box)
  · rw [nds_succ]
    refine own_of_block hrow fun k hk => ?_
    have ek : k = g := by simpa [Value.ownBlock] using hk.symm
    exact hblk k (by rw [ek]; exact hgt)
  · by_cases e1 : j = 2 * n + 2
    · subst e1; rw [upd_at, upd_at]; exact World.ownsRow_nil _ _ _ _
    · by_cases e2 : j = 2 * n + 1
      · subst e2; rw [upd_ne _ _ e1, upd_ne _ _ e1, upd_at, upd_at]; exact World.ownsRow_nil _ _ _ _
      · rw [upd_ne _ _ e1, upd_ne _ _ e1, upd_ne _ _ e2, upd_ne _ _ e2]
        have hj' : j < 2 * n + 1 := by omega
        refine own_of_block (h.rows j hj') fun k hk => ?_
        rw [hblk k (fun e => h.box_ne hj' (by rw [hk, e]))]
        exact hg.block k ((h.rows j hj').lt _ hk).2 (fun e => by injection e with e; exact h.row_ne hj' (by rw [hk, e]))
  · have none_at : ∀ i, i < 2 * (n + 1) + 1 → ¬ i < 2 * n + 1 → (upd (upd rv (2 * n + 1) (Value.slice none 0 0)) (2 * n + 2) (.slice none 0 0) i).ownBlock = none := fun i h1 h2 => by
      by_cases e1 : i = 2 * n + 2
      · subst e1; rw [upd_at]; rfl
      · have e2 : i = 2 * n + 1 := by omega
        subst e2; rw [upd_ne _ _ e1, upd_at]; rfl
    have old_at : ∀ i, i < 2 * n + 1 → upd (upd rv (2 * n + 1) (Value.slice none 0 0)) (2 * n + 2) (.slice none 0 0) i = rv i := fun i h1 => by rw [upd_ne _ _ (by omega), upd_ne _ _ (by omega)]
    by_cases hj' : j < 2 * n + 1
    · by_cases hk' : k < 2 * n + 1
      · rw [old_at j hj', old_at k hk']; exact h.apart j k hj' hk' hne
      · rw [none_at k hk hk']
        cases ho : (upd (upd rv (2 * n + 1) (Value.slice none 0 0)) (2 * n + 2) (.slice none 0 0) j).ownBlock with
        | none => exact .inl rfl
        | some z => right; simp
    · exact .inl (none_at j hj hj')
end
/-- what stands in a tree of these paths and words -/
def fd (L : LL) (k : Nat) : Nd := (num L k, parV L k, depV L k)
def data (L W : LL) (i : Nat) : List Int := if i = 0 then endsV L W else if i % 2 = 1 then (kids L (i / 2)).map (fun (j : Nat) => (j : Int)) else wordsV L W ((i / 2 - 1 : Nat) : Int)
theorem data_ends (L W : LL) : data L W 0 = endsV L W := rfl
theorem data_kids (L W : LL) (k : Nat) : data L W (2 * k + 1) = (kids L k).map (fun (j : Nat) => (j : Int)) := by
  unfold data; rw [if_neg (by omega), if_pos (by omega), show (2 * k + 1) / 2 = k by omega]
theorem data_words (L W : LL) (k : Nat) : data L W (2 * k + 2) = wordsV L W (k : Int) := by
  unfold data; rw [if_neg (by omega), if_neg (by omega), show (2 * k + 2) / 2 - 1 = k by omega]
/-- the tree of these paths and words lies there, in blocks of Z -/
def TrW (Z : Nat → Prop) (w : World) (tb : Nat) (L W : LL) : Prop := ∃ B nb nc rv, TrX w B tb nb nc L.length (fd L) rv (data L W) ∧ ∀ g, Fp tb nb L.length rv g → Z g
theorem TrW.later {Z : Nat → Prop} {w w' : World} {tb : Nat} {L W : LL} (h : TrW Z w tb L W) (hb : Below w.heap.size w w') : TrW Z w' tb L W := by
  obtain ⟨B, nb, nc, rv, h1, h2⟩ := h
  exact ⟨B, nb, nc, rv, h1.later hb, h2⟩
end Tr
end Go.Proofs.Ytpkikhoicobmcaa

/- A node in a block of five cells. No condition. -/
namespace Go.Proofs.Ytpkikhoicobmcaa
open Go.RowKit
set_option linter.unusedVariables false
def Nv (w : World) (b : Nat) (v0 v1 v2 v3 v4 : Value) : Prop := w.heap[b]? = some (.cells #[v0, v1, v2, v3, v4] 93 (0, 0))
section
variable {w w' : World} {b : Nat} {v0 v1 v2 v3 v4 : Value}
theorem Nv.lt (hh : Nv w b v0 v1 v2 v3 v4) : b < w.heap.size := (Array.getElem?_eq_some_iff.1 hh).1
theorem Nv.later (hh : Nv w b v0 v1 v2 v3 v4) (hb : Below w.heap.size w w') : Nv w' b v0 v1 v2 v3 v4 := (hb.block b hh.lt).trans hh
theorem Nv.cells (hh : Nv w b v0 v1 v2 v3 v4) : w.cell? ⟨b, 0, none⟩ = some v0 ∧ w.cell? ⟨b, 1, none⟩ = some v1 ∧ w.cell? ⟨b, 2, none⟩ = some v2 ∧ w.cell? ⟨b, 3, none⟩ = some v3 ∧ w.cell? ⟨b, 4, none⟩ = some v4 := by
  have h' : w.heap[b]? = _ := hh
  refine ⟨?_, ?_, ?_, ?_, ?_⟩ <;> simp [World.cell?, h']
theorem Nv.fr (hh : Nv w b v0 v1 v2 v3 v4) : w.frozen? ⟨b, 0, none⟩ = false ∧ w.frozen? ⟨b, 1, none⟩ = false ∧ w.frozen? ⟨b, 2, none⟩ = false ∧ w.frozen? ⟨b, 3, none⟩ = false ∧ w.frozen? ⟨b, 4, none⟩ = false := by
  have h' : w.heap[b]? = _ := hh
  refine ⟨?_, ?_, ?_, ?_, ?_⟩ <;> simp [World.frozen?, h']
theorem Nv.new (w : World) (v0 v1 v2 v3 v4 : Value) : Nv (w.alloc (.cells #[v0, v1, v2, v3, v4] 93)) w.heap.size v0 v1 v2 v3 v4 := World.alloc_heap_new w _
theorem Nv.put (hh : Nv w b v0 v1 v2 v3 v4) (u0 u1 u2 u3 u4 : Value) : Nv (((((w.setCell ⟨b, 0, none⟩ u0).setCell ⟨b, 1, none⟩ u1).setCell ⟨b, 2, none⟩ u2).setCell ⟨b, 3, none⟩ u3).setCell ⟨b, 4, none⟩ u4) b u0 u1 u2 u3 u4 := by
  have h0 : w.heap[b]? = _ := hh
  have h1 := Tr.set_same 0 u0 h0
  have h2 := Tr.set_same 1 u1 h1
  have h3 := Tr.set_same 2 u2 h2
  have h4 := Tr.set_same 3 u3 h3
  have h5 := Tr.set_same 4 u4 h4
  simpa [Nv] using h5
theorem load_nd (hh : Nv w b v0 v1 v2 v3 v4) : (loadVar 93 ⟨b, 0, none⟩).run Try.prog w = .ok (.agg #[v0, v1, v2, v3, v4]) w := by
  obtain ⟨h0, h1, h2, h3, h4⟩ := hh.cells
  simp [go_sem, h0, h1, h2, h3, h4]
end
theorem ret_cell1 {P : Program} {fn : Func} {p : Tmp} {ty : TypeId} (h : fn.results = #[.cell p ty]) (tmps : Array Value) (w : World) (b : Nat) (val : Value) (hp : tmps.getD p undef = .pointer (some ⟨b, 0, none⟩)) (hl : (loadVar ty ⟨b, 0, none⟩).run P w = .ok val w) :
    (results fn tmps).run P w = .ok val w := by
  have hp' : tmps[p]?.getD undef = .pointer (some ⟨b, 0, none⟩) := by simpa using hp
  simp only [results, h]
  simp [hp', asAddr, hl]
theorem box1T (w : World) (o : Obj) : Below w.heap.size w (w.alloc o) := (Below.refl _ _).alloc (Nat.le_refl _) o
end Go.Proofs.Ytpkikhoicobmcaa

/- A node of a tree, as a value; its parent, its depth, its number; how many there are; where a word ends. No condition. -/
namespace Go.Proofs.Ytpkikhoicobmcaa
open Go.RowKit
set_option linter.unusedVariables false
open Tr
def Tr.out' (n : Nat) (k : Int) : Prop := k < 0 ∨ (n : Int) ≤ k
set_option maxRecDepth 100000 in
set_option maxHeartbeats 1000000 in
theorem at_yes (tb nb n nc k : Nat) (p q d : Int) (ka wa : Option Addr) (kn kc wn wc : Nat) (w : World) (hk : k < n) (hn : n ≤ 9223372036854775807) (b0 : w.cell? ⟨tb, 0, none⟩ = some (.slice (some ⟨nb, 0, none⟩) n nc))
    (c0 : w.cell? ⟨nb, k * 5, none⟩ = some (.int .u64 p)) (c1 : w.cell? ⟨nb, k * 5 + 1, none⟩ = some (.int .i64 q)) (c2 : w.cell? ⟨nb, k * 5 + 2, none⟩ = some (.int .i64 d)) (c3 : w.cell? ⟨nb, k * 5 + 3, none⟩ = some (.slice ka kn kc)) (c4 : w.cell? ⟨nb, k * 5 + 4, none⟩ = some (.slice wa wn wc)) :
    Calls Try.prog 50 #[.pointer (some ⟨tb, 0, none⟩), .int .i64 k] w fun e w' => e = .returned (.agg #[.int .u64 p, .int .i64 q, .int .i64 d, .slice ka kn kc, .slice wa wn wc]) ∧ Below w.heap.size w w' := by
  have h1 : (k : Int) < (n : Int) := by omega
  have h0 : (0 : Int) ≤ (k : Int) := Int.natCast_nonneg _
  have hb := box1T w (.cells #[.int .u64 0, .int .i64 0, .int .i64 0, .slice none 0 0, .slice none 0 0] 93)
  replace b0 := cell_later hb b0; replace c0 := cell_later hb c0; replace c1 := cell_later hb c1; replace c2 := cell_later hb c2; replace c3 := cell_later hb c3; replace c4 := cell_later hb c4
  have HB := Lib.hid hb
  have HS := Lib.hid (Nv.new w (.int .u64 0) (.int .i64 0) (.int .i64 0) (.slice none 0 0) (.slice none 0 0))
  obtain ⟨W, hW⟩ : ∃ W, w.alloc (.cells #[.int .u64 0, .int .i64 0, .int .i64 0, .slice none 0 0, .slice none 0 0] 93) = W := ⟨_, rfl⟩
  rw [hW] at b0 c0 c1 c2 c3 c4 HB HS
  clear hb
  obtain ⟨d0, d1, d2, d3, d4⟩ := HS.out.cells
  obtain ⟨f0, f1, f2, f3, f4⟩ := HS.out.fr
  go_enter Try.func50, Try.ntmps50
  go_upto_region 1 with fail
  try rw [hW]
  clear hW
  go_wp2
  (try simp only [Exit.inBlock, Exit.then])
  refine bodyPost_ret (ret_cell1 rfl _ _ _ _ rfl (load_nd (HS.out.put _ _ _ _ _))) rfl ⟨rfl, ?_⟩
  exact ((((HB.out.setCell (by simp) _).setCell (by simp) _).setCell (by simp) _).setCell (by simp) _).setCell (by simp) _
theorem at_no (tb nb n nc : Nat) (k : Int) (w : World) (hk : out' n k) (hn : n ≤ 9223372036854775807) (b0 : w.cell? ⟨tb, 0, none⟩ = some (.slice (some ⟨nb, 0, none⟩) n nc)) :
    Calls Try.prog 50 #[.pointer (some ⟨tb, 0, none⟩), .int .i64 k] w fun e w' => e = .returned (.agg #[.int .u64 0, .int .i64 (-1), .int .i64 (-1), .slice none 0 0, .slice none 0 0]) ∧ Below w.heap.size w w' := by
  have hb := box1T w (.cells #[.int .u64 0, .int .i64 0, .int .i64 0, .slice none 0 0, .slice none 0 0] 93)
  replace b0 := cell_later hb b0
  have HB := Lib.hid hb
  have HS := Lib.hid (Nv.new w (.int .u64 0) (.int .i64 0) (.int .i64 0) (.slice none 0 0) (.slice none 0 0))
  obtain ⟨W, hW⟩ : ∃ W, w.alloc (.cells #[.int .u64 0, .int .i64 0, .int .i64 0, .slice none 0 0, .slice none 0 0] 93) = W := ⟨_, rfl⟩
  rw [hW] at b0 HB HS
  obtain ⟨d0, d1, d2, d3, d4⟩ := HS.out.cells
  obtain ⟨f0, f1, f2, f3, f4⟩ := HS.out.fr
  have hk' : k < 0 ∨ (0 ≤ k ∧ (n : Int) ≤ k) := by unfold out' at hk; omega
  clear hb hk
  rcases hk' with hk | ⟨hk0, hk⟩
  all_goals
    go_enter Try.func50, Try.ntmps50
    go_upto_region 1 with fail
    try rw [hW]
    clear hW
    go_wp2
    (try simp only [Exit.inBlock, Exit.then])
    refine bodyPost_ret (ret_cell1 rfl _ _ _ _ rfl (load_nd (HS.out.put _ _ _ _ _))) rfl ⟨rfl, ?_⟩
    exact ((((HB.out.setCell (by simp) _).setCell (by simp) _).setCell (by simp) _).setCell (by simp) _).setCell (by simp) _
end Go.Proofs.Ytpkikhoicobmcaa

/- What a tree tells of a node: how many there are, parent, depth, number; the node at which a word ends. No condition. -/
namespace Go.Proofs.Ytpkikhoicobmcaa
open Go.RowKit
set_option linter.unusedVariables false
open Tr
theorem nd_field1 (v0 v1 v2 v3 v4 : Value) (W : World) : (Instr.field 93 (.agg #[v0, v1, v2, v3, v4]) 1).run Try.prog W = .ok v1 W := by kernel_rfl
theorem nd_field2 (v0 v1 v2 v3 v4 : Value) (W : World) : (Instr.field 93 (.agg #[v0, v1, v2, v3, v4]) 2).run Try.prog W = .ok v2 W := by kernel_rfl
theorem nd_field3 (v0 v1 v2 v3 v4 : Value) (W : World) : (Instr.field 93 (.agg #[v0, v1, v2, v3, v4]) 3).run Try.prog W = .ok v3 W := by kernel_rfl
theorem nd_field4 (v0 v1 v2 v3 v4 : Value) (W : World) : (Instr.field 93 (.agg #[v0, v1, v2, v3, v4]) 4).run Try.prog W = .ok v4 W := by kernel_rfl
theorem Tr.own_form {w : World} {B : Nat} {e : TypeId} {v : Value} {n : Nat} {xs : List Value} (h : w.ownsRow B e 1 v n xs) : ∃ a c, v = .slice a n c := by
  rcases h.2 with ⟨rfl, rfl⟩ | ⟨g, cap, cur, rfl, _⟩
  · exact ⟨none, 0, rfl⟩
  · exact ⟨_, cap, rfl⟩
/-- the tree of these paths and words in memory, by name -/
def TrP (w : World) (B tb nb nc : Nat) (rv : Nat → Value) (L W : LL) : Prop := TrX w B tb nb nc L.length (fd L) rv (data L W)
theorem TrP.later {w w' : World} {B tb nb nc : Nat} {rv : Nat → Value} {L W : LL} (h : TrP w B tb nb nc rv L W) (hb : Below w.heap.size w w') : TrP w' B tb nb nc rv L W := TrX.later h hb
theorem TrP.len9 {w : World} {B tb nb nc : Nat} {rv : Nat → Value} {L W : LL} (h : TrP w B tb nb nc rv L W) : L.length ≤ 9223372036854775807 := by
  have := TrX.cap h; unfold maxLen at this; omega
theorem TrP.form {w : World} {B tb nb nc : Nat} {rv : Nat → Value} {L W : LL} (h : TrP w B tb nb nc rv L W) {i : Nat} (hi : i < 2 * L.length + 1) : ∃ a c, rv i = .slice a (data L W i).length c := Tr.own_form (TrX.rows h i hi)
theorem TrP.at_in {w : World} {B tb nb nc : Nat} {rv : Nat → Value} {L W : LL} (h : TrP w B tb nb nc rv L W) {k : Nat} (hk : k < L.length) :
    Calls Try.prog 50 #[.pointer (some ⟨tb, 0, none⟩), .int .i64 k] w fun e w' => e = .returned (.agg #[.int .u64 (num L k), .int .i64 (parV L k), .int .i64 (depV L k), rv (2 * k + 1), rv (2 * k + 2)]) ∧ Below w.heap.size w w' := by
  obtain ⟨a, c, e1⟩ := h.form (i := 2 * k + 1) (by omega)
  obtain ⟨a2, c2, e2⟩ := h.form (i := 2 * k + 2) (by omega)
  obtain ⟨h0, h1, h2, h3, h4⟩ := TrX.cells h hk
  rw [e1] at h3
  rw [e2] at h4
  have hc := h.len9
  rw [e1, e2]
  exact at_yes tb nb L.length nc k _ _ _ a a2 _ c _ c2 w hk (by omega) (TrX.boxes h).1 h0 h1 h2 h3 h4
theorem TrP.at_out {w : World} {B tb nb nc : Nat} {rv : Nat → Value} {L W : LL} (h : TrP w B tb nb nc rv L W) {k : Int} (hk : out L k) :
    Calls Try.prog 50 #[.pointer (some ⟨tb, 0, none⟩), .int .i64 k] w fun e w' => e = .returned (.agg #[.int .u64 0, .int .i64 (-1), .int .i64 (-1), .slice none 0 0, .slice none 0 0]) ∧ Below w.heap.size w w' :=
  at_no tb nb L.length nc k w hk h.len9 (TrX.boxes h).1
section
variable {w : World} {B tb nb nc : Nat} {rv : Nat → Value} {L W : LL}
theorem len_tr (h : TrP w B tb nb nc rv L W) : Calls Try.prog 74 #[.pointer (some ⟨tb, 0, none⟩)] w fun e w' => e = .returned (.int .i64 L.length) ∧ w = w' := by
  obtain ⟨b0, b1⟩ := TrX.boxes h
  clear b1 h
  go_enter Try.func74, Try.ntmps74
  go_wp2
  go_ret
  exact ⟨rfl, rfl⟩
theorem parent_tr (h : TrP w B tb nb nc rv L W) (k : Int) : Calls Try.prog 60 #[.pointer (some ⟨tb, 0, none⟩), .int .i64 k] w fun e w' => e = .returned (.int .i64 (parV L k)) ∧ Below w.heap.size w w' := by
  by_cases hk : out L k
  · have hc := h.at_out hk
    have e : parV L k = -1 := by unfold parV; rw [if_pos]; rcases hk with h1 | h1 <;> omega
    rw [e]
    clear e hk h
    have hfd := nd_field1
    go_enter Try.func60, Try.ntmps60
    go_wp2_with (go_at_call 50; refine hc.mono ?_; rintro e w1 ⟨rfl, hb⟩; have HB := Lib.hid hb; clear hb)
    go_ret
    exact ⟨rfl, HB.out⟩
  · obtain ⟨n, rfl⟩ : ∃ n : Nat, k = (n : Int) := ⟨k.toNat, by omega⟩
    have hn : n < L.length := by omega
    have hc := h.at_in hn
    generalize parV L n = p at hc ⊢
    generalize num L n = p at hc ⊢
    generalize depV L n = p at hc ⊢
    generalize rv (2 * n + 1) = v at hc ⊢
    generalize rv (2 * n + 2) = v at hc ⊢
    clear hk h hn
    have hfd := nd_field1
    go_enter Try.func60, Try.ntmps60
    go_wp2_with (go_at_call 50; refine hc.mono ?_; rintro e w1 ⟨rfl, hb⟩; have HB := Lib.hid hb; clear hb)
    go_ret
    exact ⟨rfl, HB.out⟩
theorem depth_tr (h : TrP w B tb nb nc rv L W) (k : Int) : Calls Try.prog 35 #[.pointer (some ⟨tb, 0, none⟩), .int .i64 k] w fun e w' => e = .returned (.int .i64 (depV L k)) ∧ Below w.heap.size w w' := by
  by_cases hk : out L k
  · have hc := h.at_out hk
    have e : depV L k = -1 := by unfold depV; rw [if_pos hk]
    rw [e]
    clear e hk h
    have hfd := nd_field2
    go_enter Try.func35, Try.ntmps35
    go_wp2_with (go_at_call 50; refine hc.mono ?_; rintro e w1 ⟨rfl, hb⟩; have HB := Lib.hid hb; clear hb)
    go_ret
    exact ⟨rfl, HB.out⟩
  · obtain ⟨n, rfl⟩ : ∃ n : Nat, k = (n : Int) := ⟨k.toNat, by omega⟩
    have hn : n < L.length := by omega
    have hc := h.at_in hn
    generalize parV L n = p at hc ⊢
    generalize num L n = p at hc ⊢
    generalize depV L n = p at hc ⊢
    generalize rv (2 * n + 1) = v at hc ⊢
    generalize rv (2 * n + 2) = v at hc ⊢
    clear hk h hn
    have hfd := nd_field2
    go_enter Try.func35, Try.ntmps35
    go_wp2_with (go_at_call 50; refine hc.mono ?_; rintro e w1 ⟨rfl, hb⟩; have HB := Lib.hid hb; clear hb)
    go_ret
    exact ⟨rfl, HB.out⟩
theorem number_tr (h : TrP w B tb nb nc rv L W) {k : Nat} (hk : k < L.length) : Calls Try.prog 44 #[.pointer (some ⟨tb, 0, none⟩), .int .i64 k] w fun e w' => e = .returned (.int .u64 (num L k)) ∧ w = w' := by
  obtain ⟨b0, b1⟩ := TrX.boxes h
  obtain ⟨c0, c1, c2, c3, c4⟩ := TrX.cells h hk
  have c0' : w.cell? ⟨nb, k * 5, none⟩ = some (.int .u64 (num L k)) := c0
  have hn := h.len9
  have h1 : (k : Int) < (L.length : Int) := by omega
  have h0 : (0 : Int) ≤ (k : Int) := Int.natCast_nonneg _
  generalize num L k = p at c0' ⊢
  generalize L.length = n at b0 hk h1 hn
  clear b1 h c0 c1 c2 c3 c4
  go_enter Try.func44, Try.ntmps44
  go_wp2
  go_ret
  exact ⟨rfl, rfl⟩
theorem ints_cell {w : World} {B : Nat} {e : TypeId} {g n cap : Nat} {zs : List Int} {q : IntKind} (h : w.ownsRow B e 1 (.slice (some ⟨g, 0, none⟩) n cap) n (zs.map (Value.int q))) {i : Nat} (hi : i < n) : w.cell? ⟨g, i, none⟩ = some (.int q (zs.getD i 0)) := by
  have hl := h.1
  rw [List.length_map] at hl
  rw [h.cellAt i (by omega), List.getElem?_map, List.getElem?_eq_getElem (by omega), List.getD_eq_getElem?_getD, List.getElem?_eq_getElem (by omega)]; rfl
theorem word_tr (h : TrP w B tb nb nc rv L W) (k : Int) : Calls Try.prog 30 #[.pointer (some ⟨tb, 0, none⟩), .int .i64 k] w fun e w' => e = .returned (.int .i64 (wordV L W k)) ∧ w = w' := by
  obtain ⟨b0, b1⟩ := TrX.boxes h
  have hr := TrX.rows h 0 (by omega)
  have hl : (data L W 0).length = W.length := by rw [data_ends]; simp [endsV]
  have hel : ∀ i, i < W.length → (endsV L W).getD i 0 = findV L (W.getD i []) := fun i hi => by
    rw [gD (by simpa [endsV] using hi), gD hi]; simp [endsV]
  rw [hl, data_ends] at hr
  have hcap : W.length ≤ 9223372036854775807 := by
    rcases hr.2 with ⟨_, e⟩ | ⟨_, _, _, _, _, _, k1, k2, _⟩
    · omega
    · unfold maxLen at k2; omega
  obtain ⟨m, hm⟩ : ∃ m, W.length = m := ⟨_, rfl⟩
  by_cases hk : out W k
  · have e : wordV L W k = -1 := by unfold wordV; rw [if_pos hk]
    obtain ⟨a, c, ev⟩ := Tr.own_form hr
    rw [ev] at b1
    rw [e]
    unfold out at hk
    rw [hm] at hk b1 hcap
    have hk' : k < 0 ∨ (0 ≤ k ∧ (m : Int) ≤ k) := by omega
    clear h hr hl e hel ev hm hk
    rcases hk' with hk | ⟨hk0, hk⟩
    all_goals
      go_enter Try.func30, Try.ntmps30
      go_wp2
      go_ret
      exact ⟨rfl, rfl⟩
  · obtain ⟨n, rfl⟩ : ∃ n : Nat, k = (n : Int) := ⟨k.toNat, by omega⟩
    have hn : n < W.length := by omega
    obtain ⟨g, c, ev, _, _⟩ := hr.form (by omega)
    rw [ev] at b1 hr
    have hc := ints_cell hr hn
    rw [hel n hn] at hc
    have e : wordV L W n = findV L (W.getD n []) := by unfold wordV; rw [if_neg hk]; simp
    rw [e]
    generalize findV L (W.getD n []) = p at hc ⊢
    rw [hm] at hn b1 hcap
    have h1 : (n : Int) < (m : Int) := by omega
    have h0 : (0 : Int) ≤ (n : Int) := Int.natCast_nonneg _
    clear h hr hl e hel ev hm hk
    go_enter Try.func30, Try.ntmps30
    go_wp2
    go_ret
    exact ⟨rfl, rfl⟩
end
end Go.Proofs.Ytpkikhoicobmcaa

/- 'append(v, y...)' where v is the call's own and y any slice of integers that is known, nil and empty ones too: as a law for the walk. No condition beyond what is named. -/
namespace Go.Proofs.Ytpkikhoicobmcaa
open Go.RowKit
set_option linter.unusedVariables false

theorem app_none {P : Program} {w : World} (base : Nat) (t ty e : TypeId) (i : TypeInfo) (size : Nat) (ht : P.underlying t = some (.slice e)) (hi : P.info? e = some i)
    (v : Value) (n c : Nat) (xs : List Value) (hown : w.ownsRow base e size v n xs) :
    (Builtin.append_ #[t, t] ty #[v, .slice none 0 c]).run P w = .ok v w := by
  rcases hown.2 with ⟨rfl, rfl⟩ | ⟨g, cap, cur, rfl, _, _, hnc, _⟩
  · simp [Builtin.append_, run_underlying ht, sizeOf, typeInfo, hi, Builtin.lenOf, Builtin.firstCells]
  · simp [Builtin.append_, run_underlying ht, sizeOf, typeInfo, hi, Builtin.lenOf, Builtin.firstCells, hnc, storeCells]
theorem ints_one (q : IntKind) (l : List Int) : ∀ u ∈ l.map (Value.int q), u.oneCell' = true := by
  intro u hu; obtain ⟨x, _, rfl⟩ := List.mem_map.1 hu; rfl
theorem run_app {P : Program} {w : World} (base : Nat) (t ty e : TypeId) (i : TypeInfo) (q : IntKind) (bytes : Nat) (ht : P.underlying t = some (.slice e)) (hi : P.info? e = some i) (hz : i.zero = some (.int q 0))
    (hsize : i.size = 1) (hby : i.bytes = bytes) (v : Value) (n : Nat) (xs : List Value) (hown : w.ownsRow base e 1 v n xs)
    (a : Option Addr) (m c : Nat) (l : List Int) (hy : SlK q w a m l) (h63 : n + m ≤ maxLen) (hbytes : (n + m) * bytes ≤ 140737488355328) (hbase : base ≤ w.heap.size) :
    ∃ v' w', (Builtin.append_ #[t, t] ty #[v, .slice a m c]).run P w = .ok v' w' ∧ w'.ownsRow base e 1 v' (n + m) (xs ++ l.map (Value.int q)) ∧ w.grownBy w' v.ownBlock ∧ (v'.ownBlock = v.ownBlock ∨ v'.ownBlock = some w.heap.size) := by
  obtain ⟨hl, hc⟩ := hy
  cases a with
  | none =>
    have hm : m = 0 := by
      rcases hc with h | ⟨_, _, h, _⟩
      · exact h
      · cases h
    subst hm
    have hl0 : l = [] := List.length_eq_zero_iff.1 hl
    subst hl0
    exact ⟨v, w, app_none base t ty e i 1 ht hi v n c xs hown, by simpa using hown, ⟨rfl, rfl, rfl, Nat.le_refl _, fun _ _ _ => rfl⟩, .inl rfl⟩
  | some ad =>
    obtain ⟨v', w', h1, h2, h3, _, h5⟩ := run_append_own_at (P := P) w base t ty e i (.int q 0) 1 bytes ht hi hz hsize hby rfl (by decide) v n xs hown ad m c (l.map (Value.int q)) (by rw [List.length_map, hl, Nat.mul_one]) (fun j u hu => by
      have hj : j < m := by
        rcases Nat.lt_or_ge j m with h | h
        · exact h
        · rw [List.getElem?_eq_none (by rw [List.length_map]; omega)] at hu; cases hu
      rcases hc with h | ⟨blk, off, ha, hcell⟩
      · omega
      · cases ha
        rw [addrK_add, hcell j hj]
        rw [List.getElem?_map, List.getElem?_eq_getElem (by omega)] at hu
        rw [List.getD_eq_getElem?_getD, List.getElem?_eq_getElem (by omega)]
        exact hu) (ints_one q l) h63 hbytes hbase
    exact ⟨v', w', h1, h2, h3, h5⟩
theorem wpList_app {P : Program} {w : World} {ops : Array Oper} {rest : List Oper} {o : Oper} {a : Act} {Q : Exit → Act → World → Prop} (hgd : o.guard = none) (s x : Operand) (t : TypeId)
    (ho : o.op = .call { callee := .builtin .append, args := #[s, x], argTypes := #[t, t] })
    (base : Nat) (e : TypeId) (i : TypeInfo) (q : IntKind) (bytes : Nat) (ht : P.underlying t = some (.slice e)) (hi : P.info? e = some i) (hz : i.zero = some (.int q 0))
    (hsize : i.size = 1) (hby : i.bytes = bytes) (v : Value) (n : Nat) (xs : List Value) (hs : a.eval s = v) (hown : w.ownsRow base e 1 v n xs)
    (ad : Option Addr) (m c : Nat) (l : List Int) (hx : a.eval x = .slice ad m c) (hy : SlK q w ad m l) (h63 : n + m ≤ maxLen) (hbytes : (n + m) * bytes ≤ 140737488355328) (hbase : base ≤ w.heap.size)
    (h : ∀ v' w', w'.ownsRow base e 1 v' (n + m) (xs ++ l.map (Value.int q)) → w.grownBy w' v.ownBlock → (v'.ownBlock = v.ownBlock ∨ v'.ownBlock = some w.heap.size) → wpList P ops Q rest (a.put o.dst v') w') : wpList P ops Q (o :: rest) a w := by
  refine wpList_plain hgd fun K hK => ?_
  obtain ⟨v', w', hr, h2, h3, h4⟩ := run_app (P := P) (w := w) base t o.type e i q bytes ht hi hz hsize hby v n xs hown ad m c l hy h63 hbytes hbase
  unfold Oper.wp execOp
  simp only [ho, resolve, invoke, builtin, Sem.run_bind, Sem.run_pure, Result.andThen_ok, List.map_toArray, List.map_cons, List.map_nil, hs, hx, hr]
  exact hK _ _ (h v' w' h2 h3 h4)
end Go.Proofs.Ytpkikhoicobmcaa

/- The place of a number among a node's children, looked for by halves. Condition: the children rise. -/
namespace Go.Proofs.Ytpkikhoicobmcaa
open Go.RowKit
set_option linter.unusedVariables false
open Tr
set_option maxRecDepth 100000 in
set_option maxHeartbeats 1000000 in
theorem halve_tr {w : World} {B tb nb nc : Nat} {rv : Nat → Value} {L W : LL} (h : TrP w B tb nb nc rv L W) (k : Nat) (hk : k < L.length) (p : Int) :
    Calls Try.prog 78 #[rv (2 * k + 1), .int .u64 p, .func (.func 44) #[.pointer (some ⟨tb, 0, none⟩)] #[]] w fun e w' => e = .returned (.int .i64 (place ((kids L k).map (num L)) p)) ∧ w = w' := by
  have hr := TrX.rows h (2 * k + 1) (by omega)
  have hl : (data L W (2 * k + 1)).length = (kids L k).length := by rw [data_kids]; simp
  rw [hl, data_kids] at hr
  have HN : Hid (∀ j, j < L.length → Calls Try.prog 44 #[.pointer (some ⟨tb, 0, none⟩), .int .i64 (j : Int)] w fun e w' => e = .returned (.int .u64 (num L j)) ∧ w = w') := Lib.hid fun j hj => number_tr h hj
  have HM : Hid (∀ i, i < (kids L k).length → (kids L k).getD i 0 < L.length) := Lib.hid fun i hi => (kids_mem.1 (gD_mem (d := 0) hi)).1
  have HK : Hid (∀ i, i < (kids L k).length → ((kids L k).map (num L)).getD i 0 = num L ((kids L k).getD i 0)) := Lib.hid fun i hi => by
    rw [gD (by simpa using hi), gD hi, List.getElem_map]
  have HR := Lib.hid (kids_ris L k)
  have HLn : Hid (((kids L k).map (num L)).length = (kids L k).length) := Lib.hid (by simp)
  have hn9 : (kids L k).length ≤ 9223372036854775807 := Nat.le_trans (kids_len L k) h.len9
  obtain ⟨a, c, ev⟩ := Tr.own_form hr
  have HC : Hid (∀ i, i < (kids L k).length → ∃ g, a = some ⟨g, 0, none⟩ ∧ w.cell? ⟨g, i, none⟩ = some (.int .i64 ((kids L k).getD i 0 : Nat))) := Lib.hid fun i hi => by
    obtain ⟨g, c', ev', _, _⟩ := hr.form (by omega)
    rw [ev] at ev'
    injection ev' with e1 e2 e3
    rw [ev, e1] at hr
    refine ⟨g, e1, ?_⟩
    have hcell := hr.cellAt i (by omega)
    rw [hcell, List.getElem?_map, List.getElem?_map, List.getElem?_eq_getElem hi, gD hi]; rfl
  rw [ev]
  generalize kids L k = K at *
  obtain ⟨n, hn⟩ : ∃ n, K.length = n := ⟨_, rfl⟩
  obtain ⟨Z, hZ⟩ : ∃ Z, K.map (num L) = Z := ⟨_, rfl⟩
  rw [hn] at HM HK HLn hn9 HC ⊢
  rw [hZ] at HK HR HLn ⊢
  clear hr hl hn ev h hZ
  go_enter Try.func78, Try.ntmps78
  go_wp2
  go_loop [7, 8] (fun s7 s8 => ∃ x y : Nat, x ≤ y ∧ y ≤ n ∧ s7 = .int .i64 x ∧ s8 = .int .i64 y ∧ (∀ i, i < x → Z.getD i 0 < p) ∧ (∀ i, y ≤ i → i < n → p ≤ Z.getD i 0)) (fun s7 s8 => (intOf s8).toNat - (intOf s7).toNat)
  case atStart => exact ⟨0, n, Nat.zero_le _, Nat.le_refl _, rfl, rfl, fun i hi => by omega, fun i h1 h2 => by omega⟩
  case round =>
    obtain ⟨x, y, hxy, hyn, rfl, rfl, hlo, hhi⟩ := hrel
    have HLO := Lib.hid hlo
    have HHI := Lib.hid hhi
    clear hlo hhi
    by_cases hlt : x < y
    · obtain ⟨q, hq⟩ : ∃ q, (y - x) / 2 = q := ⟨_, rfl⟩
      have hq1 : x + q < y := by omega
      have hq2 : ((y : Int) - (x : Int)) / 2 = (q : Int) := by omega
      have hltI : (x : Int) < (y : Int) := by omega
      have hx0 : (0 : Int) ≤ (x : Int) := Int.natCast_nonneg _
      have hq0 : (0 : Int) ≤ (q : Int) := Int.natCast_nonneg _
      have hqn : x + q < n := by omega
      have hmI : (x : Int) + (q : Int) < (n : Int) := by omega
      have hyI : (y : Int) ≤ (n : Int) := by omega
      obtain ⟨g, rfl, hcell⟩ := HC.out (x + q) hqn
      have hk9 := HM.out (x + q) hqn
      have hz := HK.out (x + q) hqn
      obtain ⟨j, hj⟩ : ∃ j, K.getD (x + q) 0 = j := ⟨_, rfl⟩
      rw [hj] at hcell hk9 hz
      have HZ9 := Lib.hid hz
      have HN9 := Lib.hid (HN.out j hk9)
      obtain ⟨u, hu⟩ : ∃ u, num L j = u := ⟨_, rfl⟩
      rw [hu] at HN9 HZ9
      clear hq hz hj hu hk9
      by_cases hup : u < p
      · have hd : decide (u < p) = true := decide_eq_true hup
        have HUP := Lib.hid hup
        clear hup
        go_wp2_with ((with_reducible refine HN9.out.mono ?_); rintro e w9 ⟨rfl, rfl⟩)
        go_round
        case rel =>
          refine ⟨x + q + 1, y, by omega, hyn, by go_num, rfl, fun i hi => ?_, HHI.out⟩
          have h1 := ris_get HR.out (i := i) (j := x + q) (by omega) (by rw [HLn.out]; exact hqn)
          have h2 := HUP.out
          rw [HZ9.out] at h1
          omega
        case measure => simp [intOf]; omega
      · have hd : decide (u < p) = false := decide_eq_false hup
        have HUP := Lib.hid hup
        clear hup
        go_wp2_with ((with_reducible refine HN9.out.mono ?_); rintro e w9 ⟨rfl, rfl⟩)
        go_round
        case rel =>
          refine ⟨x, x + q, by omega, by omega, rfl, by go_num, HLO.out, fun i h1 h2 => ?_⟩
          have h3 := ris_get HR.out (i := x + q) (j := i) h1 (by rw [HLn.out]; exact h2)
          have h4 := HUP.out
          rw [HZ9.out] at h3
          omega
        case measure => simp [intOf]; omega
    · obtain rfl : x = y := by omega
      have hltI : ¬ (x : Int) < (x : Int) := by omega
      have hpl : place Z p = x := place_eq (by rw [HLn.out]; exact hyn) HLO.out (fun h1 => HHI.out x (Nat.le_refl _) (by rw [HLn.out] at h1; exact h1))
      have HPL := Lib.hid hpl
      clear hpl
      go_wp2
      go_ret
      exact ⟨congrArg (fun z : Nat => Ending.returned (.int .i64 (z : Int))) HPL.out.symm, rfl⟩
theorem halve_nil (tb : Nat) (p : Int) (w : World) :
    Calls Try.prog 78 #[.slice none 0 0, .int .u64 p, .func (.func 44) #[.pointer (some ⟨tb, 0, none⟩)] #[]] w fun e w' => e = .returned (.int .i64 0) ∧ w = w' := by
  go_enter Try.func78, Try.ntmps78
  go_wp2
  refine wp_loop_rounds 1 ?_
  rw [rounds_succ]
  go_wp2
  go_ret
  exact ⟨rfl, rfl⟩
set_option maxRecDepth 100000 in
set_option maxHeartbeats 1000000 in
theorem child_tr {w : World} {B tb nb nc : Nat} {rv : Nat → Value} {L W : LL} (h : TrP w B tb nb nc rv L W) (hI : Inv L) (k p : Int) :
    Calls Try.prog 55 #[.pointer (some ⟨tb, 0, none⟩), .int .i64 k, .int .u64 p] w fun e w' => e = .returned (.int .i64 (childV L k p)) ∧ Below w.heap.size w w' := by
  by_cases hk : out L k
  · have hc := h.at_out hk
    have e : childV L k p = -1 := by unfold childV; rw [if_pos hk]
    rw [e]
    have hfd := nd_field3
    have HH := Lib.hid (halve_nil tb p)
    clear e hk h
    go_enter Try.func55, Try.ntmps55
    go_wp2_with (first
      | (go_at_call 50; refine hc.mono ?_; rintro e w1 ⟨rfl, hb⟩; have HB := Lib.hid hb; clear hb)
      | (go_at_call 78; refine (HH.out _).mono ?_; rintro e w1 ⟨rfl, rfl⟩))
    go_ret
    exact ⟨rfl, HB.out⟩
  · obtain ⟨n, rfl⟩ : ∃ n : Nat, k = (n : Int) := ⟨k.toNat, by omega⟩
    have hn : n < L.length := by omega
    have HA := Lib.hid (h.at_in hn)
    have HH := Lib.hid (fun (w' : World) (hb : Below w.heap.size w w') => halve_tr (h.later hb) n hn p)
    have HN := Lib.hid (fun (w' : World) (hb : Below w.heap.size w w') (j : Nat) (hj : j < L.length) => number_tr (h.later hb) hj)
    have hr := TrX.rows h (2 * n + 1) (by omega)
    have hl : (data L W (2 * n + 1)).length = (kids L n).length := by rw [data_kids]; simp
    rw [hl, data_kids] at hr
    have HM : Hid (∀ i, i < (kids L n).length → (kids L n).getD i 0 < L.length) := Lib.hid fun i hi => (kids_mem.1 (gD_mem (d := 0) hi)).1
    have hn9 : (kids L n).length ≤ 9223372036854775807 := Nat.le_trans (kids_len L n) h.len9
    obtain ⟨a, c, ev⟩ := Tr.own_form hr
    have HC : Hid (∀ i, i < (kids L n).length → ∃ g, a = some ⟨g, 0, none⟩ ∧ w.cell? ⟨g, i, none⟩ = some (.int .i64 ((kids L n).getD i 0 : Nat))) := Lib.hid fun i hi => by
      obtain ⟨g, c', ev', _, _⟩ := hr.form (by omega)
      rw [ev] at ev'
      injection ev' with e1 e2 e3
      rw [ev, e1] at hr
      refine ⟨g, e1, ?_⟩
      have hcell := hr.cellAt i (by omega)
      rw [hcell, List.getElem?_map, List.getElem?_map, List.getElem?_eq_getElem hi, gD hi]; rfl
    have hpl := place_le ((kids L n).map (num L)) p
    rw [List.length_map] at hpl
    have HCH := Lib.hid (fun (q : Nat) (hq : q < (kids L n).length) (e : num L ((kids L n).getD q 0) = p) => child_hit hI hn hq e)
    have HCN := Lib.hid (fun hp => child_none hI hn (p := p) hp)
    rw [ev] at HA HH
    generalize hpz : place ((kids L n).map (num L)) p = z at *
    obtain ⟨m, hm⟩ : ∃ m, (kids L n).length = m := ⟨_, rfl⟩
    rw [hm] at HM hn9 HC hpl HA HH HCH HCN
    generalize kids L n = K at *
    generalize childV L n p = cv at *
    generalize parV L n = pv at HA
    generalize num L n = nv at HA
    generalize depV L n = dv at HA
    generalize rv (2 * n + 2) = vw at HA
    have hfd := nd_field3
    clear hk h hr hl hn ev hm hpz
    by_cases hz : z = m
    · have hcv := HCN.out (.inl hz)
      have HCV := Lib.hid hcv
      have hb1 : ((z : Int) == (m : Int)) = true := by rw [hz]; simp
      clear hcv HC HM HN HCH HCN
      have HZ := Lib.hid hz
      clear hz
      go_enter Try.func55, Try.ntmps55
      go_wp2_with (first
        | (go_at_call 50; refine HA.out.mono ?_; rintro e w1 ⟨rfl, hb⟩; have HB := Lib.hid hb; have HH2 := Lib.hid (HH.out _ hb); clear hb)
        | (go_at_call 78; refine HH2.out.mono ?_; rintro e w2 ⟨rfl, rfl⟩))
      go_ret
      exact ⟨congrArg (fun z : Int => Ending.returned (.int .i64 z)) HCV.out.symm, HB.out⟩
    · have hzm : z < m := by omega
      have hb1 : ((z : Int) == (m : Int)) = false := by rw [beq_eq_false_iff_ne]; omega
      have hzI : (z : Int) < (m : Int) := by omega
      have hz0 : (0 : Int) ≤ (z : Int) := Int.natCast_nonneg _
      obtain ⟨g, rfl, hcell⟩ := HC.out z hzm
      have hj9 := HM.out z hzm
      have hhit := HCH.out z hzm
      have hnone := fun h => HCN.out (.inr h)
      obtain ⟨j, hj⟩ : ∃ j, K.getD z 0 = j := ⟨_, rfl⟩
      rw [hj] at hcell hj9 hhit hnone
      have HN2 := Lib.hid (fun (w' : World) (hb : Below w.heap.size w w') => HN.out w' hb j hj9)
      obtain ⟨u, hu⟩ : ∃ u, num L j = u := ⟨_, rfl⟩
      rw [hu] at HN2 hhit hnone
      have HC2 := Lib.hid hcell
      have HHIT := Lib.hid hhit
      have HNONE := Lib.hid hnone
      clear HN HCH HCN HC HM hz hj hu hj9 hhit hnone hcell
      by_cases hup : u = p
      · have hcv := HHIT.out hup
        have HCV := Lib.hid hcv
        have hb2 : (u != p) = false := by rw [hup]; simp
        clear hup hcv
        go_enter Try.func55, Try.ntmps55
        go_wp2_with (first
          | (go_at_call 50; refine HA.out.mono ?_; rintro e w1 ⟨rfl, hb⟩; have HB := Lib.hid hb; have HH2 := Lib.hid (HH.out _ hb); have HN3 := Lib.hid (HN2.out _ hb); have hcl := cell_later hb HC2.out; clear hb)
          | (go_at_call 78; refine HH2.out.mono ?_; rintro e w2 ⟨rfl, rfl⟩)
          | (go_at_call 44; refine HN3.out.mono ?_; rintro e w2 ⟨rfl, rfl⟩))
        go_ret
        exact ⟨congrArg (fun z : Int => Ending.returned (.int .i64 z)) HCV.out.symm, HB.out⟩
      · have hcv := HNONE.out hup
        have HCV := Lib.hid hcv
        have hb2 : (u != p) = true := by simpa using hup
        clear hup hcv
        go_enter Try.func55, Try.ntmps55
        go_wp2_with (first
          | (go_at_call 50; refine HA.out.mono ?_; rintro e w1 ⟨rfl, hb⟩; have HB := Lib.hid hb; have HH2 := Lib.hid (HH.out _ hb); have HN3 := Lib.hid (HN2.out _ hb); have hcl := cell_later hb HC2.out; clear hb)
          | (go_at_call 78; refine HH2.out.mono ?_; rintro e w2 ⟨rfl, rfl⟩)
          | (go_at_call 44; refine HN3.out.mono ?_; rintro e w2 ⟨rfl, rfl⟩))
        go_ret
        exact ⟨congrArg (fun z : Int => Ending.returned (.int .i64 z)) HCV.out.symm, HB.out⟩
end Go.Proofs.Ytpkikhoicobmcaa

/- How far a word is known: by a tree. No condition. -/
namespace Go.Proofs.Ytpkikhoicobmcaa
open Go.RowKit
set_option linter.unusedVariables false
open Tr
theorem take_snocI {l : List Int} {i : Nat} (h : i < l.length) : l.take i ++ [l.getD i 0] = l.take (i + 1) := by
  rw [gD h, List.take_succ_eq_append_getElem h]
theorem Tr.child_take {L : LL} {l : List Int} {i : Nat} (hm : l.take i ∈ L) (hi : i < l.length) : childV L (findV L (l.take i)) (l.getD i 0) = findV L (l.take (i + 1)) := by
  have h1 := idx_lt_iff.2 hm
  unfold childV out
  rw [findV_mem hm, if_neg (by omega), Int.toNat_natCast, idx_at hm, take_snocI hi]
theorem slk_at {q : IntKind} {w : World} {a : Option Addr} {n : Nat} {l : List Int} (h : SlK q w a n l) (hn : 0 < n) : ∃ b o, a = some ⟨b, o, none⟩ ∧ ∀ i, i < n → w.cell? ⟨b, o + i, none⟩ = some (.int q (l.getD i 0)) := by
  rcases h.2 with h0 | ⟨b, o, e, hc⟩
  · omega
  · exact ⟨b, o, e, hc⟩
set_option maxRecDepth 100000 in
set_option maxHeartbeats 1000000 in
theorem walk_tr {w : World} {B tb nb nc : Nat} {rv : Nat → Value} {L W : LL} (h : TrP w B tb nb nc rv L W) (hI : Inv L) {a : Option Addr} {m c : Nat} {l : List Int} (hs : SlK .u64 w a m l) (hm9 : m ≤ 9223372036854775807) :
    Calls Try.prog 39 #[.pointer (some ⟨tb, 0, none⟩), .slice a m c] w fun e w' => e = .returned (.tuple #[.int .i64 (walkN L l), .int .i64 (known L l)]) ∧ Below w.heap.size w w' := by
  have HCh := Lib.hid (fun (w' : World) (hb : Below w.heap.size w w') (k p : Int) => child_tr (h.later hb) hI k p)
  have HS := Lib.hid (fun (w' : World) (hb : Below w.heap.size w w') => hs.below hb)
  have HI := Lib.hid hI
  have hlm := hs.1
  have HLM := Lib.hid hlm
  have HPos : Hid (∀ p, p ∈ L → findV L p ≠ -1) := Lib.hid fun p hp => by have := findV_pos.2 hp; omega
  clear h hs hlm
  go_enter Try.func39, Try.ntmps39
  go_wp2
  go_loopw [6, 12] (fun s6 s12 wr => ∃ i : Nat, i ≤ m ∧ s12 = .int .i64 i ∧ s6 = .int .i64 (findV L (l.take i)) ∧ l.take i ∈ L ∧ Below w.heap.size w wr) (fun _ s12 _ => m - (intOf s12).toNat)
  case atStart =>
    refine ⟨0, Nat.zero_le _, rfl, ?_, by rw [List.take_zero]; exact HI.out.nil, Below.refl _ _⟩
    have e : findV L (l.take 0) = 0 := findV_hit (k := 0) HI.out.pos HI.out.root (fun j hj => by omega)
    rw [e]
  case round =>
    obtain ⟨i, hi, rfl, rfl, hin, hb⟩ := hrel
    have HB := Lib.hid hb
    have HIN := Lib.hid hin
    by_cases hlt : i < m
    · have hltI : (i : Int) < (m : Int) := by omega
      have hi0 : (0 : Int) ≤ (i : Int) := Int.natCast_nonneg _
      obtain ⟨b, o, rfl, hc⟩ := slk_at (HS.out _ hb) (by omega)
      have hci := hc i hlt
      have hct := child_take hin (by rw [HLM.out]; exact hlt)
      have hch := HCh.out _ hb (findV L (l.take i)) (l.getD i 0)
      rw [hct] at hch
      have hpos := HPos.out (l.take (i + 1))
      have HK := Lib.hid (fun hn => known_eq HI.out (w := l) (k := i) (by rw [HLM.out]; exact hi) hin (.inr hn))
      obtain ⟨x, hx⟩ : ∃ x, l.getD i 0 = x := ⟨_, rfl⟩
      obtain ⟨y, hy⟩ : ∃ y, findV L (l.take (i + 1)) = y := ⟨_, rfl⟩
      obtain ⟨z, hz⟩ : ∃ z, findV L (l.take i) = z := ⟨_, rfl⟩
      rw [hx] at hci hch
      rw [hy] at hch hpos
      rw [hz] at hch
      rw [hz]
      have HY := Lib.hid hy
      have HZ := Lib.hid hz
      have HCH := Lib.hid hch
      clear hb hin hc hct hch hx hy hz
      by_cases hmem : l.take (i + 1) ∈ L
      · have hyn := hpos hmem
        have hb1 : (y == -1) = false := by simpa using hyn
        have HMEM := Lib.hid hmem
        clear hpos hmem hyn
        go_wp2_with (go_at_call 55; refine HCH.out.mono ?_; rintro e w9 ⟨rfl, hb9⟩; have HB9 := Lib.hid (bel_step HB.out hb9); clear hb9)
        go_roundw
        case rel => exact ⟨i + 1, by omega, by go_num, by rw [HY.out], HMEM.out, HB9.out⟩
        case measure => simp [intOf]; omega
      · have hyn : y = -1 := by rw [← HY.out]; exact findV_not hmem
        have hb1 : (y == -1) = true := by rw [hyn]; rfl
        have hk := HK.out hmem
        have HKN := Lib.hid hk
        clear hpos hmem hyn hk
        go_wp2_with (go_at_call 55; refine HCH.out.mono ?_; rintro e w9 ⟨rfl, hb9⟩; have HB9 := Lib.hid (bel_step HB.out hb9); clear hb9)
        go_ret2
        exact ⟨by unfold walkN; rw [HKN.out, HZ.out]; rfl, HB9.out⟩
    · obtain rfl : i = m := by omega
      have hltI : ¬ (i : Int) < (i : Int) := by omega
      have hk := known_eq HI.out (w := l) (k := i) (by rw [HLM.out]; exact hi) hin (.inl HLM.out.symm)
      have HKN := Lib.hid hk
      clear hk hin hb
      obtain ⟨z, hz⟩ : ∃ z, findV L (l.take i) = z := ⟨_, rfl⟩
      rw [hz]
      have HZ := Lib.hid hz
      clear hz
      go_wp2
      go_ret2
      exact ⟨by unfold walkN; rw [HKN.out, HZ.out]; rfl, HB.out⟩
end Go.Proofs.Ytpkikhoicobmcaa

/- A new tree; the words that end at a node. No condition. -/
namespace Go.Proofs.Ytpkikhoicobmcaa
open Go.RowKit
set_option linter.unusedVariables false
open Tr
theorem Try.info_int : (Try.prog.info? 3).map (fun i => (i.zero, i.size, i.bytes)) = some (some (.int .i64 0), 1, 8) := by kernel_rfl
theorem heap_old2 {w : World} {g : Nat} {x : Obj} (h : w.heap[g]? = some x) (o : Obj) : (w.alloc o).heap[g]? = some x := by
  rw [Below.heap_alloc w o g (Array.getElem?_eq_some_iff.1 h).1]; exact h
theorem own_empty (w : World) (e : TypeId) : (w.alloc (.cells #[] e)).ownsRow w.heap.size e 1 (.slice (some ⟨w.heap.size, 0, none⟩) 0 0) 0 [] :=
  ⟨rfl, .inr ⟨w.heap.size, 0, #[], rfl, Nat.le_refl _, World.alloc_heap_new w _, Nat.le_refl _, by unfold maxLen; omega, rfl, rfl⟩⟩
theorem isnil_run (w : World) : (binOp .eql 31 (.slice none 0 0) (.slice none 0 0)).run Try.prog w = .ok (.bool true) w := by kernel_rfl
theorem isnot_run (ad : Addr) (n c : Nat) (w : World) : (binOp .eql 31 (.slice (some ad) n c) (.slice none 0 0)).run Try.prog w = .ok (.bool false) w := by kernel_rfl
set_option maxRecDepth 100000 in
set_option maxHeartbeats 1000000 in
theorem clone_tr {w : World} {a : Option Addr} {n c : Nat} {l : List Int} (hs : SlK .i64 w a n l) (hn : n ≤ 1000000) (hnil : a = none → c = 0 ∧ n = 0) :
    Calls Try.prog 77 #[.slice a n c] w fun e w' => ∃ v, e = .returned v ∧ w'.ownsRow w.heap.size 3 1 v n (l.map (Value.int .i64)) ∧ Below w.heap.size w w' := by
  cases a with
  | none =>
    obtain ⟨rfl, rfl⟩ := hnil rfl
    have hl : l = [] := List.length_eq_zero_iff.1 hs.1
    subst hl
    clear hs hnil
    have E := isnil_run w
    go_enter Try.func77, Try.ntmps77
    go_wp2
    go_ret
    exact ⟨_, rfl, World.ownsRow_nil _ _ _ _, Below.refl _ _⟩
  | some ad =>
    obtain ⟨i0, hi, hz0, hz1, hz2⟩ := info_parts Try.info_int
    have hb := box1T w (.cells #[] 3)
    have ho := own_empty w 3
    have HS := Lib.hid (hs.below hb)
    obtain ⟨W, hW⟩ : ∃ W, w.alloc (.cells #[] 3) = W := ⟨_, rfl⟩
    rw [hW] at hb ho HS
    have HB := Lib.hid hb
    have HO := Lib.hid ho
    have HW := Lib.hid hb.size
    clear hs hnil hb ho
    have E := isnot_run ad n c w
    go_enter Try.func77, Try.ntmps77
    go_upto_region 3 with fail
    go_wp2_with (at_builtin; (try rw [hW]); clear hW; refine wpList_app rfl _ _ 31 rfl w.heap.size 3 i0 .i64 8 Try.underlying31 hi hz0 hz1 hz2 _ 0 [] rfl HO.out _ n c l rfl HS.out (by unfold maxLen; omega) (by omega) HW.out ?_; intro v2 w7 hown hgrow _; have H1 := Lib.hid hown; have H2 := Lib.hid hgrow; clear hown hgrow)
    go_ret
    refine ⟨_, rfl, ?_, HB.out.grown H2.out HW.out (fun j ej => ?_)⟩
    · have h := H1.out; rwa [Nat.zero_add, List.nil_append] at h
    · cases ej; exact Nat.le_refl _
theorem words_tr {w : World} {B tb nb nc : Nat} {rv : Nat → Value} {L W : LL} (h : TrP w B tb nb nc rv L W) (hW : ∀ x ∈ W, x ∈ L) (hl9 : W.length ≤ 1000000) (k : Int) :
    Calls Try.prog 54 #[.pointer (some ⟨tb, 0, none⟩), .int .i64 k] w fun e w' => ∃ v, e = .returned v ∧ w'.ownsRow w.heap.size 3 1 v (wordsV L W k).length ((wordsV L W k).map (Value.int .i64)) ∧ Below w.heap.size w w' := by
  by_cases hk : out L k
  · have hc := h.at_out hk
    have e : wordsV L W k = [] := wordsV_out hW hk
    rw [e]
    have hfd := nd_field4
    have HC := Lib.hid (fun (w' : World) => clone_tr (w := w') (a := none) (n := 0) (c := 0) (l := []) ⟨rfl, .inl rfl⟩ (by omega) (fun _ => ⟨rfl, rfl⟩))
    clear e hk h hW
    go_enter Try.func54, Try.ntmps54
    go_wp2_with (first
      | (go_at_call 50; refine hc.mono ?_; rintro e w1 ⟨rfl, hb⟩; have HB := Lib.hid hb; clear hb)
      | (go_at_call 77; refine (HC.out _).mono ?_; rintro e w2 ⟨v, rfl, ho, hb⟩; have HO := Lib.hid ho; have HB2 := Lib.hid hb; clear ho hb))
    go_ret
    exact ⟨_, rfl, ownsRow_base HO.out HB.out.size, bel_step HB.out HB2.out⟩
  · obtain ⟨n, rfl⟩ : ∃ n : Nat, k = (n : Int) := ⟨k.toNat, by omega⟩
    have hn : n < L.length := by omega
    have hc := h.at_in hn
    have hr := TrX.rows h (2 * n + 2) (by omega)
    rw [data_words] at hr
    have hwl := wordsV_len L W (n : Int)
    obtain ⟨a, c, ev⟩ := Tr.own_form hr
    rw [ev] at hr hc
    have HC := Lib.hid (fun (w' : World) (hb : Below w.heap.size w w') => clone_tr (w := w') (a := a) (n := (wordsV L W n).length) (c := c) (l := wordsV L W n) (by
      obtain ⟨ad, cap, e1, ho, _⟩ := ownK_row rfl hr
      injection e1 with e1 e2 e3
      subst e1
      exact ho.sl.below hb) (by omega) (fun e0 => by
      rcases hr.2 with ⟨e1, e2⟩ | ⟨g, cap, cur, e1, _⟩
      · injection e1 with _ _ e3; exact ⟨e3, e2⟩
      · injection e1 with e3; rw [e0] at e3; cases e3))
    generalize parV L n = p at hc
    generalize num L n = p at hc
    generalize depV L n = p at hc
    generalize rv (2 * n + 1) = v at hc
    generalize wordsV L W n = ws at *
    obtain ⟨m, hm⟩ : ∃ m, ws.length = m := ⟨_, rfl⟩
    rw [hm] at hc HC ⊢
    have hfd := nd_field4
    clear hk h hn hr hwl ev hm hW
    go_enter Try.func54, Try.ntmps54
    go_wp2_with (first
      | (go_at_call 50; refine hc.mono ?_; rintro e w1 ⟨rfl, hb⟩; have HB := Lib.hid hb; clear hb)
      | (go_at_call 77; refine (HC.out _ HB.out).mono ?_; rintro e w2 ⟨v, rfl, ho, hb⟩; have HO := Lib.hid ho; have HB2 := Lib.hid hb; clear ho hb))
    go_ret
    exact ⟨_, rfl, ownsRow_base HO.out HB.out.size, bel_step HB.out HB2.out⟩
theorem new_tr (w : World) : Calls Try.prog 42 #[] w fun e w' => ∃ tb nb, e = .returned (.pointer (some ⟨tb, 0, none⟩)) ∧ TrP w' w.heap.size tb nb 1 (fun _ => .slice none 0 0) [[]] [] ∧ Below w.heap.size w w' ∧ w.heap.size ≤ tb ∧ w.heap.size ≤ nb := by
  go_enter Try.func42, Try.ntmps42
  go_wp2
  go_ret
  refine ⟨w.heap.size + 1, w.heap.size, by simp, ⟨by omega, by simp, ?_, ?_, ?_, ?_⟩, by go_grown, by omega, by omega⟩
  · simpa using World.alloc_heap_new (w.alloc (.cells #[.int .u64 0, .int .i64 (-1), .int .i64 0, .slice none 0 0, .slice none 0 0] 93)) (.cells #[.slice (some ⟨w.heap.size, 0, none⟩) 1 1, .slice none 0 0] 85)
  · refine ⟨by rw [nds_len], .inr ⟨w.heap.size, 1, #[.int .u64 0, .int .i64 (-1), .int .i64 0, .slice none 0 0, .slice none 0 0], rfl, Nat.le_refl _, ?_, Nat.le_refl _, by unfold maxLen; omega, rfl, ?_⟩⟩
    · exact heap_old2 (World.alloc_heap_new w _) _
    · rfl
  · intro i hi
    have e : data [[]] [] i = [] := by
      have : i = 0 ∨ i = 1 ∨ i = 2 := by simp at hi; omega
      rcases this with rfl | rfl | rfl <;> rfl
    rw [e]
    exact World.ownsRow_nil _ _ _ _
  · intro i j _ _ _
    exact .inl rfl
end Go.Proofs.Ytpkikhoicobmcaa

/- A node's children, and the way up from a node, as iterators hand them out. No condition. -/
namespace Go.Proofs.Ytpkikhoicobmcaa
open Go.RowKit Go.Shelf
attribute [local go_sem] Oper.semAt_some
set_option linter.unusedVariables false
open Tr
theorem sep_belowT {Z : Nat → Prop} {A B : World} (h : Below A.heap.size A B) : Sep Z A B := ⟨h.os, h.tape, h.output, h.size, fun k hk _ => h.block k hk⟩
/-- an iterator is made: two cells of its own, the tree and a node -/
def MadeT (g : Nat) (tb : Nat) (k : Int) (flip : Bool) (w : World) (e : Ending) (w' : World) : Prop :=
  ∃ x y, e = .returned (.func (.func g) #[] (if flip = true then #[.pointer (some ⟨y, 0, none⟩), .pointer (some ⟨x, 0, none⟩)] else #[.pointer (some ⟨x, 0, none⟩), .pointer (some ⟨y, 0, none⟩)])) ∧ x ≠ y ∧ w.heap.size ≤ x ∧ w.heap.size ≤ y ∧
    w'.cell? ⟨x, 0, none⟩ = some (.pointer (some ⟨tb, 0, none⟩)) ∧ w'.cell? ⟨y, 0, none⟩ = some (.int .i64 k) ∧ Below w.heap.size w w'
theorem children_made (tb : Nat) (k : Int) (w : World) : Calls Try.prog 92 #[.pointer (some ⟨tb, 0, none⟩), .int .i64 k] w (MadeT 96 tb k false w) := by
  go_enter Try.func92, Try.ntmps92
  go_wp2
  go_ret
  exact ⟨_, _, rfl, by omega, by omega, by omega, by simp [go_sem], by simp [go_sem], by go_grown⟩
theorem upward_made (tb : Nat) (k : Int) (w : World) : Calls Try.prog 43 #[.pointer (some ⟨tb, 0, none⟩), .int .i64 k] w (MadeT 59 tb k true w) := by
  go_enter Try.func43, Try.ntmps43
  go_wp2
  go_ret
  exact ⟨_, _, rfl, by omega, by omega, by omega, by simp [go_sem], by simp [go_sem], by go_grown⟩
/-- what an iterator may turn itself: nothing; what must stand: its two cells, and the tree's blocks, too -/
def Zy (w : World) (k : Nat) : Prop := False
def Zq (x y tb nb n : Nat) (rv : Nat → Value) (w : World) (k : Nat) : Prop := k = x ∨ k = y ∨ Fp tb nb n rv k
theorem TrP.hold {W0 W : World} {x y B tb nb nc : Nat} {rv : Nat → Value} {L Ws : LL} (h : TrP W0 B tb nb nc rv L Ws) {Z : Nat → Prop} (hz : ∀ g, Fp tb nb L.length rv g → Z g) (hh : Hold Z W0 W) : TrP W B tb nb nc rv L Ws :=
  TrX.of_blocks h fun g hg => hh.block g (TrX.lt h hg).2 (hz g hg)
set_option maxRecDepth 100000 in
set_option maxHeartbeats 2000000 in
theorem children_gives {W0 : World} {B tb nb nc x y : Nat} {rv : Nat → Value} {L Ws : LL} (h : TrP W0 B tb nb nc rv L Ws) (k : Nat) (hk : k < L.length) (cx : W0.cell? ⟨x, 0, none⟩ = some (.pointer (some ⟨tb, 0, none⟩))) (cy : W0.cell? ⟨y, 0, none⟩ = some (.int .i64 (k : Int))) (m : Nat) (hm : 1 ≤ m) :
    GivesN Fence.wide m Try.prog 96 #[.pointer (some ⟨x, 0, none⟩), .pointer (some ⟨y, 0, none⟩)] (fun j : Nat => #[.int .i64 (j : Int)]) (Zq x y tb nb L.length rv W0) (Zy W0) (kids L k) W0 := by
  intro l J Jx Wd hWs hW hJ hJx hY h00
  have hT : TrP Wd B tb nb nc rv L Ws := h.hold (x := x) (y := y) (fun g hg => .inr (.inr hg)) hW
  have cx1 := hW.cell (.inl rfl) cx
  have cy1 := hW.cell (.inr (.inl rfl)) cy
  have hr := TrX.rows hT (2 * k + 1) (by omega)
  have hl : (data L Ws (2 * k + 1)).length = (kids L k).length := by rw [data_kids]; simp
  rw [hl, data_kids] at hr
  have hn9 : (kids L k).length ≤ 9223372036854775807 := Nat.le_trans (kids_len L k) hT.len9
  have HA := Lib.hid (hT.at_in hk)
  obtain ⟨a, c, ev⟩ := Tr.own_form hr
  have HFp : Hid (∀ g, (rv (2 * k + 1)).ownBlock = some g → Zq x y tb nb L.length rv W0 g) := Lib.hid fun g hg => .inr (.inr (.inr (.inr ⟨2 * k + 1, by omega, hg⟩)))
  have HC : Hid (∀ i, i < (kids L k).length → ∃ g, a = some ⟨g, 0, none⟩ ∧ Wd.cell? ⟨g, i, none⟩ = some (.int .i64 ((kids L k).getD i 0 : Nat))) := Lib.hid fun i hi => by
    obtain ⟨g, c', ev', _, _⟩ := hr.form (by omega)
    rw [ev] at ev'
    injection ev' with e1 e2 e3
    rw [ev, e1] at hr
    refine ⟨g, e1, ?_⟩
    have hcell := hr.cellAt i (by omega)
    rw [hcell, List.getElem?_map, List.getElem?_map, List.getElem?_eq_getElem hi, gD hi]; rfl
  rw [ev] at HA HFp
  generalize parV L k = p at HA
  generalize num L k = p at HA
  generalize depV L k = p at HA
  generalize rv (2 * k + 2) = v at HA
  obtain ⟨xs, hxs⟩ : ∃ xs, kids L k = xs := ⟨_, rfl⟩
  rw [hxs] at hY HA HC hn9 HFp
  rw [hxs]
  obtain ⟨n, hn⟩ : ∃ n, xs.length = n := ⟨_, rfl⟩
  rw [hn] at HA HC hn9 HFp
  have HN := Lib.hid hn
  have HY := Lib.hid hY
  have hfd := nd_field3
  clear hY hxs hn h cx cy hW hT hr hl ev
  refine callsIn_of_wp Try.func96 rfl trivial ?_ rfl
  simp only [Try.ntmps96, List.size_toArray, List.length_cons, List.length_nil, Nat.reduceAdd, Nat.reduceSub, Array.replicate_succ, Array.replicate_zero, List.push_toArray, List.append_toArray, List.nil_append, List.cons_append]
  gi_wp2_with (refine ⟨trivial, ?_⟩; gi_at_call 50; refine (callsIn_wide.2 HA.out).mono ?_; rintro e w3 ⟨rfl, hb⟩; have HB := Lib.hid hb; clear hb)
  have h01 := Lib.hid (hJ _ _ _ h00 (sep_belowT HB.out))
  have HC3 : Hid (∀ i, i < n → ∃ g, a = some ⟨g, 0, none⟩ ∧ Zq x y tb nb L.length rv W0 g ∧ w3.cell? ⟨g, i, none⟩ = some (.int .i64 (xs.getD i 0 : Nat))) := Lib.hid fun i hi => by
    obtain ⟨g, e1, e2⟩ := HC.out i hi
    exact ⟨g, e1, HFp.out g (by rw [e1]; rfl), cell_later HB.out e2⟩
  clear h00 cx1 cy1 HA HC
  gi_loopw [11] (fun i wr => ∃ p : Nat, p ≤ n ∧ i = .int .i64 p ∧ J (xs.take p) wr ∧ Hid (∀ i, i < n → ∃ g, a = some ⟨g, 0, none⟩ ∧ Zq x y tb nb L.length rv W0 g ∧ wr.cell? ⟨g, i, none⟩ = some (.int .i64 (xs.getD i 0 : Nat)))) (fun i _ => n - (intOf i).toNat)
  case atStart => exact ⟨0, Nat.zero_le _, rfl, by simpa using h01.out, HC3⟩
  case round =>
    obtain ⟨p, hp, rfl, hj, HCr⟩ := hrel
    have HJ := Lib.hid hj
    clear hj h01 HC3
    by_cases hlt : p < n
    · have hltI : (p : Int) < (n : Int) := by omega
      have hp0 : (0 : Int) ≤ (p : Int) := Int.natCast_nonneg _
      obtain ⟨g, rfl, hzg, hcell⟩ := HCr.out p hlt
      obtain ⟨j, hjx⟩ : ∃ j, xs.getD p 0 = j := ⟨_, rfl⟩
      have hsp : xs = xs.take p ++ j :: xs.drop (p + 1) := by
        conv => lhs; rw [← List.take_append_drop p xs, List.drop_eq_getElem_cons (by rw [HN.out]; exact hlt)]
        rw [← hjx, gD (by rw [HN.out]; exact hlt)]
      have hnx : xs.take p ++ [j] = xs.take (p + 1) := by
        rw [List.take_succ_eq_append_getElem (by rw [HN.out]; exact hlt), ← hjx, gD (by rw [HN.out]; exact hlt)]
      rw [hjx] at hcell
      obtain ⟨fn, tmps, assign, body, hy, hR⟩ := HY.out (xs.take p) j (xs.drop (p + 1)) wr hsp HJ.out
      rw [hnx] at hR
      have HZ := Lib.hid hzg
      clear hjx hsp hnx hzg
      gi_wp2
      refine hR.mono ?_
      rintro e W3 ⟨hh, (⟨rfl, hJ3⟩ | ⟨rfl, hJx3⟩)⟩
      · have HCn : Hid (∀ i, i < n → ∃ g, (some ⟨g, 0, none⟩ : Option Addr) = some ⟨g, 0, none⟩ ∧ Zq x y tb nb L.length rv W0 g ∧ W3.cell? ⟨g, i, none⟩ = some (.int .i64 (xs.getD i 0 : Nat))) := Lib.hid fun i hi => by
          obtain ⟨g', e1, e2, e3⟩ := HCr.out i hi
          cases e1
          exact ⟨g, rfl, e2, hh.cell e2 e3⟩
        have HCm : Hid (∀ i, i < n → ∃ g', (some ⟨g, 0, none⟩ : Option Addr) = some ⟨g', 0, none⟩ ∧ Zq x y tb nb L.length rv W0 g' ∧ W3.cell? ⟨g', i, none⟩ = some (.int .i64 (xs.getD i 0 : Nat))) := Lib.hid fun i hi => by
          obtain ⟨g', e1, e2, e3⟩ := HCr.out i hi
          exact ⟨g', e1, e2, hh.cell e2 e3⟩
        have HJ3 := Lib.hid hJ3
        clear hR hy hcell HCn hJ3 hh
        gi_wp2
        go_roundw
        case rel => exact ⟨p + 1, by omega, by go_num, HJ3.out, HCm⟩
        case measure => simp [intOf]; omega
      · gi_wp2
        refine bodyPost_ret (results_none rfl _ _ _) rfl ?_
        exact ⟨⟨_, rfl⟩, .inr ⟨xs.take (p + 1), List.take_prefix _ _, hJx3⟩⟩
    · obtain rfl : p = n := by omega
      have hltI : ¬ (p : Int) < (p : Int) := by omega
      have hjf := HJ.out
      rw [List.take_of_length_le (by rw [HN.out]; exact Nat.le_refl _)] at hjf
      have HJF := Lib.hid hjf
      clear hjf
      gi_wp2
      go_end0
      exact ⟨⟨_, rfl⟩, .inl HJF.out⟩
/-- of no node nothing is handed out -/
theorem children_none {W0 : World} {B tb nb nc x y : Nat} {rv : Nat → Value} {L Ws : LL} (h : TrP W0 B tb nb nc rv L Ws) (k : Int) (hk : out L k) (cx : W0.cell? ⟨x, 0, none⟩ = some (.pointer (some ⟨tb, 0, none⟩))) (cy : W0.cell? ⟨y, 0, none⟩ = some (.int .i64 k)) (m : Nat) (hm : 1 ≤ m) :
    GivesN Fence.wide m Try.prog 96 #[.pointer (some ⟨x, 0, none⟩), .pointer (some ⟨y, 0, none⟩)] (fun j : Nat => #[.int .i64 (j : Int)]) (Zq x y tb nb L.length rv W0) (Zy W0) [] W0 := by
  intro l J Jx Wd hWs hW hJ hJx hY h00
  have hT : TrP Wd B tb nb nc rv L Ws := h.hold (x := x) (y := y) (fun g hg => .inr (.inr hg)) hW
  have cx1 := hW.cell (.inl rfl) cx
  have cy1 := hW.cell (.inr (.inl rfl)) cy
  have HA := Lib.hid (hT.at_out hk)
  have hfd := nd_field3
  have HJ0 := Lib.hid h00
  have HJs := Lib.hid hJ
  clear hY h cx cy hW hT hk h00 hJ hJx
  refine callsIn_of_wp Try.func96 rfl trivial ?_ rfl
  simp only [Try.ntmps96, List.size_toArray, List.length_cons, List.length_nil, Nat.reduceAdd, Nat.reduceSub, Array.replicate_succ, Array.replicate_zero, List.push_toArray, List.append_toArray, List.nil_append, List.cons_append]
  gi_wp2_with (refine ⟨trivial, ?_⟩; gi_at_call 50; refine (callsIn_wide.2 HA.out).mono ?_; rintro e w3 ⟨rfl, hb⟩; have HB := Lib.hid hb; clear hb)
  gi_loopw [11] (fun i wr => i = .int .i64 0 ∧ J [] wr) (fun i _ => 0)
  case atStart => exact ⟨rfl, HJs.out _ _ _ HJ0.out (sep_belowT HB.out)⟩
  case round =>
    obtain ⟨rfl, hj⟩ := hrel
    gi_wp2
    go_end0
    exact ⟨⟨_, rfl⟩, .inl hj⟩
end Go.Proofs.Ytpkikhoicobmcaa

/- The way up from a node, as an iterator hands it out. No condition. -/
namespace Go.Proofs.Ytpkikhoicobmcaa
open Go.RowKit Go.Shelf
attribute [local go_sem] Oper.semAt_some
set_option linter.unusedVariables false
open Tr
namespace Tr
/-- the nodes of a path's beginnings, longest first -/
def ups (L : LL) (p : List Int) : List Nat := (List.range p.length).map fun i => idx L (p.take (p.length - i))
theorem ups_len (L : LL) (p : List Int) : (ups L p).length = p.length := by simp [ups]
theorem ups_at {L : LL} {p : List Int} {i : Nat} (h : i < p.length) : (ups L p).getD i 0 = idx L (p.take (p.length - i)) := by
  unfold ups; rw [gD (by simpa using h)]; simp
theorem ups_nums {L : LL} (h : Inv L) {p : List Int} (hp : p ∈ L) : (ups L p).map (num L) = p.reverse := by
  apply List.ext_getElem
  · rw [List.length_map, ups_len, List.length_reverse]
  · intro i h1 h2
    rw [List.length_map, ups_len] at h1
    rw [List.getElem_map, List.getElem_reverse]
    have e : (ups L p)[i]'(by rw [ups_len]; exact h1) = (ups L p).getD i 0 := (gD (by rw [ups_len]; exact h1)).symm
    rw [e, ups_at h1]
    unfold num
    rw [idx_at (h.take hp _)]
    rw [List.getLastD_eq_getLast?, List.getLast?_eq_getElem?, List.length_take, List.getElem?_take_of_lt (by omega), List.getElem?_eq_getElem (by omega), Option.getD_some]
    congr 1
    omega
theorem dep_at {L : LL} (h : Inv L) {p : List Int} (hp : p ∈ L) {d : Nat} (hd : d ≤ p.length) : depV L (idx L (p.take d) : Nat) = (d : Int) := by
  have h1 := idx_lt_iff.2 (h.take hp d)
  unfold depV
  rw [if_neg (by unfold out; omega), Int.toNat_natCast, idx_at (h.take hp d), List.length_take]
  omega
theorem par_of {L : LL} (h : Inv L) {p : List Int} (hp : p ∈ L) {d : Nat} (hd : d + 1 ≤ p.length) : parV L (idx L (p.take (d + 1)) : Nat) = (idx L (p.take d) : Nat) := by
  have h1 := idx_lt_iff.2 (h.take hp (d + 1))
  have h2 := idx_at (h.take hp (d + 1))
  have h0 : 1 ≤ idx L (p.take (d + 1)) := by
    rcases Nat.eq_zero_or_pos (idx L (p.take (d + 1))) with e | e
    · rw [e, h.root] at h2
      have := congrArg List.length h2
      rw [List.length_take] at this; simp at this; omega
    · exact e
  rw [par_at h0 h1, h2, take_drop1 (by omega), findV_mem (h.take hp d)]
end Tr
set_option maxRecDepth 100000 in
set_option maxHeartbeats 2000000 in
theorem upward_gives {W0 : World} {B tb nb nc x y : Nat} {rv : Nat → Value} {L Ws : LL} (h : TrP W0 B tb nb nc rv L Ws) (hI : Inv L) (k : Nat) (hk : k < L.length) (cx : W0.cell? ⟨x, 0, none⟩ = some (.pointer (some ⟨tb, 0, none⟩))) (cy : W0.cell? ⟨y, 0, none⟩ = some (.int .i64 (k : Int))) (m : Nat) (hm : 1 ≤ m) :
    GivesN Fence.wide m Try.prog 59 #[.pointer (some ⟨y, 0, none⟩), .pointer (some ⟨x, 0, none⟩)] (fun j : Nat => #[.int .i64 (j : Int)]) (Zq x y tb nb L.length rv W0) (Zy W0) (ups L (L.getD k [])) W0 := by
  intro l J Jx Wd hWs hW hJ hJx hY h00
  have hT : TrP Wd B tb nb nc rv L Ws := h.hold (x := x) (y := y) (fun g hg => .inr (.inr hg)) hW
  have cx1 := hW.cell (.inl rfl) cx
  have cy1 := hW.cell (.inr (.inl rfl)) cy
  have hkp : k = idx L (L.getD k []) := by
    have h1 := findV_self hI.nd hk
    rw [findV_mem (gD_mem hk)] at h1
    omega
  have hpm : L.getD k [] ∈ L := gD_mem hk
  obtain ⟨p, hp⟩ : ∃ p, L.getD k [] = p := ⟨_, rfl⟩
  rw [hp] at hkp hpm hY
  rw [hp]
  have hlen := ups_len L p
  have HL := Lib.hid hlen
  have HDp := Lib.hid (fun d (hd : d ≤ p.length) => dep_at hI hpm (d := d) hd)
  have HPr := Lib.hid (fun d (hd : d + 1 ≤ p.length) => par_of hI hpm (d := d) hd)
  have HUp := Lib.hid (fun i (hi : i < p.length) => ups_at (L := L) (p := p) hi)
  have hk' : idx L (p.take p.length) = k := by rw [List.take_of_length_le (Nat.le_refl _)]; exact hkp.symm
  obtain ⟨xs, hxs⟩ : ∃ xs, ups L p = xs := ⟨_, rfl⟩
  rw [hxs] at hY HL HUp
  rw [hxs]
  obtain ⟨n, hn⟩ : ∃ n, p.length = n := ⟨_, rfl⟩
  rw [hn] at HL HDp HPr HUp hk'
  obtain ⟨F, hF⟩ : ∃ F : Nat → Nat, (fun d => idx L (p.take d)) = F := ⟨_, rfl⟩
  have hF' : ∀ d, idx L (p.take d) = F d := fun d => congrFun hF d
  rw [hF'] at hk'
  replace HDp : Hid (∀ d, d ≤ n → depV L (F d : Nat) = (d : Int)) := Lib.hid fun d hd => by rw [← hF']; exact HDp.out d hd
  replace HPr : Hid (∀ d, d + 1 ≤ n → parV L (F (d + 1) : Nat) = (F d : Nat)) := Lib.hid fun d hd => by rw [← hF', ← hF']; exact HPr.out d hd
  replace HUp : Hid (∀ i, i < n → xs.getD i 0 = F (n - i)) := Lib.hid fun i hi => by rw [← hF']; exact HUp.out i hi
  have HK := Lib.hid hk'
  have HY := Lib.hid hY
  have HT := Lib.hid hT
  have hn9 : n ≤ 9223372036854775807 ∨ True := .inr trivial
  clear hY hxs hn h cx cy hW hT hF hF' hlen hkp hpm hp hk' hI
  refine callsIn_of_wp Try.func59 rfl trivial ?_ rfl
  simp only [Try.ntmps59, List.size_toArray, List.length_cons, List.length_nil, Nat.reduceAdd, Nat.reduceSub, Array.replicate_succ, Array.replicate_zero, List.push_toArray, List.append_toArray, List.nil_append, List.cons_append]
  gi_wp2
  gi_loopw [4] (fun s4 wr => ∃ q : Nat, q ≤ n ∧ s4 = .int .i64 (F (n - q) : Nat) ∧ J (xs.take q) wr ∧ TrP wr B tb nb nc rv L Ws ∧ wr.cell? ⟨x, 0, none⟩ = some (.pointer (some ⟨tb, 0, none⟩))) (fun s4 _ => (depV L (intOf s4)).toNat)
  case atStart => exact ⟨0, Nat.zero_le _, by rw [Nat.sub_zero, HK.out], by simpa using h00, HT.out, cx1⟩
  case round =>
    obtain ⟨q, hq, rfl, hj, hT, hcx⟩ := hrel
    have HJ := Lib.hid hj
    have HTr := Lib.hid hT
    have HDk := Lib.hid (depth_tr hT (F (n - q) : Nat))
    have hdq := HDp.out (n - q) (by omega)
    rw [hdq] at HDk
    have HDQ := Lib.hid hdq
    clear hj hT h00 cx1 cy1 HT hdq
    by_cases hlt : q < n
    · obtain ⟨d, hd⟩ : ∃ d, n - q = d + 1 := ⟨n - q - 1, by omega⟩
      have hd2 : n - (q + 1) = d := by omega
      have hpar := HPr.out d (by omega)
      have hpd := HDp.out d (by omega)
      have hux := HUp.out q hlt
      rw [hd] at HDk hux HDQ
      rw [hd]
      obtain ⟨j, hjx⟩ : ∃ j, F (d + 1) = j := ⟨_, rfl⟩
      obtain ⟨j', hjx'⟩ : ∃ j', F d = j' := ⟨_, rfl⟩
      rw [hjx] at HDk hux hpar HDQ
      rw [hjx', ] at hpar hpd
      rw [hjx]
      have hsp : xs = xs.take q ++ j :: xs.drop (q + 1) := by
        conv => lhs; rw [← List.take_append_drop q xs, List.drop_eq_getElem_cons (by rw [HL.out]; exact hlt)]
        rw [← hux, gD (by rw [HL.out]; exact hlt)]
      have hnx : xs.take q ++ [j] = xs.take (q + 1) := by
        rw [List.take_succ_eq_append_getElem (by rw [HL.out]; exact hlt), ← hux, gD (by rw [HL.out]; exact hlt)]
      have HSp := Lib.hid hsp
      have HNx := Lib.hid hnx
      have HPar := Lib.hid hpar
      have HPd := Lib.hid hpd
      have HD2 := Lib.hid hd2
      have HJx' := Lib.hid hjx'
      have hd0 : (0 : Int) < ((d + 1 : Nat) : Int) := by omega
      have hdb : decide ((0 : Int) < ((d + 1 : Nat) : Int)) = true := decide_eq_true hd0
      obtain ⟨e1, he1⟩ : ∃ e1 : Int, ((d + 1 : Nat) : Int) = e1 := ⟨_, rfl⟩
      rw [he1] at HDk hd0 hdb HDQ
      have HE1 := Lib.hid he1
      clear hsp hnx hpar hpd hd2 hjx hjx' hux hd he1
      gi_wp2_with (refine ⟨trivial, ?_⟩; gi_at_call 35; refine (callsIn_wide.2 HDk.out).mono ?_; rintro e w3 ⟨rfl, hb⟩; have HB := Lib.hid hb; obtain ⟨fn, tmps, assign, body, hy, hR⟩ := HY.out (xs.take q) j (xs.drop (q + 1)) w3 HSp.out (hJ _ _ _ HJ.out (sep_belowT hb)); rw [HNx.out] at hR; have HT3 := Lib.hid (HTr.out.later hb); have hcx3 := cell_later hb hcx; clear hb)
      refine hR.mono ?_
      rintro e W3 ⟨hh, (⟨rfl, hJ3⟩ | ⟨rfl, hJx3⟩)⟩
      · have hT4 : TrP W3 B tb nb nc rv L Ws := TrP.hold (x := x) (y := y) HT3.out (fun g hg => .inr (.inr hg)) hh
        have hcx4 := hh.cell (.inl rfl) hcx3
        have HPC := Lib.hid (parent_tr hT4 (j : Int))
        rw [HPar.out] at HPC
        have HT4 := Lib.hid hT4
        have HJ3 := Lib.hid hJ3
        clear hR hy hJ3 hh hT4 hcx hcx3
        gi_wp2_with (refine ⟨trivial, ?_⟩; gi_at_call 60; refine (callsIn_wide.2 HPC.out).mono ?_; rintro e w5 ⟨rfl, hb⟩; have HB5 := Lib.hid hb; clear hb)
        go_roundw
        case rel => exact ⟨q + 1, by omega, by rw [HD2.out, HJx'.out], hJ _ _ _ HJ3.out (sep_belowT HB5.out), HT4.out.later HB5.out, cell_later HB5.out hcx4⟩
        case measure =>
          have h1 := HDQ.out
          have h2 := HPd.out
          have h3 := HE1.out
          simp only [intOf]
          rw [h1, h2]; omega
      · gi_wp2
        refine bodyPost_ret (results_none rfl _ _ _) rfl ?_
        exact ⟨⟨_, rfl⟩, .inr ⟨xs.take (q + 1), List.take_prefix _ _, hJx3⟩⟩
    · obtain rfl : q = n := by omega
      have hjf := HJ.out
      rw [List.take_of_length_le (by rw [HL.out]; exact Nat.le_refl _)] at hjf
      rw [Nat.sub_self] at HDk ⊢
      have HJF := Lib.hid hjf
      clear hjf
      gi_wp2_with (refine ⟨trivial, ?_⟩; gi_at_call 35; refine (callsIn_wide.2 HDk.out).mono ?_; rintro e w3 ⟨rfl, hb⟩; have HB := Lib.hid hb; clear hb)
      go_end0
      exact ⟨⟨_, rfl⟩, .inl (hJ _ _ _ HJF.out (sep_belowT HB.out))⟩
theorem upward_none {W0 : World} {B tb nb nc x y : Nat} {rv : Nat → Value} {L Ws : LL} (h : TrP W0 B tb nb nc rv L Ws) (k : Int) (hk : out L k) (cx : W0.cell? ⟨x, 0, none⟩ = some (.pointer (some ⟨tb, 0, none⟩))) (cy : W0.cell? ⟨y, 0, none⟩ = some (.int .i64 k)) (m : Nat) (hm : 1 ≤ m) :
    GivesN Fence.wide m Try.prog 59 #[.pointer (some ⟨y, 0, none⟩), .pointer (some ⟨x, 0, none⟩)] (fun j : Nat => #[.int .i64 (j : Int)]) (Zq x y tb nb L.length rv W0) (Zy W0) [] W0 := by
  intro l J Jx Wd hWs hW hJ hJx hY h00
  have hT : TrP Wd B tb nb nc rv L Ws := h.hold (x := x) (y := y) (fun g hg => .inr (.inr hg)) hW
  have cx1 := hW.cell (.inl rfl) cx
  have cy1 := hW.cell (.inr (.inl rfl)) cy
  have hd : depV L k = -1 := by unfold depV; rw [if_pos hk]
  have HD := Lib.hid (fun W (hT : TrP W B tb nb nc rv L Ws) => depth_tr hT k)
  rw [hd] at HD
  have HT := Lib.hid hT
  have HJ0 := Lib.hid h00
  have HJs := Lib.hid hJ
  clear hY h cx cy hW hT hk h00 hJ hJx hd
  refine callsIn_of_wp Try.func59 rfl trivial ?_ rfl
  simp only [Try.ntmps59, List.size_toArray, List.length_cons, List.length_nil, Nat.reduceAdd, Nat.reduceSub, Array.replicate_succ, Array.replicate_zero, List.push_toArray, List.append_toArray, List.nil_append, List.cons_append]
  gi_wp2
  gi_loopw [4] (fun i wr => i = .int .i64 k ∧ J [] wr ∧ TrP wr B tb nb nc rv L Ws ∧ wr.cell? ⟨x, 0, none⟩ = some (.pointer (some ⟨tb, 0, none⟩))) (fun i _ => 0)
  case atStart => exact ⟨rfl, HJ0.out, HT.out, cx1⟩
  case round =>
    obtain ⟨rfl, hj, hT, hcx⟩ := hrel
    have HDk := Lib.hid (HD.out _ hT)
    have HJ := Lib.hid hj
    clear hj hT
    gi_wp2_with (refine ⟨trivial, ?_⟩; gi_at_call 35; refine (callsIn_wide.2 HDk.out).mono ?_; rintro e w3 ⟨rfl, hb⟩; have HB := Lib.hid hb; clear hb)
    go_end0
    exact ⟨⟨_, rfl⟩, .inl (HJs.out _ _ _ HJ.out (sep_belowT HB.out))⟩
end Go.Proofs.Ytpkikhoicobmcaa

/- The numbers of a node's children, by a tree. No condition. -/
namespace Go.Proofs.Ytpkikhoicobmcaa
open Go.RowKit Go.Shelf
attribute [local go_sem] Oper.semAt_some
set_option linter.unusedVariables false
open Tr
theorem Try.info_pxT : (Try.prog.info? 51).map (fun i => (i.zero, i.size, i.bytes)) = some (some (.int .u64 0), 1, 8) := by kernel_rfl
theorem opIn_append {n l : Nat} {P : Program} {ops : Array Oper} {Q : Exit → Act → World → Prop} {K : Act → World → Prop} {a : Act} {w : World} {o : Oper} {E : Prop} (hgd : o.guard = none) (s x : Operand) (t : TypeId) (ho : o.op = .call { callee := .builtin .append, args := #[s, x], argTypes := #[t, t] })
    (v u v' : Value) (w' : World) (hs : a.eval s = v) (hx : a.eval x = u) (hr : (Builtin.append_ #[t, t] o.type #[v, u]).run P w = .ok v' w') (hK : K (a.put o.dst v') w') :
    if Region.wanted o (yielded ops a.tmps) = true then Oper.wpIn (Fence.wide.inRound l) n P o a w K Q else E := by
  have hw : Region.wanted o (yielded ops a.tmps) = true := by simp [Region.wanted, hgd]
  rw [if_pos hw]
  unfold Oper.wpIn
  refine ⟨fun _ _ => trivial, ?_⟩
  rw [Oper.semAt_eq _ _ _ (fun c => by rw [ho]; exact fun h => by cases h)]
  have e : (execOp a.eval o).run P w = .ok (.value v') w' := by
    simp [execOp, ho, resolve, invoke, builtin, hs, hx, hr, Result.andThen]
  rw [e]
  exact hK
theorem bel_undrew {m : Nat} {A B : World} (h : Below m A.drew B) : Below m A B := ⟨h.os, h.tape, h.output, h.size, h.block⟩
def KidsR (xs : List Int) (w : World) (e : Ending) (w' : World) : Prop := ∃ v, e = .returned v ∧ w'.ownsRow w.heap.size 51 1 v xs.length (xs.map (Value.int .u64)) ∧ Below w.heap.size w w'
set_option maxRecDepth 100000 in
set_option maxHeartbeats 2000000 in
theorem kids_tr {w : World} {B tb nb nc : Nat} {rv : Nat → Value} {L W : LL} (h : TrP w B tb nb nc rv L W) (k : Int) (hlen : L.length ≤ 1000) :
    Calls Try.prog 86 #[.pointer (some ⟨tb, 0, none⟩), .int .i64 k] w (KidsR (kidsV L k) w) := by
  obtain ⟨i0, hi, hz0, hz1, hz2⟩ := info_parts Try.info_pxT
  have HB1 := (box1T w (.cells #[.pointer (some ⟨tb, 0, none⟩)] 58))
  have HT := Lib.hid h
  refine calls_of_marks Try.func86 rfl ?_
  simp only [Try.ntmps86, List.size_toArray, List.length_cons, List.length_nil, Nat.reduceAdd, Nat.reduceSub, Array.replicate_succ, Array.replicate_zero, List.push_toArray, List.append_toArray, List.nil_append, List.cons_append]
  go_wp2_with (go_at_call 92; refine (children_made _ _ _).mono ?_; rintro e w2 ⟨x, y, rfl, hne, l1, l2, cx, cy, hb⟩)
  simp only [World.size_alloc] at l1 l2
  have lx : x < w2.heap.size := block_lt_of_cell cx
  have ly : y < w2.heap.size := block_lt_of_cell cy
  have hs2 := hb.size
  simp only [World.size_alloc] at hs2
  have hbel : Below w.heap.size w w2 := (((Below.refl _ _).alloc (Nat.le_refl _) _).alloc (by simp) _).trans (hb.mono (by simp; omega))
  have hT2 : TrP w2 B tb nb nc rv L W := HT.out.later hbel
  have hv0 : Boxed w2 (w.heap.size + 1) 27 (.slice none 0 0) := (hb.block _ (by simp)).trans (by have := Boxed.new (w.alloc (.cells #[.pointer (some ⟨tb, 0, none⟩)] 58)) 27 (.slice none 0 0); rwa [World.size_alloc] at this)
  have ht0 : Boxed w2 w.heap.size 58 (.pointer (some ⟨tb, 0, none⟩)) := (hb.block _ (by simp; omega)).trans (heap_old2 (Boxed.new w 58 (.pointer (some ⟨tb, 0, none⟩))) _)
  have hxs : ∃ xs : List Nat, GivesN Fence.wide 2 Try.prog 96 #[.pointer (some ⟨x, 0, none⟩), .pointer (some ⟨y, 0, none⟩)] (fun j : Nat => #[.int .i64 (j : Int)]) (Zq x y tb nb L.length rv w2) (Zy w2) xs w2 ∧ xs.map (num L) = kidsV L k ∧ xs.length ≤ 1000 ∧ ∀ j ∈ xs, j < L.length := by
    by_cases hk : out L k
    · exact ⟨[], children_none hT2 k hk cx cy 2 (by omega), by unfold kidsV; rw [if_pos hk]; rfl, by simp, fun j hj => by cases hj⟩
    · obtain ⟨n, rfl⟩ : ∃ n : Nat, k = (n : Int) := ⟨k.toNat, by omega⟩
      refine ⟨kids L n, children_gives hT2 n (by omega) cx cy 2 (by omega), ?_, Nat.le_trans (kids_len L n) hlen, fun j hj => (kids_mem.1 hj).1⟩
      unfold kidsV; rw [if_neg hk]; simp
  obtain ⟨xs, hGV, hxm, hxl, hxj⟩ := hxs
  have HXM := Lib.hid hxm
  have HXJ := Lib.hid hxj
  have hFl : ∀ g, Fp tb nb L.length rv g → g < w.heap.size := fun g hg => (TrX.lt HT.out hg).2
  have HFl := Lib.hid hFl
  have hzL : ¬ (Zq x y tb nb L.length rv w2 (w.heap.size + 1)) := by
    rintro (e | e | e)
    · omega
    · omega
    · have := hFl _ e; omega
  have hbase : ∀ j, w2.heap.size + 2 ≤ j → ¬ (Zq x y tb nb L.length rv w2 j ∨ j = w2.heap.size ∨ j = w2.heap.size + 1) := by
    rintro j hj (e | e | e)
    · rcases e with e | e | e
      · omega
      · omega
      · have := hFl _ e; omega
    · omega
    · omega
  have HBase := Lib.hid hbase
  have HZL := Lib.hid hzL
  clear hb cx cy hxm hxj hFl hT2 h hbase hzL
  refine range_wpN (gf := 96) (lb := #[.pointer (some ⟨x, 0, none⟩), .pointer (some ⟨y, 0, none⟩)]) rfl (enters_of Try.func96 (by kernel_rfl) rfl)
    hGV (fun k e => e.elim) (by rintro (e | e | e) <;> first | omega | (have := HFl.out _ e; omega)) (by rintro (e | e | e) <;> first | omega | (have := HFl.out _ e; omega)) (fun _ => rfl)
    (fun pre W' => ∃ v, Boxed W' (w.heap.size + 1) 27 v ∧ Boxed W' w.heap.size 58 (.pointer (some ⟨tb, 0, none⟩)) ∧ W'.ownsRow (w2.heap.size + 2) 51 1 v pre.length ((pre.map (num L)).map (Value.int .u64)) ∧ TrP W' B tb nb nc rv L W ∧ Below w.heap.size w W')
    (fun _ _ _ => False) ?hI (fun _ _ _ _ hh _ => hh) ⟨_, hv0, ht0, World.ownsRow_nil _ _ _ _, HT.out.later hbel, hbel⟩ ?_ ?assign ?body ?done ?stop
  case hI =>
    rintro pre A B' ⟨v, h1, h2, h3, h4, h5⟩ hs
    have hlow : ∀ j, j < w2.heap.size → ¬ (Zy w2 j ∨ j = w2.heap.size ∨ j = w2.heap.size + 1) := by rintro j hj (e | e | e) <;> first | exact e.elim | omega
    have h5s := h5.size
    refine ⟨v, boxed_sep h1 hs (hlow _ (by omega)), boxed_sep h2 hs (hlow _ (by omega)), ownsRow_sep h3 hs (fun k hk => by rintro (e | e | e) <;> first | exact e.elim | omega), TrX.of_blocks h4 fun g hg => ?_, h5.trans (hs.below h5s fun j hj => hlow j (by omega))⟩
    have := HFl.out g hg
    exact hs.block g (by omega) (hlow g (by omega))
  case assign =>
    intro l x W K hK
    gi_wp2
    exact hK
  case body =>
    rintro ll pre j rest W' hx hlt ⟨v, hv, ht, hrow, hT, hB⟩
    have hj : j < L.length := HXJ.out j (by rw [hx]; simp)
    have hpl : pre.length < 1000 := by have := congrArg List.length hx; simp at this; omega
    have HX := Lib.hid hx
    have hW := hB.size
    have hTd : TrP W'.drew B tb nb nc rv L W := hT.later ((Below.refl _ _).drew)
    have HNUM := Lib.hid (number_tr hTd hj)
    obtain ⟨xn, hxe⟩ : ∃ xn, num L j = xn := ⟨_, rfl⟩
    have HXE := Lib.hid hxe
    rw [hxe] at HNUM
    have hsl : SlK .u64 (W'.drew.alloc (.cells #[.int .u64 xn] 51)) (some ⟨W'.drew.heap.size, 0, none⟩) 1 [xn] := by
      refine ⟨rfl, .inr ⟨_, _, rfl, fun i hi => ?_⟩⟩
      obtain rfl : i = 0 := by omega
      exact (Boxed.new W'.drew 51 (.int .u64 xn)).cell
    obtain ⟨v', w5, hrun, hown', hgrow, hat⟩ := run_app (P := Try.prog) (w := W'.drew.alloc (.cells #[.int .u64 xn] 51)) (w2.heap.size + 2) 27 27 51 i0 .u64 8 Try.underlying27 hi hz0 hz1 hz2 v pre.length _ (World.ownsRow.alloc (show W'.drew.ownsRow _ _ _ _ _ _ from hrow) _) (some ⟨W'.drew.heap.size, 0, none⟩) 1 1 [xn] hsl (by unfold maxLen; omega) (by omega) (by rw [World.size_alloc]; show w2.heap.size + 2 ≤ W'.heap.size + 1; omega)
    obtain ⟨g', cap', rfl, _, _⟩ := hown'.form (by omega)
    obtain ⟨hv1, hv2, hr2, hh2, hb2⟩ := pushed (W := W'.drew) (show Boxed W'.drew (w.heap.size + 1) 27 v from hv) (by decide) (show W'.drew.ownsRow _ _ _ _ _ _ from hrow) hown' hgrow
    have hvc := hv.cell
    have htc := ht.cell
    have hvc2 := cell_later (box1T W' (.cells #[.int .u64 xn] 51)) hvc
    have hc1 := hv1.cell
    have hf1 := hv1.frozen
    have hHold := hh2 (fun k => Zq x y tb nb L.length rv w2 k ∨ k = w2.heap.size ∨ k = w2.heap.size + 1) (by rintro (e | e | e) <;> first | exact HZL.out e | omega) (fun k hk => HBase.out k hk)
    have hbz : Below w.heap.size W' (w5.setCell ⟨w.heap.size + 1, 0, none⟩ (.slice (some ⟨g', 0, none⟩) (pre.length + 1) cap')) := bel_undrew (hb2 w.heap.size (by omega) (by omega) hW)
    have htn : Boxed (w5.setCell ⟨w.heap.size + 1, 0, none⟩ (.slice (some ⟨g', 0, none⟩) (pre.length + 1) cap')) w.heap.size 58 (.pointer (some ⟨tb, 0, none⟩)) := (hb2 (w.heap.size + 1) (by omega) (by omega) (Nat.le_of_lt hv.lt) |>.block _ (by omega)).trans ht
    have hTn : TrP (w5.setCell ⟨w.heap.size + 1, 0, none⟩ (.slice (some ⟨g', 0, none⟩) (pre.length + 1) cap')) B tb nb nc rv L W := TrX.of_blocks hT fun g hg => hbz.block g (HFl.out g hg)
    have hleaf : Hold (fun k => Zq x y tb nb L.length rv w2 k ∨ k = w2.heap.size ∨ k = w2.heap.size + 1) W' (w5.setCell ⟨w.heap.size + 1, 0, none⟩ (.slice (some ⟨g', 0, none⟩) (pre.length + 1) cap')) ∧ ∃ v, Boxed (w5.setCell ⟨w.heap.size + 1, 0, none⟩ (.slice (some ⟨g', 0, none⟩) (pre.length + 1) cap')) (w.heap.size + 1) 27 v ∧ Boxed (w5.setCell ⟨w.heap.size + 1, 0, none⟩ (.slice (some ⟨g', 0, none⟩) (pre.length + 1) cap')) w.heap.size 58 (.pointer (some ⟨tb, 0, none⟩)) ∧ (w5.setCell ⟨w.heap.size + 1, 0, none⟩ (.slice (some ⟨g', 0, none⟩) (pre.length + 1) cap')).ownsRow (w2.heap.size + 2) 51 1 v (pre ++ [j]).length (((pre ++ [j]).map (num L)).map (Value.int .u64)) ∧ TrP (w5.setCell ⟨w.heap.size + 1, 0, none⟩ (.slice (some ⟨g', 0, none⟩) (pre.length + 1) cap')) B tb nb nc rv L W ∧ Below w.heap.size w (w5.setCell ⟨w.heap.size + 1, 0, none⟩ (.slice (some ⟨g', 0, none⟩) (pre.length + 1) cap')) := by
      refine ⟨⟨hHold.size, hHold.block⟩, _, hv2, htn, ?_, hTn, hB.trans hbz⟩
      rw [List.length_append, List.length_singleton, List.map_append, List.map_append, List.map_singleton, List.map_singleton, HXE.out]
      exact hr2
    have HLEAF := Lib.hid hleaf
    have HRUN := Lib.hid hrun
    clear hx hv ht hrow hT hB hTd hsl hrun hown' hgrow hat hv1 hv2 hr2 hh2 hb2 hHold hbz htn hTn hleaf hxe hGV hv0 ht0 hbel
    gi_wp2
    refine wpIn_region_any (by kernel_rfl) ?_
    (try (change wpAnyIn _ _ _ _ _ _ _ _ _ (World.drew _)))
    refine wpAnyIn_ready (rs := [0, 1, 2]) (by kernel_rfl) (by simp) ?_
    refine AllReadyIn.cons rfl (fun K hK => ?_) ?_
    · go_simp
      refine hK _ _ ?_
      clear hK K
      refine wpAnyIn_ready (rs := [1, 2]) (by kernel_rfl) (by simp) ?_
      refine AllReadyIn.cons rfl (fun K hK => ?_) ?_
      · go_simp
        refine hK _ _ ?_
        clear hK K
        refine wpAnyIn_ready (rs := [2]) (by kernel_rfl) (by simp) ?_
        refine AllReadyIn.cons rfl (fun K hK => ?_) ?_
        · go_simp
          refine hK _ _ ?_
          clear hK K
          refine wpAnyIn_ready (rs := [3]) (by kernel_rfl) (by simp) ?_
          refine AllReadyIn.cons rfl (fun K hK => ?_) ?_
          · go_simp
            gi_wp2_with (refine ⟨trivial, ?_⟩; gi_at_call 44; refine (((callsIn_wide (n := _)).2 HNUM.out).inRound ll).mono ?_; rintro e w9 ⟨rfl, rfl⟩)
            refine wpAnyIn_ready (rs := [4]) (by kernel_rfl) (by simp) ?_
            refine AllReadyIn.cons rfl (fun K hK => ?_) ?_
            · go_simp
              refine hK _ _ ?_
              clear hK K
              refine wpAnyIn_ready (rs := [5]) (by kernel_rfl) (by simp) ?_
              refine AllReadyIn.cons rfl (fun K hK => ?_) ?_
              · refine opIn_append rfl _ _ 27 rfl _ _ _ _ rfl rfl HRUN.out ?_
                refine hK _ _ ?_
                clear hK K
                refine wpAnyIn_ready (rs := [6]) (by kernel_rfl) (by simp) ?_
                refine AllReadyIn.cons rfl (fun K hK => ?_) ?_
                · go_simp
                  refine hK _ _ ?_
                  clear hK K
                  refine wpAnyIn_done (by kernel_rfl) ?_ _
                  gi_wp2
                  exact HLEAF.out
                exact AllReadyIn.nil
              exact AllReadyIn.nil
            exact AllReadyIn.nil
          exact AllReadyIn.nil
        exact AllReadyIn.nil
      refine AllReadyIn.cons rfl (fun K hK => ?_) ?_
      · go_simp
        refine hK _ _ ?_
        clear hK K
        refine wpAnyIn_ready (rs := [1]) (by kernel_rfl) (by simp) ?_
        refine AllReadyIn.cons rfl (fun K hK => ?_) ?_
        · go_simp
          refine hK _ _ ?_
          clear hK K
          refine wpAnyIn_ready (rs := [3]) (by kernel_rfl) (by simp) ?_
          refine AllReadyIn.cons rfl (fun K hK => ?_) ?_
          · go_simp
            gi_wp2_with (refine ⟨trivial, ?_⟩; gi_at_call 44; refine (((callsIn_wide (n := _)).2 HNUM.out).inRound ll).mono ?_; rintro e w9 ⟨rfl, rfl⟩)
            refine wpAnyIn_ready (rs := [4]) (by kernel_rfl) (by simp) ?_
            refine AllReadyIn.cons rfl (fun K hK => ?_) ?_
            · go_simp
              refine hK _ _ ?_
              clear hK K
              refine wpAnyIn_ready (rs := [5]) (by kernel_rfl) (by simp) ?_
              refine AllReadyIn.cons rfl (fun K hK => ?_) ?_
              · refine opIn_append rfl _ _ 27 rfl _ _ _ _ rfl rfl HRUN.out ?_
                refine hK _ _ ?_
                clear hK K
                refine wpAnyIn_ready (rs := [6]) (by kernel_rfl) (by simp) ?_
                refine AllReadyIn.cons rfl (fun K hK => ?_) ?_
                · go_simp
                  refine hK _ _ ?_
                  clear hK K
                  refine wpAnyIn_done (by kernel_rfl) ?_ _
                  gi_wp2
                  exact HLEAF.out
                exact AllReadyIn.nil
              exact AllReadyIn.nil
            exact AllReadyIn.nil
          exact AllReadyIn.nil
        exact AllReadyIn.nil
      exact AllReadyIn.nil
    refine AllReadyIn.cons rfl (fun K hK => ?_) ?_
    · go_simp
      refine hK _ _ ?_
      clear hK K
      refine wpAnyIn_ready (rs := [0, 2]) (by kernel_rfl) (by simp) ?_
      refine AllReadyIn.cons rfl (fun K hK => ?_) ?_
      · go_simp
        refine hK _ _ ?_
        clear hK K
        refine wpAnyIn_ready (rs := [2]) (by kernel_rfl) (by simp) ?_
        refine AllReadyIn.cons rfl (fun K hK => ?_) ?_
        · go_simp
          refine hK _ _ ?_
          clear hK K
          refine wpAnyIn_ready (rs := [3]) (by kernel_rfl) (by simp) ?_
          refine AllReadyIn.cons rfl (fun K hK => ?_) ?_
          · go_simp
            gi_wp2_with (refine ⟨trivial, ?_⟩; gi_at_call 44; refine (((callsIn_wide (n := _)).2 HNUM.out).inRound ll).mono ?_; rintro e w9 ⟨rfl, rfl⟩)
            refine wpAnyIn_ready (rs := [4]) (by kernel_rfl) (by simp) ?_
            refine AllReadyIn.cons rfl (fun K hK => ?_) ?_
            · go_simp
              refine hK _ _ ?_
              clear hK K
              refine wpAnyIn_ready (rs := [5]) (by kernel_rfl) (by simp) ?_
              refine AllReadyIn.cons rfl (fun K hK => ?_) ?_
              · refine opIn_append rfl _ _ 27 rfl _ _ _ _ rfl rfl HRUN.out ?_
                refine hK _ _ ?_
                clear hK K
                refine wpAnyIn_ready (rs := [6]) (by kernel_rfl) (by simp) ?_
                refine AllReadyIn.cons rfl (fun K hK => ?_) ?_
                · go_simp
                  refine hK _ _ ?_
                  clear hK K
                  refine wpAnyIn_done (by kernel_rfl) ?_ _
                  gi_wp2
                  exact HLEAF.out
                exact AllReadyIn.nil
              exact AllReadyIn.nil
            exact AllReadyIn.nil
          exact AllReadyIn.nil
        exact AllReadyIn.nil
      refine AllReadyIn.cons rfl (fun K hK => ?_) ?_
      · go_simp
        refine hK _ _ ?_
        clear hK K
        refine wpAnyIn_ready (rs := [0, 3]) (by kernel_rfl) (by simp) ?_
        refine AllReadyIn.cons rfl (fun K hK => ?_) ?_
        · go_simp
          refine hK _ _ ?_
          clear hK K
          refine wpAnyIn_ready (rs := [3]) (by kernel_rfl) (by simp) ?_
          refine AllReadyIn.cons rfl (fun K hK => ?_) ?_
          · go_simp
            gi_wp2_with (refine ⟨trivial, ?_⟩; gi_at_call 44; refine (((callsIn_wide (n := _)).2 HNUM.out).inRound ll).mono ?_; rintro e w9 ⟨rfl, rfl⟩)
            refine wpAnyIn_ready (rs := [4]) (by kernel_rfl) (by simp) ?_
            refine AllReadyIn.cons rfl (fun K hK => ?_) ?_
            · go_simp
              refine hK _ _ ?_
              clear hK K
              refine wpAnyIn_ready (rs := [5]) (by kernel_rfl) (by simp) ?_
              refine AllReadyIn.cons rfl (fun K hK => ?_) ?_
              · refine opIn_append rfl _ _ 27 rfl _ _ _ _ rfl rfl HRUN.out ?_
                refine hK _ _ ?_
                clear hK K
                refine wpAnyIn_ready (rs := [6]) (by kernel_rfl) (by simp) ?_
                refine AllReadyIn.cons rfl (fun K hK => ?_) ?_
                · go_simp
                  refine hK _ _ ?_
                  clear hK K
                  refine wpAnyIn_done (by kernel_rfl) ?_ _
                  gi_wp2
                  exact HLEAF.out
                exact AllReadyIn.nil
              exact AllReadyIn.nil
            exact AllReadyIn.nil
          exact AllReadyIn.nil
        refine AllReadyIn.cons rfl (fun K hK => ?_) ?_
        · go_simp
          gi_wp2_with (refine ⟨trivial, ?_⟩; gi_at_call 44; refine (((callsIn_wide (n := _)).2 HNUM.out).inRound ll).mono ?_; rintro e w9 ⟨rfl, rfl⟩)
          refine wpAnyIn_ready (rs := [0, 4]) (by kernel_rfl) (by simp) ?_
          refine AllReadyIn.cons rfl (fun K hK => ?_) ?_
          · go_simp
            refine hK _ _ ?_
            clear hK K
            refine wpAnyIn_ready (rs := [4]) (by kernel_rfl) (by simp) ?_
            refine AllReadyIn.cons rfl (fun K hK => ?_) ?_
            · go_simp
              refine hK _ _ ?_
              clear hK K
              refine wpAnyIn_ready (rs := [5]) (by kernel_rfl) (by simp) ?_
              refine AllReadyIn.cons rfl (fun K hK => ?_) ?_
              · refine opIn_append rfl _ _ 27 rfl _ _ _ _ rfl rfl HRUN.out ?_
                refine hK _ _ ?_
                clear hK K
                refine wpAnyIn_ready (rs := [6]) (by kernel_rfl) (by simp) ?_
                refine AllReadyIn.cons rfl (fun K hK => ?_) ?_
                · go_simp
                  refine hK _ _ ?_
                  clear hK K
                  refine wpAnyIn_done (by kernel_rfl) ?_ _
                  gi_wp2
                  exact HLEAF.out
                exact AllReadyIn.nil
              exact AllReadyIn.nil
            exact AllReadyIn.nil
          refine AllReadyIn.cons rfl (fun K hK => ?_) ?_
          · go_simp
            refine hK _ _ ?_
            clear hK K
            refine wpAnyIn_ready (rs := [0]) (by kernel_rfl) (by simp) ?_
            refine AllReadyIn.cons rfl (fun K hK => ?_) ?_
            · go_simp
              refine hK _ _ ?_
              clear hK K
              refine wpAnyIn_ready (rs := [5]) (by kernel_rfl) (by simp) ?_
              refine AllReadyIn.cons rfl (fun K hK => ?_) ?_
              · refine opIn_append rfl _ _ 27 rfl _ _ _ _ rfl rfl HRUN.out ?_
                refine hK _ _ ?_
                clear hK K
                refine wpAnyIn_ready (rs := [6]) (by kernel_rfl) (by simp) ?_
                refine AllReadyIn.cons rfl (fun K hK => ?_) ?_
                · go_simp
                  refine hK _ _ ?_
                  clear hK K
                  refine wpAnyIn_done (by kernel_rfl) ?_ _
                  gi_wp2
                  exact HLEAF.out
                exact AllReadyIn.nil
              exact AllReadyIn.nil
            exact AllReadyIn.nil
          exact AllReadyIn.nil
        exact AllReadyIn.nil
      exact AllReadyIn.nil
    refine AllReadyIn.cons rfl (fun K hK => ?_) ?_
    · go_simp
      refine hK _ _ ?_
      clear hK K
      refine wpAnyIn_ready (rs := [0, 1]) (by kernel_rfl) (by simp) ?_
      refine AllReadyIn.cons rfl (fun K hK => ?_) ?_
      · go_simp
        refine hK _ _ ?_
        clear hK K
        refine wpAnyIn_ready (rs := [1]) (by kernel_rfl) (by simp) ?_
        refine AllReadyIn.cons rfl (fun K hK => ?_) ?_
        · go_simp
          refine hK _ _ ?_
          clear hK K
          refine wpAnyIn_ready (rs := [3]) (by kernel_rfl) (by simp) ?_
          refine AllReadyIn.cons rfl (fun K hK => ?_) ?_
          · go_simp
            gi_wp2_with (refine ⟨trivial, ?_⟩; gi_at_call 44; refine (((callsIn_wide (n := _)).2 HNUM.out).inRound ll).mono ?_; rintro e w9 ⟨rfl, rfl⟩)
            refine wpAnyIn_ready (rs := [4]) (by kernel_rfl) (by simp) ?_
            refine AllReadyIn.cons rfl (fun K hK => ?_) ?_
            · go_simp
              refine hK _ _ ?_
              clear hK K
              refine wpAnyIn_ready (rs := [5]) (by kernel_rfl) (by simp) ?_
              refine AllReadyIn.cons rfl (fun K hK => ?_) ?_
              · refine opIn_append rfl _ _ 27 rfl _ _ _ _ rfl rfl HRUN.out ?_
                refine hK _ _ ?_
                clear hK K
                refine wpAnyIn_ready (rs := [6]) (by kernel_rfl) (by simp) ?_
                refine AllReadyIn.cons rfl (fun K hK => ?_) ?_
                · go_simp
                  refine hK _ _ ?_
                  clear hK K
                  refine wpAnyIn_done (by kernel_rfl) ?_ _
                  gi_wp2
                  exact HLEAF.out
                exact AllReadyIn.nil
              exact AllReadyIn.nil
            exact AllReadyIn.nil
          exact AllReadyIn.nil
        exact AllReadyIn.nil
      refine AllReadyIn.cons rfl (fun K hK => ?_) ?_
      · go_simp
        refine hK _ _ ?_
        clear hK K
        refine wpAnyIn_ready (rs := [0, 3]) (by kernel_rfl) (by simp) ?_
        refine AllReadyIn.cons rfl (fun K hK => ?_) ?_
        · go_simp
          refine hK _ _ ?_
          clear hK K
          refine wpAnyIn_ready (rs := [3]) (by kernel_rfl) (by simp) ?_
          refine AllReadyIn.cons rfl (fun K hK => ?_) ?_
          · go_simp
            gi_wp2_with (refine ⟨trivial, ?_⟩; gi_at_call 44; refine (((callsIn_wide (n := _)).2 HNUM.out).inRound ll).mono ?_; rintro e w9 ⟨rfl, rfl⟩)
            refine wpAnyIn_ready (rs := [4]) (by kernel_rfl) (by simp) ?_
            refine AllReadyIn.cons rfl (fun K hK => ?_) ?_
            · go_simp
              refine hK _ _ ?_
              clear hK K
              refine wpAnyIn_ready (rs := [5]) (by kernel_rfl) (by simp) ?_
              refine AllReadyIn.cons rfl (fun K hK => ?_) ?_
              · refine opIn_append rfl _ _ 27 rfl _ _ _ _ rfl rfl HRUN.out ?_
                refine hK _ _ ?_
                clear hK K
                refine wpAnyIn_ready (rs := [6]) (by kernel_rfl) (by simp) ?_
                refine AllReadyIn.cons rfl (fun K hK => ?_) ?_
                · go_simp
                  refine hK _ _ ?_
                  clear hK K
                  refine wpAnyIn_done (by kernel_rfl) ?_ _
                  gi_wp2
                  exact HLEAF.out
                exact AllReadyIn.nil
              exact AllReadyIn.nil
            exact AllReadyIn.nil
          exact AllReadyIn.nil
        refine AllReadyIn.cons rfl (fun K hK => ?_) ?_
        · go_simp
          gi_wp2_with (refine ⟨trivial, ?_⟩; gi_at_call 44; refine (((callsIn_wide (n := _)).2 HNUM.out).inRound ll).mono ?_; rintro e w9 ⟨rfl, rfl⟩)
          refine wpAnyIn_ready (rs := [0, 4]) (by kernel_rfl) (by simp) ?_
          refine AllReadyIn.cons rfl (fun K hK => ?_) ?_
          · go_simp
            refine hK _ _ ?_
            clear hK K
            refine wpAnyIn_ready (rs := [4]) (by kernel_rfl) (by simp) ?_
            refine AllReadyIn.cons rfl (fun K hK => ?_) ?_
            · go_simp
              refine hK _ _ ?_
              clear hK K
              refine wpAnyIn_ready (rs := [5]) (by kernel_rfl) (by simp) ?_
              refine AllReadyIn.cons rfl (fun K hK => ?_) ?_
              · refine opIn_append rfl _ _ 27 rfl _ _ _ _ rfl rfl HRUN.out ?_
                refine hK _ _ ?_
                clear hK K
                refine wpAnyIn_ready (rs := [6]) (by kernel_rfl) (by simp) ?_
                refine AllReadyIn.cons rfl (fun K hK => ?_) ?_
                · go_simp
                  refine hK _ _ ?_
                  clear hK K
                  refine wpAnyIn_done (by kernel_rfl) ?_ _
                  gi_wp2
                  exact HLEAF.out
                exact AllReadyIn.nil
              exact AllReadyIn.nil
            exact AllReadyIn.nil
          refine AllReadyIn.cons rfl (fun K hK => ?_) ?_
          · go_simp
            refine hK _ _ ?_
            clear hK K
            refine wpAnyIn_ready (rs := [0]) (by kernel_rfl) (by simp) ?_
            refine AllReadyIn.cons rfl (fun K hK => ?_) ?_
            · go_simp
              refine hK _ _ ?_
              clear hK K
              refine wpAnyIn_ready (rs := [5]) (by kernel_rfl) (by simp) ?_
              refine AllReadyIn.cons rfl (fun K hK => ?_) ?_
              · refine opIn_append rfl _ _ 27 rfl _ _ _ _ rfl rfl HRUN.out ?_
                refine hK _ _ ?_
                clear hK K
                refine wpAnyIn_ready (rs := [6]) (by kernel_rfl) (by simp) ?_
                refine AllReadyIn.cons rfl (fun K hK => ?_) ?_
                · go_simp
                  refine hK _ _ ?_
                  clear hK K
                  refine wpAnyIn_done (by kernel_rfl) ?_ _
                  gi_wp2
                  exact HLEAF.out
                exact AllReadyIn.nil
              exact AllReadyIn.nil
            exact AllReadyIn.nil
          exact AllReadyIn.nil
        exact AllReadyIn.nil
      exact AllReadyIn.nil
    exact AllReadyIn.nil
  case done =>
    rintro W' ⟨v, hv, ht, hrow, hT, hB⟩ hK
    have hvc := hv.cell
    have hlK : w2.heap.size < W'.heap.size := (Array.getElem?_eq_some_iff.1 hK).1
    have HROW := Lib.hid hrow
    have HBE := Lib.hid hB
    clear hv ht hrow hT hB hGV hv0 ht0 hbel
    go_wp2
    refine ret_mark hK (results_tmp rfl _ _ _) ?_
    refine ⟨v, rfl, ?_, Below.putObj HBE.out (by omega) _⟩
    have h1 := HROW.out
    rw [HXM.out] at h1
    have h2 : xs.length = (kidsV L k).length := by rw [← HXM.out, List.length_map]
    rw [h2] at h1
    exact ownsRow_base (own_of_block h1 fun g hg => World.putObj_heap_other (by have := (h1.lt g hg).1; omega)) (by omega)
  case stop =>
    rintro c pre W _ hh _
    exact hh.elim
end Go.Proofs.Ytpkikhoicobmcaa

/- slices.Reverse of integers: the row is reversed in place, over any memory. No condition beyond the model's bound on a length. -/
namespace Go.Proofs.Ytpkikhoicobmcaa
open Go.RowKit Go.Lib Go.Sort
set_option linter.unusedVariables false

set_option maxHeartbeats 1600000 in
set_option maxRecDepth 1000000 in
theorem Rp.reverse_arr (blk off cap : Nat) (d : Array Int) (w : World) (hH : Holds (Value.int .u64) w blk off d) (hsz : d.size ≤ 9223372036854775807) :
    Calls Try.prog 45 #[.slice (some ⟨blk, off, none⟩) d.size cap] w fun e w' => e = .returned (.tuple #[]) ∧ ∃ n, w' = putRow (Value.int .u64) (Sort.ahead w n) blk off d.reverse := by
  go_enter Try.func45, Try.ntmps45
  go_wp2
  go_loopg [2, 3] d.size (fun k s2 s3 wr => ∃ (i jn : Nat) (jz : Int) (dk : Array Int) (n : Nat), s2 = .int .i64 i ∧ s3 = .int .i64 jz ∧ ((i : Int) < jz → jz = jn ∧ jn < d.size) ∧ (¬ (i : Int) < jz → ¬ i < jn) ∧ jn - i ≤ k ∧
    dk.size = d.size ∧ wr = putRow (Value.int .u64) (Sort.ahead w n) blk off dk ∧ reverseLoop i jn dk = reverseLoop 0 (d.size - 1) d)
  case atStart => exact ⟨0, d.size - 1, (d.size : Int) - 1, d, 0, rfl, rfl, fun h => ⟨by omega, by omega⟩, fun h => by omega, by omega, rfl, (putRow_self _ w blk off d hH).symm, rfl⟩
  case round =>
    obtain ⟨i, jn, jz, dk, n, rfl, rfl, h1, h2, hk, hds, hwr, heq⟩ := hrel
    by_cases hlt : (i : Int) < jz
    · obtain ⟨rfl, hjn⟩ := h1 hlt
      have hij : i < jn := by omega
      have hHk : Holds (Value.int .u64) wr blk off dk := by rw [hwr]; exact holds_putRow _ _ blk off d dk (holds_ahead _ w n blk off d hH) hds
      obtain ⟨ci, fi⟩ := hHk i (by omega)
      obtain ⟨cj, fj⟩ := hHk jn (by omega)
      have A := Lib.hid hwr
      have HE := Lib.hid heq
      have HD := Lib.hid hds
      clear hwr hHk hH h1 h2 heq hds
      go_wp2_with fail
      go_region
      go_wp2
      go_roundg (jn - 1 - (i + 1))
      case measure => omega
      case rel =>
        have heq := HE.out
        have hds := HD.out
        rw [reverseLoop, if_pos hij] at heq
        exact ⟨i + 1, jn - 1, (jn : Int) - 1, swp dk i jn, n + 1, by simp, rfl, fun h => ⟨by omega, by omega⟩, fun h => by omega, Nat.le_refl _, by rw [size_swp]; exact hds,
          swap_world _ (by omega) (by omega) A.out (by first | rfl | simp [getElem!_pos, show jn < dk.size by omega]) (by first | rfl | simp [getElem!_pos, show i < dk.size by omega]), heq⟩
    · have hnot := h2 hlt
      have A := Lib.hid hwr
      have HE := Lib.hid heq
      clear hwr heq
      go_wp2
      go_end0
      have heq := HE.out
      refine ⟨rfl, n, ?_⟩
      rw [reverseLoop, if_neg hnot] at heq
      rw [← Lib.reverseLoop_reverse, ← heq, A.out]

/-- A row of the call's own, reversed. -/
theorem Rp.reverse_own (base : Nat) (v : Value) (n : Nat) (zs : List Int) (w : World) (h : w.ownsRow base 51 1 v n (zs.map (Value.int .u64))) (hn : 0 < n) (hsz : n ≤ 9223372036854775807) :
    Calls Try.prog 45 #[v] w fun e w' => e = .returned (.tuple #[]) ∧ w'.ownsRow base 51 1 v n (zs.reverse.map (Value.int .u64)) ∧ (∀ m w0, Below m w0 w → m ≤ base → Below m w0 w') ∧ (∀ g, v.ownBlock = some g → ∀ k, k ≠ g → w'.heap[k]? = w.heap[k]?) := by
  obtain ⟨g, cap, rfl, hb, hg, hle, hm, hl, hH⟩ := holds_of_ownsRow (enc := Value.int .u64) h (by rintro rfl; have := h.2; rcases this with ⟨_, h0⟩ | ⟨_, _, _, e, _⟩; omega; cases e)
  subst hl
  have := Rp.reverse_arr g 0 cap zs.toArray w hH (by simpa using hsz)
  simp only [List.size_toArray] at this
  refine this.mono ?_
  rintro e w' ⟨rfl, q, rfl⟩
  refine ⟨rfl, ?_, fun m w0 hB hm => below_putRow hB (by omega), fun g' hg' k hk => ?_⟩
  · have := ownsRow_putRow (q := q) h (ys := zs.reverse) (by simp) (Nat.le_refl _)
    rw [List.take_of_length_le (by simp)] at this
    rwa [List.reverse_toArray]
  · obtain rfl : g = g' := by simpa [Value.ownBlock] using hg'
    simp [putRow, mapBlock, Sort.ahead, Array.getElem?_modify, Ne.symm hk]
theorem Rp.reverse_nil (w : World) : Calls Try.prog 45 #[.slice none 0 0] w fun e w' => e = .returned (.tuple #[]) ∧ w = w' := by
  go_enter Try.func45, Try.ntmps45
  go_wp2
  refine wp_loop_rounds 1 ?_
  rw [rounds_succ]
  go_wp2
  go_end0
  exact ⟨rfl, rfl⟩
end Go.Proofs.Ytpkikhoicobmcaa

/- A node's numbers, by a tree. No condition. -/
namespace Go.Proofs.Ytpkikhoicobmcaa
open Go.RowKit Go.Shelf
attribute [local go_sem] Oper.semAt_some
set_option linter.unusedVariables false
open Tr
set_option maxRecDepth 100000 in
set_option maxHeartbeats 2000000 in
theorem path_tr {w : World} {B tb nb nc : Nat} {rv : Nat → Value} {L W : LL} (h : TrP w B tb nb nc rv L W) (hI : Inv L) (k : Int) (hlen : ∀ p ∈ L, p.length ≤ 1000) :
    Calls Try.prog 29 #[.pointer (some ⟨tb, 0, none⟩), .int .i64 k] w (KidsR (pathV L k) w) := by
  obtain ⟨i0, hi, hz0, hz1, hz2⟩ := info_parts Try.info_pxT
  have HB1 := (box1T w (.cells #[.pointer (some ⟨tb, 0, none⟩)] 58))
  have HT := Lib.hid h
  refine calls_of_marks Try.func29 rfl ?_
  simp only [Try.ntmps29, List.size_toArray, List.length_cons, List.length_nil, Nat.reduceAdd, Nat.reduceSub, Array.replicate_succ, Array.replicate_zero, List.push_toArray, List.append_toArray, List.nil_append, List.cons_append]
  go_wp2_with (go_at_call 43; refine (upward_made _ _ _).mono ?_; rintro e w2 ⟨x, y, rfl, hne, l1, l2, cx, cy, hb⟩)
  simp only [World.size_alloc] at l1 l2
  have lx : x < w2.heap.size := block_lt_of_cell cx
  have ly : y < w2.heap.size := block_lt_of_cell cy
  have hs2 := hb.size
  simp only [World.size_alloc] at hs2
  have hbel : Below w.heap.size w w2 := (((Below.refl _ _).alloc (Nat.le_refl _) _).alloc (by simp) _).trans (hb.mono (by simp; omega))
  have hT2 : TrP w2 B tb nb nc rv L W := HT.out.later hbel
  have hv0 : Boxed w2 (w.heap.size + 1) 27 (.slice none 0 0) := (hb.block _ (by simp)).trans (by have := Boxed.new (w.alloc (.cells #[.pointer (some ⟨tb, 0, none⟩)] 58)) 27 (.slice none 0 0); rwa [World.size_alloc] at this)
  have ht0 : Boxed w2 w.heap.size 58 (.pointer (some ⟨tb, 0, none⟩)) := (hb.block _ (by simp; omega)).trans (heap_old2 (Boxed.new w 58 (.pointer (some ⟨tb, 0, none⟩))) _)
  have hxs : ∃ xs : List Nat, GivesN Fence.wide 2 Try.prog 59 #[.pointer (some ⟨y, 0, none⟩), .pointer (some ⟨x, 0, none⟩)] (fun j : Nat => #[.int .i64 (j : Int)]) (Zq x y tb nb L.length rv w2) (Zy w2) xs w2 ∧ (xs.map (num L)).reverse = pathV L k ∧ xs.length ≤ 1000 ∧ ∀ j ∈ xs, j < L.length := by
    by_cases hk : out L k
    · exact ⟨[], upward_none hT2 k hk cx cy 2 (by omega), by unfold pathV; rw [if_pos hk]; rfl, by simp, fun j hj => by cases hj⟩
    · obtain ⟨n, rfl⟩ : ∃ n : Nat, k = (n : Int) := ⟨k.toNat, by omega⟩
      have hn : n < L.length := by omega
      refine ⟨ups L (L.getD n []), upward_gives hT2 hI n hn cx cy 2 (by omega), ?_, by rw [ups_len]; exact hlen _ (gD_mem hn), fun j hj => ?_⟩
      · unfold pathV; rw [if_neg hk, ups_nums hI (gD_mem hn), List.reverse_reverse]; simp
      · obtain ⟨i, hi, rfl⟩ := List.getElem_of_mem hj
        rw [ups_len] at hi
        have e := ups_at (L := L) hi
        rw [gD (by rw [ups_len]; exact hi)] at e
        rw [e]
        exact idx_lt_iff.2 (hI.take (gD_mem hn) _)
  obtain ⟨xs, hGV, hxm, hxl, hxj⟩ := hxs
  have HXM := Lib.hid hxm
  have HXJ := Lib.hid hxj
  have hFl : ∀ g, Fp tb nb L.length rv g → g < w.heap.size := fun g hg => (TrX.lt HT.out hg).2
  have HFl := Lib.hid hFl
  have hzL : ¬ (Zq x y tb nb L.length rv w2 (w.heap.size + 1)) := by
    rintro (e | e | e)
    · omega
    · omega
    · have := hFl _ e; omega
  have hbase : ∀ j, w2.heap.size + 2 ≤ j → ¬ (Zq x y tb nb L.length rv w2 j ∨ j = w2.heap.size ∨ j = w2.heap.size + 1) := by
    rintro j hj (e | e | e)
    · rcases e with e | e | e
      · omega
      · omega
      · have := hFl _ e; omega
    · omega
    · omega
  have HBase := Lib.hid hbase
  have HZL := Lib.hid hzL
  clear hb cx cy hxm hxj hFl hT2 h hbase hzL
  refine range_wpN (gf := 59) (lb := #[.pointer (some ⟨y, 0, none⟩), .pointer (some ⟨x, 0, none⟩)]) rfl (enters_of Try.func59 (by kernel_rfl) rfl)
    hGV (fun k e => e.elim) (by rintro (e | e | e) <;> first | omega | (have := HFl.out _ e; omega)) (by rintro (e | e | e) <;> first | omega | (have := HFl.out _ e; omega)) (fun _ => rfl)
    (fun pre W' => ∃ v, Boxed W' (w.heap.size + 1) 27 v ∧ Boxed W' w.heap.size 58 (.pointer (some ⟨tb, 0, none⟩)) ∧ W'.ownsRow (w2.heap.size + 2) 51 1 v pre.length ((pre.map (num L)).map (Value.int .u64)) ∧ TrP W' B tb nb nc rv L W ∧ Below w.heap.size w W' ∧ (pre = [] → v = .slice none 0 0))
    (fun _ _ _ => False) ?hI (fun _ _ _ _ hh _ => hh) ⟨_, hv0, ht0, World.ownsRow_nil _ _ _ _, HT.out.later hbel, hbel, fun _ => rfl⟩ ?_ ?assign ?body ?done ?stop
  case hI =>
    rintro pre A B' ⟨v, h1, h2, h3, h4, h5, h6⟩ hs
    have hlow : ∀ j, j < w2.heap.size → ¬ (Zy w2 j ∨ j = w2.heap.size ∨ j = w2.heap.size + 1) := by rintro j hj (e | e | e) <;> first | exact e.elim | omega
    have h5s := h5.size
    refine ⟨v, boxed_sep h1 hs (hlow _ (by omega)), boxed_sep h2 hs (hlow _ (by omega)), ownsRow_sep h3 hs (fun k hk => by rintro (e | e | e) <;> first | exact e.elim | omega), TrX.of_blocks h4 fun g hg => ?_, h5.trans (hs.below h5s fun j hj => hlow j (by omega)), h6⟩
    have := HFl.out g hg
    exact hs.block g (by omega) (hlow g (by omega))
  case assign =>
    intro l x W K hK
    gi_wp2
    exact hK
  case body =>
    rintro ll pre j rest W' hx hlt ⟨v, hv, ht, hrow, hT, hB, hnil⟩
    have hj : j < L.length := HXJ.out j (by rw [hx]; simp)
    have hpl : pre.length < 1000 := by have := congrArg List.length hx; simp at this; omega
    have HX := Lib.hid hx
    have hW := hB.size
    have hTd : TrP W'.drew B tb nb nc rv L W := hT.later ((Below.refl _ _).drew)
    have HNUM := Lib.hid (number_tr hTd hj)
    obtain ⟨xn, hxe⟩ : ∃ xn, num L j = xn := ⟨_, rfl⟩
    have HXE := Lib.hid hxe
    rw [hxe] at HNUM
    have hsl : SlK .u64 (W'.drew.alloc (.cells #[.int .u64 xn] 51)) (some ⟨W'.drew.heap.size, 0, none⟩) 1 [xn] := by
      refine ⟨rfl, .inr ⟨_, _, rfl, fun i hi => ?_⟩⟩
      obtain rfl : i = 0 := by omega
      exact (Boxed.new W'.drew 51 (.int .u64 xn)).cell
    obtain ⟨v', w5, hrun, hown', hgrow, hat⟩ := run_app (P := Try.prog) (w := W'.drew.alloc (.cells #[.int .u64 xn] 51)) (w2.heap.size + 2) 27 27 51 i0 .u64 8 Try.underlying27 hi hz0 hz1 hz2 v pre.length _ (World.ownsRow.alloc (show W'.drew.ownsRow _ _ _ _ _ _ from hrow) _) (some ⟨W'.drew.heap.size, 0, none⟩) 1 1 [xn] hsl (by unfold maxLen; omega) (by omega) (by rw [World.size_alloc]; show w2.heap.size + 2 ≤ W'.heap.size + 1; omega)
    obtain ⟨g', cap', rfl, _, _⟩ := hown'.form (by omega)
    obtain ⟨hv1, hv2, hr2, hh2, hb2⟩ := pushed (W := W'.drew) (show Boxed W'.drew (w.heap.size + 1) 27 v from hv) (by decide) (show W'.drew.ownsRow _ _ _ _ _ _ from hrow) hown' hgrow
    have hvc := hv.cell
    have htc := ht.cell
    have hvc2 := cell_later (box1T W' (.cells #[.int .u64 xn] 51)) hvc
    have hc1 := hv1.cell
    have hf1 := hv1.frozen
    have hHold := hh2 (fun k => Zq x y tb nb L.length rv w2 k ∨ k = w2.heap.size ∨ k = w2.heap.size + 1) (by rintro (e | e | e) <;> first | exact HZL.out e | omega) (fun k hk => HBase.out k hk)
    have hbz : Below w.heap.size W' (w5.setCell ⟨w.heap.size + 1, 0, none⟩ (.slice (some ⟨g', 0, none⟩) (pre.length + 1) cap')) := bel_undrew (hb2 w.heap.size (by omega) (by omega) hW)
    have htn : Boxed (w5.setCell ⟨w.heap.size + 1, 0, none⟩ (.slice (some ⟨g', 0, none⟩) (pre.length + 1) cap')) w.heap.size 58 (.pointer (some ⟨tb, 0, none⟩)) := (hb2 (w.heap.size + 1) (by omega) (by omega) (Nat.le_of_lt hv.lt) |>.block _ (by omega)).trans ht
    have hTn : TrP (w5.setCell ⟨w.heap.size + 1, 0, none⟩ (.slice (some ⟨g', 0, none⟩) (pre.length + 1) cap')) B tb nb nc rv L W := TrX.of_blocks hT fun g hg => hbz.block g (HFl.out g hg)
    have hleaf : Hold (fun k => Zq x y tb nb L.length rv w2 k ∨ k = w2.heap.size ∨ k = w2.heap.size + 1) W' (w5.setCell ⟨w.heap.size + 1, 0, none⟩ (.slice (some ⟨g', 0, none⟩) (pre.length + 1) cap')) ∧ ∃ v, Boxed (w5.setCell ⟨w.heap.size + 1, 0, none⟩ (.slice (some ⟨g', 0, none⟩) (pre.length + 1) cap')) (w.heap.size + 1) 27 v ∧ Boxed (w5.setCell ⟨w.heap.size + 1, 0, none⟩ (.slice (some ⟨g', 0, none⟩) (pre.length + 1) cap')) w.heap.size 58 (.pointer (some ⟨tb, 0, none⟩)) ∧ (w5.setCell ⟨w.heap.size + 1, 0, none⟩ (.slice (some ⟨g', 0, none⟩) (pre.length + 1) cap')).ownsRow (w2.heap.size + 2) 51 1 v (pre ++ [j]).length (((pre ++ [j]).map (num L)).map (Value.int .u64)) ∧ TrP (w5.setCell ⟨w.heap.size + 1, 0, none⟩ (.slice (some ⟨g', 0, none⟩) (pre.length + 1) cap')) B tb nb nc rv L W ∧ Below w.heap.size w (w5.setCell ⟨w.heap.size + 1, 0, none⟩ (.slice (some ⟨g', 0, none⟩) (pre.length + 1) cap')) ∧ (pre ++ [j] = [] → v = .slice none 0 0) := by
      refine ⟨⟨hHold.size, hHold.block⟩, _, hv2, htn, ?_, hTn, hB.trans hbz, fun e => absurd e (by simp)⟩
      rw [List.length_append, List.length_singleton, List.map_append, List.map_append, List.map_singleton, List.map_singleton, HXE.out]
      exact hr2
    have HLEAF := Lib.hid hleaf
    have HRUN := Lib.hid hrun
    clear hx hv ht hrow hT hB hnil hTd hsl hrun hown' hgrow hat hv1 hv2 hr2 hh2 hb2 hHold hbz htn hTn hleaf hxe hGV hv0 ht0 hbel
    gi_wp2
    refine wpIn_region_any (by kernel_rfl) ?_
    (try (change wpAnyIn _ _ _ _ _ _ _ _ _ (World.drew _)))
    refine wpAnyIn_ready (rs := [0, 1, 2]) (by kernel_rfl) (by simp) ?_
    refine AllReadyIn.cons rfl (fun K hK => ?_) ?_
    · go_simp
      refine hK _ _ ?_
      clear hK K
      refine wpAnyIn_ready (rs := [1, 2]) (by kernel_rfl) (by simp) ?_
      refine AllReadyIn.cons rfl (fun K hK => ?_) ?_
      · go_simp
        refine hK _ _ ?_
        clear hK K
        refine wpAnyIn_ready (rs := [2]) (by kernel_rfl) (by simp) ?_
        refine AllReadyIn.cons rfl (fun K hK => ?_) ?_
        · go_simp
          refine hK _ _ ?_
          clear hK K
          refine wpAnyIn_ready (rs := [3]) (by kernel_rfl) (by simp) ?_
          refine AllReadyIn.cons rfl (fun K hK => ?_) ?_
          · go_simp
            gi_wp2_with (refine ⟨trivial, ?_⟩; gi_at_call 44; refine (((callsIn_wide (n := _)).2 HNUM.out).inRound ll).mono ?_; rintro e w9 ⟨rfl, rfl⟩)
            refine wpAnyIn_ready (rs := [4]) (by kernel_rfl) (by simp) ?_
            refine AllReadyIn.cons rfl (fun K hK => ?_) ?_
            · go_simp
              refine hK _ _ ?_
              clear hK K
              refine wpAnyIn_ready (rs := [5]) (by kernel_rfl) (by simp) ?_
              refine AllReadyIn.cons rfl (fun K hK => ?_) ?_
              · refine opIn_append rfl _ _ 27 rfl _ _ _ _ rfl rfl HRUN.out ?_
                refine hK _ _ ?_
                clear hK K
                refine wpAnyIn_ready (rs := [6]) (by kernel_rfl) (by simp) ?_
                refine AllReadyIn.cons rfl (fun K hK => ?_) ?_
                · go_simp
                  refine hK _ _ ?_
                  clear hK K
                  refine wpAnyIn_done (by kernel_rfl) ?_ _
                  gi_wp2
                  exact HLEAF.out
                exact AllReadyIn.nil
              exact AllReadyIn.nil
            exact AllReadyIn.nil
          exact AllReadyIn.nil
        exact AllReadyIn.nil
      refine AllReadyIn.cons rfl (fun K hK => ?_) ?_
      · go_simp
        refine hK _ _ ?_
        clear hK K
        refine wpAnyIn_ready (rs := [1]) (by kernel_rfl) (by simp) ?_
        refine AllReadyIn.cons rfl (fun K hK => ?_) ?_
        · go_simp
          refine hK _ _ ?_
          clear hK K
          refine wpAnyIn_ready (rs := [3]) (by kernel_rfl) (by simp) ?_
          refine AllReadyIn.cons rfl (fun K hK => ?_) ?_
          · go_simp
            gi_wp2_with (refine ⟨trivial, ?_⟩; gi_at_call 44; refine (((callsIn_wide (n := _)).2 HNUM.out).inRound ll).mono ?_; rintro e w9 ⟨rfl, rfl⟩)
            refine wpAnyIn_ready (rs := [4]) (by kernel_rfl) (by simp) ?_
            refine AllReadyIn.cons rfl (fun K hK => ?_) ?_
            · go_simp
              refine hK _ _ ?_
              clear hK K
              refine wpAnyIn_ready (rs := [5]) (by kernel_rfl) (by simp) ?_
              refine AllReadyIn.cons rfl (fun K hK => ?_) ?_
              · refine opIn_append rfl _ _ 27 rfl _ _ _ _ rfl rfl HRUN.out ?_
                refine hK _ _ ?_
                clear hK K
                refine wpAnyIn_ready (rs := [6]) (by kernel_rfl) (by simp) ?_
                refine AllReadyIn.cons rfl (fun K hK => ?_) ?_
                · go_simp
                  refine hK _ _ ?_
                  clear hK K
                  refine wpAnyIn_done (by kernel_rfl) ?_ _
                  gi_wp2
                  exact HLEAF.out
                exact AllReadyIn.nil
              exact AllReadyIn.nil
            exact AllReadyIn.nil
          exact AllReadyIn.nil
        exact AllReadyIn.nil
      exact AllReadyIn.nil
    refine AllReadyIn.cons rfl (fun K hK => ?_) ?_
    · go_simp
      refine hK _ _ ?_
      clear hK K
      refine wpAnyIn_ready (rs := [0, 2]) (by kernel_rfl) (by simp) ?_
      refine AllReadyIn.cons rfl (fun K hK => ?_) ?_
      · go_simp
        refine hK _ _ ?_
        clear hK K
        refine wpAnyIn_ready (rs := [2]) (by kernel_rfl) (by simp) ?_
        refine AllReadyIn.cons rfl (fun K hK => ?_) ?_
        · go_simp
          refine hK _ _ ?_
          clear hK K
          refine wpAnyIn_ready (rs := [3]) (by kernel_rfl) (by simp) ?_
          refine AllReadyIn.cons rfl (fun K hK => ?_) ?_
          · go_simp
            gi_wp2_with (refine ⟨trivial, ?_⟩; gi_at_call 44; refine (((callsIn_wide (n := _)).2 HNUM.out).inRound ll).mono ?_; rintro e w9 ⟨rfl, rfl⟩)
            refine wpAnyIn_ready (rs := [4]) (by kernel_rfl) (by simp) ?_
            refine AllReadyIn.cons rfl (fun K hK => ?_) ?_
            · go_simp
              refine hK _ _ ?_
              clear hK K
              refine wpAnyIn_ready (rs := [5]) (by kernel_rfl) (by simp) ?_
              refine AllReadyIn.cons rfl (fun K hK => ?_) ?_
              · refine opIn_append rfl _ _ 27 rfl _ _ _ _ rfl rfl HRUN.out ?_
                refine hK _ _ ?_
                clear hK K
                refine wpAnyIn_ready (rs := [6]) (by kernel_rfl) (by simp) ?_
                refine AllReadyIn.cons rfl (fun K hK => ?_) ?_
                · go_simp
                  refine hK _ _ ?_
                  clear hK K
                  refine wpAnyIn_done (by kernel_rfl) ?_ _
                  gi_wp2
                  exact HLEAF.out
                exact AllReadyIn.nil
              exact AllReadyIn.nil
            exact AllReadyIn.nil
          exact AllReadyIn.nil
        exact AllReadyIn.nil
      refine AllReadyIn.cons rfl (fun K hK => ?_) ?_
      · go_simp
        refine hK _ _ ?_
        clear hK K
        refine wpAnyIn_ready (rs := [0, 3]) (by kernel_rfl) (by simp) ?_
        refine AllReadyIn.cons rfl (fun K hK => ?_) ?_
        · go_simp
          refine hK _ _ ?_
          clear hK K
          refine wpAnyIn_ready (rs := [3]) (by kernel_rfl) (by simp) ?_
          refine AllReadyIn.cons rfl (fun K hK => ?_) ?_
          · go_simp
            gi_wp2_with (refine ⟨trivial, ?_⟩; gi_at_call 44; refine (((callsIn_wide (n := _)).2 HNUM.out).inRound ll).mono ?_; rintro e w9 ⟨rfl, rfl⟩)
            refine wpAnyIn_ready (rs := [4]) (by kernel_rfl) (by simp) ?_
            refine AllReadyIn.cons rfl (fun K hK => ?_) ?_
            · go_simp
              refine hK _ _ ?_
              clear hK K
              refine wpAnyIn_ready (rs := [5]) (by kernel_rfl) (by simp) ?_
              refine AllReadyIn.cons rfl (fun K hK => ?_) ?_
              · refine opIn_append rfl _ _ 27 rfl _ _ _ _ rfl rfl HRUN.out ?_
                refine hK _ _ ?_
                clear hK K
                refine wpAnyIn_ready (rs := [6]) (by kernel_rfl) (by simp) ?_
                refine AllReadyIn.cons rfl (fun K hK => ?_) ?_
                · go_simp
                  refine hK _ _ ?_
                  clear hK K
                  refine wpAnyIn_done (by kernel_rfl) ?_ _
                  gi_wp2
                  exact HLEAF.out
                exact AllReadyIn.nil
              exact AllReadyIn.nil
            exact AllReadyIn.nil
          exact AllReadyIn.nil
        refine AllReadyIn.cons rfl (fun K hK => ?_) ?_
        · go_simp
          gi_wp2_with (refine ⟨trivial, ?_⟩; gi_at_call 44; refine (((callsIn_wide (n := _)).2 HNUM.out).inRound ll).mono ?_; rintro e w9 ⟨rfl, rfl⟩)
          refine wpAnyIn_ready (rs := [0, 4]) (by kernel_rfl) (by simp) ?_
          refine AllReadyIn.cons rfl (fun K hK => ?_) ?_
          · go_simp
            refine hK _ _ ?_
            clear hK K
            refine wpAnyIn_ready (rs := [4]) (by kernel_rfl) (by simp) ?_
            refine AllReadyIn.cons rfl (fun K hK => ?_) ?_
            · go_simp
              refine hK _ _ ?_
              clear hK K
              refine wpAnyIn_ready (rs := [5]) (by kernel_rfl) (by simp) ?_
              refine AllReadyIn.cons rfl (fun K hK => ?_) ?_
              · refine opIn_append rfl _ _ 27 rfl _ _ _ _ rfl rfl HRUN.out ?_
                refine hK _ _ ?_
                clear hK K
                refine wpAnyIn_ready (rs := [6]) (by kernel_rfl) (by simp) ?_
                refine AllReadyIn.cons rfl (fun K hK => ?_) ?_
                · go_simp
                  refine hK _ _ ?_
                  clear hK K
                  refine wpAnyIn_done (by kernel_rfl) ?_ _
                  gi_wp2
                  exact HLEAF.out
                exact AllReadyIn.nil
              exact AllReadyIn.nil
            exact AllReadyIn.nil
          refine AllReadyIn.cons rfl (fun K hK => ?_) ?_
          · go_simp
            refine hK _ _ ?_
            clear hK K
            refine wpAnyIn_ready (rs := [0]) (by kernel_rfl) (by simp) ?_
            refine AllReadyIn.cons rfl (fun K hK => ?_) ?_
            · go_simp
              refine hK _ _ ?_
              clear hK K
              refine wpAnyIn_ready (rs := [5]) (by kernel_rfl) (by simp) ?_
              refine AllReadyIn.cons rfl (fun K hK => ?_) ?_
              · refine opIn_append rfl _ _ 27 rfl _ _ _ _ rfl rfl HRUN.out ?_
                refine hK _ _ ?_
                clear hK K
                refine wpAnyIn_ready (rs := [6]) (by kernel_rfl) (by simp) ?_
                refine AllReadyIn.cons rfl (fun K hK => ?_) ?_
                · go_simp
                  refine hK _ _ ?_
                  clear hK K
                  refine wpAnyIn_done (by kernel_rfl) ?_ _
                  gi_wp2
                  exact HLEAF.out
                exact AllReadyIn.nil
              exact AllReadyIn.nil
            exact AllReadyIn.nil
          exact AllReadyIn.nil
        exact AllReadyIn.nil
      exact AllReadyIn.nil
    refine AllReadyIn.cons rfl (fun K hK => ?_) ?_
    · go_simp
      refine hK _ _ ?_
      clear hK K
      refine wpAnyIn_ready (rs := [0, 1]) (by kernel_rfl) (by simp) ?_
      refine AllReadyIn.cons rfl (fun K hK => ?_) ?_
      · go_simp
        refine hK _ _ ?_
        clear hK K
        refine wpAnyIn_ready (rs := [1]) (by kernel_rfl) (by simp) ?_
        refine AllReadyIn.cons rfl (fun K hK => ?_) ?_
        · go_simp
          refine hK _ _ ?_
          clear hK K
          refine wpAnyIn_ready (rs := [3]) (by kernel_rfl) (by simp) ?_
          refine AllReadyIn.cons rfl (fun K hK => ?_) ?_
          · go_simp
            gi_wp2_with (refine ⟨trivial, ?_⟩; gi_at_call 44; refine (((callsIn_wide (n := _)).2 HNUM.out).inRound ll).mono ?_; rintro e w9 ⟨rfl, rfl⟩)
            refine wpAnyIn_ready (rs := [4]) (by kernel_rfl) (by simp) ?_
            refine AllReadyIn.cons rfl (fun K hK => ?_) ?_
            · go_simp
              refine hK _ _ ?_
              clear hK K
              refine wpAnyIn_ready (rs := [5]) (by kernel_rfl) (by simp) ?_
              refine AllReadyIn.cons rfl (fun K hK => ?_) ?_
              · refine opIn_append rfl _ _ 27 rfl _ _ _ _ rfl rfl HRUN.out ?_
                refine hK _ _ ?_
                clear hK K
                refine wpAnyIn_ready (rs := [6]) (by kernel_rfl) (by simp) ?_
                refine AllReadyIn.cons rfl (fun K hK => ?_) ?_
                · go_simp
                  refine hK _ _ ?_
                  clear hK K
                  refine wpAnyIn_done (by kernel_rfl) ?_ _
                  gi_wp2
                  exact HLEAF.out
                exact AllReadyIn.nil
              exact AllReadyIn.nil
            exact AllReadyIn.nil
          exact AllReadyIn.nil
        exact AllReadyIn.nil
      refine AllReadyIn.cons rfl (fun K hK => ?_) ?_
      · go_simp
        refine hK _ _ ?_
        clear hK K
        refine wpAnyIn_ready (rs := [0, 3]) (by kernel_rfl) (by simp) ?_
        refine AllReadyIn.cons rfl (fun K hK => ?_) ?_
        · go_simp
          refine hK _ _ ?_
          clear hK K
          refine wpAnyIn_ready (rs := [3]) (by kernel_rfl) (by simp) ?_
          refine AllReadyIn.cons rfl (fun K hK => ?_) ?_
          · go_simp
            gi_wp2_with (refine ⟨trivial, ?_⟩; gi_at_call 44; refine (((callsIn_wide (n := _)).2 HNUM.out).inRound ll).mono ?_; rintro e w9 ⟨rfl, rfl⟩)
            refine wpAnyIn_ready (rs := [4]) (by kernel_rfl) (by simp) ?_
            refine AllReadyIn.cons rfl (fun K hK => ?_) ?_
            · go_simp
              refine hK _ _ ?_
              clear hK K
              refine wpAnyIn_ready (rs := [5]) (by kernel_rfl) (by simp) ?_
              refine AllReadyIn.cons rfl (fun K hK => ?_) ?_
              · refine opIn_append rfl _ _ 27 rfl _ _ _ _ rfl rfl HRUN.out ?_
                refine hK _ _ ?_
                clear hK K
                refine wpAnyIn_ready (rs := [6]) (by kernel_rfl) (by simp) ?_
                refine AllReadyIn.cons rfl (fun K hK => ?_) ?_
                · go_simp
                  refine hK _ _ ?_
                  clear hK K
                  refine wpAnyIn_done (by kernel_rfl) ?_ _
                  gi_wp2
                  exact HLEAF.out
                exact AllReadyIn.nil
              exact AllReadyIn.nil
            exact AllReadyIn.nil
          exact AllReadyIn.nil
        refine AllReadyIn.cons rfl (fun K hK => ?_) ?_
        · go_simp
          gi_wp2_with (refine ⟨trivial, ?_⟩; gi_at_call 44; refine (((callsIn_wide (n := _)).2 HNUM.out).inRound ll).mono ?_; rintro e w9 ⟨rfl, rfl⟩)
          refine wpAnyIn_ready (rs := [0, 4]) (by kernel_rfl) (by simp) ?_
          refine AllReadyIn.cons rfl (fun K hK => ?_) ?_
          · go_simp
            refine hK _ _ ?_
            clear hK K
            refine wpAnyIn_ready (rs := [4]) (by kernel_rfl) (by simp) ?_
            refine AllReadyIn.cons rfl (fun K hK => ?_) ?_
            · go_simp
              refine hK _ _ ?_
              clear hK K
              refine wpAnyIn_ready (rs := [5]) (by kernel_rfl) (by simp) ?_
              refine AllReadyIn.cons rfl (fun K hK => ?_) ?_
              · refine opIn_append rfl _ _ 27 rfl _ _ _ _ rfl rfl HRUN.out ?_
                refine hK _ _ ?_
                clear hK K
                refine wpAnyIn_ready (rs := [6]) (by kernel_rfl) (by simp) ?_
                refine AllReadyIn.cons rfl (fun K hK => ?_) ?_
                · go_simp
                  refine hK _ _ ?_
                  clear hK K
                  refine wpAnyIn_done (by kernel_rfl) ?_ _
                  gi_wp2
                  exact HLEAF.out
                exact AllReadyIn.nil
              exact AllReadyIn.nil
            exact AllReadyIn.nil
          refine AllReadyIn.cons rfl (fun K hK => ?_) ?_
          · go_simp
            refine hK _ _ ?_
            clear hK K
            refine wpAnyIn_ready (rs := [0]) (by kernel_rfl) (by simp) ?_
            refine AllReadyIn.cons rfl (fun K hK => ?_) ?_
            · go_simp
              refine hK _ _ ?_
              clear hK K
              refine wpAnyIn_ready (rs := [5]) (by kernel_rfl) (by simp) ?_
              refine AllReadyIn.cons rfl (fun K hK => ?_) ?_
              · refine opIn_append rfl _ _ 27 rfl _ _ _ _ rfl rfl HRUN.out ?_
                refine hK _ _ ?_
                clear hK K
                refine wpAnyIn_ready (rs := [6]) (by kernel_rfl) (by simp) ?_
                refine AllReadyIn.cons rfl (fun K hK => ?_) ?_
                · go_simp
                  refine hK _ _ ?_
                  clear hK K
                  refine wpAnyIn_done (by kernel_rfl) ?_ _
                  gi_wp2
                  exact HLEAF.out
                exact AllReadyIn.nil
              exact AllReadyIn.nil
            exact AllReadyIn.nil
          exact AllReadyIn.nil
        exact AllReadyIn.nil
      exact AllReadyIn.nil
    exact AllReadyIn.nil
  case done =>
    rintro W' ⟨v, hv, ht, hrow, hT, hB, hnil⟩ hK
    have hvc := hv.cell
    have hlK : w2.heap.size < W'.heap.size := (Array.getElem?_eq_some_iff.1 hK).1
    have hrev : Calls Try.prog 45 #[v] W' fun e w' => e = .returned (.tuple #[]) ∧ w'.ownsRow (w2.heap.size + 2) 51 1 v xs.length ((pathV L k).map (Value.int .u64)) ∧ Below w.heap.size W' w' ∧ w'.cell? ⟨w.heap.size + 1, 0, none⟩ = some v ∧ w'.heap[w2.heap.size]? = some (.deferred (some [])) ∧ W'.heap.size ≤ w'.heap.size := by
      by_cases h0 : xs.length = 0
      · have e0 : xs = [] := List.length_eq_zero_iff.1 h0
        obtain rfl := hnil e0
        refine (Rp.reverse_nil W').mono ?_
        rintro e w' ⟨rfl, rfl⟩
        refine ⟨rfl, ?_, Below.refl _ _ |>.mono (by have := hB.size; omega), hvc, hK, Nat.le_refl _⟩
        rw [← HXM.out, e0]
        exact World.ownsRow_nil _ _ _ _
      · have h1 := Rp.reverse_own (w2.heap.size + 2) v xs.length (xs.map (num L)) W' hrow (by omega) (by omega)
        refine h1.mono ?_
        rintro e w' ⟨rfl, h2, h3, h4⟩
        obtain ⟨g, cap, rfl, hbg, hgl⟩ := hrow.form (by omega)
        have h5 := h4 g rfl
        have hsz := (h3 w.heap.size W' (Below.refl _ _ |>.mono (by have := hB.size; omega)) (by omega))
        refine ⟨rfl, by rw [← HXM.out]; exact h2, hsz, (World.cell?_of_block (w := W') (a := ⟨w.heap.size + 1, 0, none⟩) (h5 (w.heap.size + 1) (by omega))).trans hvc, (h5 w2.heap.size (by omega)).trans hK, hsz.size⟩
    have HREV := Lib.hid hrev
    have HBE := Lib.hid hB
    clear hv ht hrow hT hB hGV hv0 ht0 hbel hrev hnil
    go_wp2_with (refine HREV.out.mono ?_; rintro e w9 ⟨rfl, hr9, hb9, hc9, hk9, hs9⟩; have HR9 := Lib.hid hr9; have HB9 := Lib.hid hb9; have HK9 := Lib.hid hk9; clear hr9 hb9 hk9)
    refine ret_mark HK9.out (results_tmp rfl _ _ _) ?_
    refine ⟨v, rfl, ?_, Below.putObj (HBE.out.trans HB9.out) (by omega) _⟩
    have h1 := HR9.out
    have h2 : xs.length = (pathV L k).length := by rw [← HXM.out, List.length_reverse, List.length_map]
    rw [h2] at h1
    exact ownsRow_base (own_of_block h1 fun g hg => World.putObj_heap_other (by have := (h1.lt g hg).1; omega)) (by omega)
  case stop =>
    rintro c pre W _ hh _
    exact hh.elim
end Go.Proofs.Ytpkikhoicobmcaa

/- When two rows of pixels are the same, by the document, over any memory. Condition: a length fits an int. -/
namespace Go.Proofs.Ytpkikhoicobmcaa
open Go.RowKit
set_option linter.unusedVariables false
namespace Su
theorem ret_b {a b : Bool} (h : a = b) : Ending.returned (.bool a) = .returned (.bool b) := by rw [h]
theorem below_drewN {B : Nat} {a w : World} (h : Below B a w) (n : Nat) : Below B a (w.drewN n) := ⟨h.os, h.tape, h.output, h.size, h.block⟩
/-- two lists are the same up to k -/
def Alike (x y : List Int) (k : Nat) : Prop := ∀ i, i < k → x.getD i 0 = y.getD i 0
theorem alike_all {x y : List Int} {n : Nat} (hx : x.length = n) (hy : y.length = n) (h : Alike x y n) : x = y := by
  refine List.ext_getElem (by rw [hx, hy]) fun i h1 h2 => ?_
  have := h i (by omega)
  rw [List.getD_eq_getElem?_getD, List.getD_eq_getElem?_getD, List.getElem?_eq_getElem h1, List.getElem?_eq_getElem h2] at this
  simpa using this
theorem alike_succ {x y : List Int} {k : Nat} (h : Alike x y k) (e : x.getD k 0 = y.getD k 0) : Alike x y (k + 1) := fun i hi => by
  rcases Nat.lt_or_ge i k with h1 | h1
  · exact h i h1
  · obtain rfl : i = k := by omega
    exact e

set_option maxHeartbeats 1000000 in
theorem sameRow_any (a b : Option Addr) (n m ca cb : Nat) (x y : List Int) (w : World) (hn : n ≤ 9223372036854775807) (ha : SlK .u64 w a n x) (hb : SlK .u64 w b m y) :
    Calls Try.prog 10 #[.slice a n ca, .slice b m cb] w fun e w' => e = .returned (.bool (decide (x = y))) ∧ Below w.heap.size w w' := by
  by_cases h : n = m
  · subst h
    obtain ⟨lx, ha⟩ := ha
    obtain ⟨ly, hb⟩ := hb
    have LX := Lib.hid lx; clear lx
    have LY := Lib.hid ly; clear ly
    by_cases h0 : n = 0
    · subst h0
      have X := Lib.hid (show decide (x = y) = true by rw [decide_eq_true_iff, List.eq_nil_of_length_eq_zero LX.out, List.eq_nil_of_length_eq_zero LY.out])
      clear ha hb
      go_enter Try.func10, Try.ntmps10
      go_wp2
      go_rounds 1
      go_ret
      exact ⟨ret_b X.out.symm, Below.refl _ _⟩
    · rcases ha with ha | ⟨ba, oa, rfl, ha⟩
      · omega
      rcases hb with hb | ⟨bb, ob, rfl, hb⟩
      · omega
      have HA := Lib.hid ha; clear ha
      have HB := Lib.hid hb; clear hb
      go_enter Try.func10, Try.ntmps10
      go_wp2
      go_loopw [5] (fun i wr => ∃ k q : Nat, k ≤ n ∧ i = .int .i64 k ∧ Alike x y k ∧ wr = w.drewN q) (fun i _ => n - (intOf i).toNat)
      case atStart => exact ⟨0, 0, Nat.zero_le _, rfl, (fun i hi => by omega), rfl⟩
      case round =>
        obtain ⟨k, q, hk, rfl, hal, rfl⟩ := hrel
        by_cases hlt : k < n
        · have hx := HA.out k hlt
          have hy := HB.out k hlt
          obtain ⟨u, hu⟩ : ∃ u, x.getD k 0 = u := ⟨_, rfl⟩
          obtain ⟨v, hv⟩ : ∃ v, y.getD k 0 = v := ⟨_, rfl⟩
          rw [hu] at hx; rw [hv] at hy
          have HU := Lib.hid hu; clear hu
          have HV := Lib.hid hv; clear hv
          have i0 : (0 : Int) ≤ (k : Int) := Int.natCast_nonneg _
          have i1 : (k : Int) < (n : Int) := by omega
          by_cases huv : u = v
          · subst huv
            go_wp2_with (go_quiet (fail))
            go_roundw
            case rel => exact ⟨k + 1, _, by omega, by go_num, alike_succ hal (by rw [HU.out, HV.out]), rfl⟩
            case measure => simp [intOf]; omega
          · have kk : (u != v) = true := by rw [bne_iff_ne]; exact huv
            have X := Lib.hid (show decide (x = y) = false by rw [decide_eq_false_iff_not]; intro e; apply huv; rw [← HU.out, ← HV.out, e])
            go_wp2_with (go_quiet (fail))
            go_ret
            exact ⟨ret_b X.out.symm, below_drewN (below_drewN (Below.refl _ _) _) _⟩
        · obtain rfl : k = n := by omega
          have X := Lib.hid (show decide (x = y) = true by rw [decide_eq_true_iff]; exact alike_all LX.out LY.out hal)
          go_wp2
          go_ret
          exact ⟨ret_b X.out.symm, below_drewN (Below.refl _ _) _⟩
  · have X := Lib.hid (show decide (x = y) = false by rw [decide_eq_false_iff_not]; intro e; apply h; rw [← ha.1, ← hb.1, e])
    have k : ((n : Int) != m) = true := by simp; omega
    go_enter Try.func10, Try.ntmps10
    go_wp2
    go_ret
    exact ⟨ret_b X.out.symm, Below.refl _ _⟩

end Su
end Go.Proofs.Ytpkikhoicobmcaa

/- The document's tree: its rows in memory; where a path stands. No condition but that lengths fit. -/
namespace Go.Proofs.Ytpkikhoicobmcaa
open Go.RowKit
set_option linter.unusedVariables false
open Tr
/-- a list of slices of numbers, each by name -/
structure Rv (w : World) (a : Option Addr) (n : Nat) (vs : List Value) (R : LL) : Prop where
  vl : vs.length = n
  rl : R.length = n
  cells : n = 0 ∨ ∃ b o, a = some ⟨b, o, none⟩ ∧ ∀ i, i < n → w.cell? ⟨b, o + i, none⟩ = some (vs.getD i (.bool false))
  each : ∀ i, i < n → ∃ ai ci, vs.getD i (.bool false) = .slice ai (R.getD i []).length ci ∧ SlK .u64 w ai (R.getD i []).length (R.getD i []) ∧ (R.getD i []).length ≤ ci ∧ ci ≤ 9223372036854775807
theorem Rv.later {w w' : World} {a : Option Addr} {n : Nat} {vs : List Value} {R : LL} (h : Rv w a n vs R) (hb : Below w.heap.size w w') : Rv w' a n vs R := by
  refine ⟨h.vl, h.rl, ?_, fun i hi => ?_⟩
  · rcases h.cells with h0 | ⟨b, o, e, hc⟩
    · exact .inl h0
    · exact .inr ⟨b, o, e, fun i hi => cell_later hb (hc i hi)⟩
  · obtain ⟨ai, ci, e1, e2, e3, e4⟩ := h.each i hi
    exact ⟨ai, ci, e1, e2.below hb, e3, e4⟩
section
variable {w w' : World} {b : Nat} {u v : Value}
end
end Go.Proofs.Ytpkikhoicobmcaa

/- The document's tree with a word more. No condition but that lengths fit. -/
namespace Go.Proofs.Ytpkikhoicobmcaa
open Go.RowKit
set_option linter.unusedVariables false
open Tr
/-- a value is a slice of these numbers -/
def Ok1 (w : World) (v : Value) (p : List Int) : Prop := ∃ ai ci, v = .slice ai p.length ci ∧ SlK .u64 w ai p.length p ∧ p.length ≤ ci ∧ ci ≤ 9223372036854775807
def OkV (w : World) (vs : List Value) (R : LL) : Prop := vs.length = R.length ∧ ∀ i, i < R.length → Ok1 w (vs.getD i (.bool false)) (R.getD i [])
theorem OkV.snoc {w : World} {vs : List Value} {R : LL} {v : Value} {p : List Int} (h : OkV w vs R) (k : Ok1 w v p) : OkV w (vs ++ [v]) (R ++ [p]) := by
  obtain ⟨h1, h2⟩ := h
  refine ⟨by rw [List.length_append, List.length_append, h1]; rfl, fun i hi => ?_⟩
  rw [List.length_append, List.length_singleton] at hi
  by_cases hl : i < R.length
  · rw [gD_app (by omega), gD_app hl]; exact h2 i hl
  · obtain rfl : i = R.length := by omega
    rw [gD_new, ← h1, gD_new]; exact k
theorem Ok1.one {w : World} {v : Value} {p : List Int} (h : Ok1 w v p) : v.oneCell' = true := by obtain ⟨a, c, rfl, _⟩ := h; rfl
theorem Rv.ok {w : World} {a : Option Addr} {n : Nat} {vs : List Value} {R : LL} (h : Rv w a n vs R) : OkV w vs R := ⟨by rw [h.vl, h.rl], fun i hi => h.each i (by rw [h.rl] at hi; exact hi)⟩
theorem OkV.one {w : World} {vs : List Value} {R : LL} (h : OkV w vs R) : ∀ u ∈ vs, u.oneCell' = true := fun u hu => by
  obtain ⟨i, hi, rfl⟩ := List.getElem_of_mem hu
  have := h.2 i (by rw [← h.1]; exact hi)
  rw [gD hi] at this
  exact this.one
theorem rv_own {w : World} {B : Nat} {e : TypeId} {a : Option Addr} {n c : Nat} {vs : List Value} {R : LL} (h : w.ownsRow B e 1 (.slice a n c) n vs) (k : OkV w vs R) (hn : R.length = n) : Rv w a n vs R := by
  have hv : vs.length = n := by rw [k.1, hn]
  refine ⟨hv, hn, ?_, fun i hi => k.2 i (by rw [hn]; exact hi)⟩
  rcases h.2 with ⟨_, h0⟩ | ⟨g, cap, cur, e1, _⟩
  · exact .inl h0
  · injection e1 with e1 e2 e3
    subst e1 e3
    exact .inr ⟨g, 0, rfl, fun i hi => by rw [Nat.zero_add, h.cellAt i (by omega), List.getElem?_eq_getElem (by omega), gD (by omega)]⟩
/-- an append of slices that are read somewhere -/
def CellsV (w : World) (a : Option Addr) (m : Nat) (us : List Value) : Prop := us.length = m ∧ (m = 0 ∨ ∃ b o, a = some ⟨b, o, none⟩ ∧ ∀ i, i < m → w.cell? ⟨b, o + i, none⟩ = some (us.getD i (.bool false)))
theorem Rv.cv {w : World} {a : Option Addr} {n : Nat} {vs : List Value} {R : LL} (h : Rv w a n vs R) : CellsV w a n vs := ⟨h.vl, h.cells⟩
theorem run_appV {P : Program} {w : World} (base : Nat) (t ty e : TypeId) (i : TypeInfo) (z : Value) (bytes : Nat) (ht : P.underlying t = some (.slice e)) (hi : P.info? e = some i) (hz : i.zero = some z)
    (hsize : i.size = 1) (hby : i.bytes = bytes) (hzs : z.cells.size = 1) (v : Value) (n : Nat) (xs : List Value) (hown : w.ownsRow base e 1 v n xs)
    (a : Option Addr) (m c : Nat) (us : List Value) (hy : CellsV w a m us) (h1 : ∀ u ∈ us, u.oneCell' = true) (h63 : n + m ≤ maxLen) (hbytes : (n + m) * bytes ≤ 140737488355328) (hbase : base ≤ w.heap.size) :
    ∃ v' w', (Builtin.append_ #[t, t] ty #[v, .slice a m c]).run P w = .ok v' w' ∧ w'.ownsRow base e 1 v' (n + m) (xs ++ us) ∧ w.grownBy w' v.ownBlock ∧ (v'.ownBlock = v.ownBlock ∨ v'.ownBlock = some w.heap.size) := by
  obtain ⟨hl, hc⟩ := hy
  cases a with
  | none =>
    have hm : m = 0 := by
      rcases hc with h | ⟨_, _, h, _⟩
      · exact h
      · cases h
    subst hm
    have hl0 : us = [] := List.length_eq_zero_iff.1 hl
    subst hl0
    exact ⟨v, w, app_none base t ty e i 1 ht hi v n c xs hown, by simpa using hown, ⟨rfl, rfl, rfl, Nat.le_refl _, fun _ _ _ => rfl⟩, .inl rfl⟩
  | some ad =>
    obtain ⟨v', w', h1, h2, h3, _, h5⟩ := run_append_own_at (P := P) w base t ty e i z 1 bytes ht hi hz hsize hby hzs (by decide) v n xs hown ad m c us (by rw [hl, Nat.mul_one]) (fun j u hu => by
      have hj : j < m := by
        rcases Nat.lt_or_ge j m with h | h
        · exact h
        · rw [List.getElem?_eq_none (by omega)] at hu; cases hu
      rcases hc with h | ⟨blk, off, ha, hcell⟩
      · omega
      · cases ha
        rw [addrK_add, hcell j hj, gD (by omega)]
        rw [List.getElem?_eq_getElem (by omega)] at hu
        exact hu) h1 h63 hbytes hbase
    exact ⟨v', w', h1, h2, h3, h5⟩
theorem wpList_appV {P : Program} {w : World} {ops : Array Oper} {rest : List Oper} {o : Oper} {a : Act} {Q : Exit → Act → World → Prop} (hgd : o.guard = none) (s x : Operand) (t : TypeId)
    (ho : o.op = .call { callee := .builtin .append, args := #[s, x], argTypes := #[t, t] })
    (base : Nat) (e : TypeId) (i : TypeInfo) (z : Value) (bytes : Nat) (ht : P.underlying t = some (.slice e)) (hi : P.info? e = some i) (hz : i.zero = some z)
    (hsize : i.size = 1) (hby : i.bytes = bytes) (hzs : z.cells.size = 1) (v : Value) (n : Nat) (xs : List Value) (hs : a.eval s = v) (hown : w.ownsRow base e 1 v n xs)
    (ad : Option Addr) (m c : Nat) (us : List Value) (hx : a.eval x = .slice ad m c) (hy : CellsV w ad m us) (h1 : ∀ u ∈ us, u.oneCell' = true) (h63 : n + m ≤ maxLen) (hbytes : (n + m) * bytes ≤ 140737488355328) (hbase : base ≤ w.heap.size)
    (h : ∀ v' w', w'.ownsRow base e 1 v' (n + m) (xs ++ us) → w.grownBy w' v.ownBlock → (v'.ownBlock = v.ownBlock ∨ v'.ownBlock = some w.heap.size) → wpList P ops Q rest (a.put o.dst v') w') : wpList P ops Q (o :: rest) a w := by
  refine wpList_plain hgd fun K hK => ?_
  obtain ⟨v', w', hr, h2, h3, h4⟩ := run_appV (P := P) (w := w) base t o.type e i z bytes ht hi hz hsize hby hzs v n xs hown ad m c us hy h1 h63 hbytes hbase
  unfold Oper.wp execOp
  simp only [ho, resolve, invoke, builtin, Sem.run_bind, Sem.run_pure, Result.andThen_ok, List.map_toArray, List.map_cons, List.map_nil, hs, hx, hr]
  exact hK _ _ (h v' w' h2 h3 h4)
theorem Try.info_pxs : (Try.prog.info? 27).map (fun i => (i.zero, i.size, i.bytes)) = some (some (.slice none 0 0), 1, 24) := by kernel_rfl
theorem slk_take {q : IntKind} {w : World} {a : Option Addr} {n : Nat} {l : List Int} (h : SlK q w a n l) {k : Nat} (hk : k ≤ n) : SlK q w a k (l.take k) := by
  obtain ⟨h1, h2⟩ := h
  refine ⟨by rw [List.length_take, h1]; omega, ?_⟩
  rcases h2 with h2 | ⟨b, o, e, hc⟩
  · exact .inl (by omega)
  · exact .inr ⟨b, o, e, fun i hi => by rw [hc i (by omega), List.getD_eq_getElem?_getD, List.getD_eq_getElem?_getD, List.getElem?_take_of_lt hi]⟩
end Go.Proofs.Ytpkikhoicobmcaa

/- A word put into the document's tree. Condition: few paths, words of few numbers. -/
namespace Go.Proofs.Ytpkikhoicobmcaa
open Go.RowKit
set_option linter.unusedVariables false
open Tr
/-- what a document's tree with a word more is: its slices, by what they were -/
def OldNew (w w' : World) (old v : Value) (vs vs' : List Value) : Prop := (v = old ∧ vs' = vs) ∨ w'.ownsRow w.heap.size 27 1 v vs'.length vs'
def RPutR (w : World) (la : Option Addr) (ln lc : Nat) (vs : List Value) (wa : Option Addr) (wn : Nat) (us : List Value) (word : Value) (L W : LL) (l : List Int) (e : Ending) (w' : World) : Prop :=
  ∃ v1 v2 vs', e = .returned (.agg #[v1, v2]) ∧ OldNew w w' (.slice la ln lc) v1 vs vs' ∧ w'.ownsRow w.heap.size 27 1 v2 (wn + 1) (us ++ [word]) ∧ (∀ w'', OkV w'' vs L → Ok1 w'' word l → OkV w'' vs' (putL L l)) ∧ Below w.heap.size w w'
theorem bel_und {A B : World} (h : Below A.drew.heap.size A.drew B) : Below A.heap.size A B := ⟨h.os, h.tape, h.output, h.size, h.block⟩
theorem grown_trans2 {w w' : World} {o : Obj} {row : Option Nat} (h : (w.alloc o).grownBy w' row) : w.grownBy w' row :=
  ⟨h.os, h.tape, h.output, Nat.le_trans (by simp) h.size, fun k hk hne => (h.block k (by simp; omega) hne).trans (heap_alloc_old w o k hk)⟩
theorem cv_later {w w' : World} {a : Option Addr} {m : Nat} {us : List Value} (h : CellsV w a m us) (hb : Below w.heap.size w w') : CellsV w' a m us := by
  refine ⟨h.1, ?_⟩
  rcases h.2 with h0 | ⟨b, o, e, hc⟩
  · exact .inl h0
  · exact .inr ⟨b, o, e, fun i hi => cell_later hb (hc i hi)⟩
theorem cv_one (w : World) (t : TypeId) (v : Value) : CellsV (w.alloc (.cells #[v] t)) (some ⟨w.heap.size, 0, none⟩) 1 [v] := by
  refine ⟨rfl, .inr ⟨_, _, rfl, fun i hi => ?_⟩⟩
  obtain rfl : i = 0 := by omega
  exact (Boxed.new w t v).cell
theorem ok1_take {w : World} {pa : Option Addr} {pn pc : Nat} {l : List Int} {k : Nat} (h : Ok1 w (.slice pa pn pc) l) (hl : l.length = pn) (hk : k ≤ pn) : Ok1 w (.slice pa k pc) (l.take k) := by
  obtain ⟨a, c, e, h1, h2, h3⟩ := h
  injection e with e1 e2 e3
  subst e1 e3
  have hlk : (l.take k).length = k := by rw [List.length_take]; omega
  exact ⟨pa, pc, by rw [hlk], by rw [hlk]; exact slk_take h1 (by omega), by omega, h3⟩
end Go.Proofs.Ytpkikhoicobmcaa

/- slices.Insert of integers, laid for this program. No condition. -/
namespace Go.Proofs.Ytpkikhoicobmcaa
open Go.Shelf Go.RowKit
def Ly.lays21_ren : Go.Shelf.Ren := ⟨fun | 21 => 79 | 27 => 89 | 28 => 90 | 35 => 95 | 39 => 101 | n => n, fun | 22 => 31 | 3 => 3 | 4 => 4 | 0 => 0 | n => n, fun | n => n⟩
theorem Ly.lays21 : Go.Proofs.Lays2.n21 Try.prog Ly.lays21_ren := {
  mixed := by kernel_rfl
  f21 := Try.func79.trans (congrArg some (by kernel_rfl))
  f27 := Try.func89.trans (congrArg some (by kernel_rfl))
  f28 := Try.func90.trans (congrArg some (by kernel_rfl))
  f35 := Try.func95.trans (congrArg some (by kernel_rfl))
  f39 := Try.func101.trans (congrArg some (by kernel_rfl))
  t0 := Try.underlying0
  a0 := Try.isAgg0
  z0 := Try.sizeOf0
  v0 := Try.zeroValue0
  t3 := Try.underlying3
  a3 := Try.isAgg3
  z3 := Try.sizeOf3
  v3 := Try.zeroValue3
  t4 := Try.underlying4
  a4 := Try.isAgg4
  z4 := Try.sizeOf4
  v4 := Try.zeroValue4
  t22 := Try.underlying31
  a22 := Try.isAgg31
  z22 := Try.sizeOf31
  v22 := Try.zeroValue31
  i3 := by kernel_rfl }
end Go.Proofs.Ytpkikhoicobmcaa
