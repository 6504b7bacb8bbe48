/- A range over a function whose iterator keeps state of its own in cells: what the iterator owes, what the loop's body owes, and the law that joins them. No condition beyond what is named. -/
import Derived.RangeFuncNested
import Derived.RangeFuncBound
import Derived.RangeFuncCalls
import Derived.RangeFuncLeaves
import Derived.Shelf.Abstract
import Derived.Shelf.RegionOpen
import Derived.WalkKit
import Derived.OwnWalkIn
import Derived.OwnWalk
import Derived.TacticsInMore
import Derived.LoopNIn
import Derived.LoopIn
import Derived.Maps.AppendAt
import Derived.Handy
import Derived.WalkSpells
import Derived.WalkLawsBesides
import Derived.Lib.Hide
import Derived.Laws.BitsAllLaws
import Derived.Test.YtldhhhmihfcalaaProg
import Derived.Laws.BytesArg
import Derived.Laws.EntriesVeiled
import Derived.BigQuiet
import Derived.Deep.QuietTactic
import Derived.Laws.OwnMore
import Derived.Deep.AppendLies
namespace Go.Proofs.Ytldhhhmihfcalaa
open Go.RowKit

/-- All that lay outside Z lies as it lay. -/
structure Sep (Z : Nat → Prop) (A B : World) : Prop where
  os : B.os = A.os
  tape : B.tape = A.tape
  output : B.output = A.output
  size : A.heap.size ≤ B.heap.size
  block : ∀ k, k < A.heap.size → ¬ Z k → B.heap[k]? = A.heap[k]?
/-- All that lay in Z lies as it lay. -/
structure Hold (Z : Nat → Prop) (A B : World) : Prop where
  size : A.heap.size ≤ B.heap.size
  block : ∀ k, k < A.heap.size → Z k → B.heap[k]? = A.heap[k]?

theorem Sep.refl (Z : Nat → Prop) (A : World) : Sep Z A A := ⟨rfl, rfl, rfl, Nat.le_refl _, fun _ _ _ => rfl⟩
theorem Sep.trans {Z : Nat → Prop} {A B C : World} (h : Sep Z A B) (k : Sep Z B C) : Sep Z A C :=
  ⟨k.os.trans h.os, k.tape.trans h.tape, k.output.trans h.output, Nat.le_trans h.size k.size, fun i hi hz => (k.block i (Nat.lt_of_lt_of_le hi h.size) hz).trans (h.block i hi hz)⟩
theorem Sep.mono {Z Z' : Nat → Prop} {A B : World} (h : Sep Z A B) (hz : ∀ k, Z k → Z' k) : Sep Z' A B :=
  ⟨h.os, h.tape, h.output, h.size, fun k hk hn => h.block k hk (fun e => hn (hz k e))⟩
theorem Sep.alloc (Z : Nat → Prop) (A : World) (o : Obj) : Sep Z A (A.alloc o) := ⟨rfl, rfl, rfl, by simp, fun k hk _ => Below.heap_alloc _ _ _ hk⟩
theorem Sep.setCell {Z : Nat → Prop} (A : World) {b o : Nat} {p : Option Nat} (hz : Z b) (v : Value) : Sep Z A (A.setCell ⟨b, o, p⟩ v) :=
  ⟨rfl, rfl, rfl, by simp [World.setCell], fun k _ hn => Below.heap_setCell _ _ _ _ (fun e => hn (e ▸ hz))⟩
theorem Sep.putObj {Z : Nat → Prop} (A : World) {b : Nat} (hz : Z b) (o : Obj) : Sep Z A (A.putObj b o) :=
  ⟨rfl, rfl, rfl, by simp, fun k _ hn => World.putObj_heap_other (fun e => hn (e ▸ hz))⟩
theorem Sep.drewN (Z : Nat → Prop) (A : World) (m : Nat) : Sep Z A (A.drewN m) := ⟨rfl, rfl, rfl, Nat.le_refl _, fun _ _ _ => rfl⟩
theorem Sep.drew (Z : Nat → Prop) (A : World) : Sep Z A A.drew := ⟨rfl, rfl, rfl, Nat.le_refl _, fun _ _ _ => rfl⟩
theorem Sep.below {Z : Nat → Prop} {A B : World} {m : Nat} (h : Sep Z A B) (hm : m ≤ A.heap.size) (hz : ∀ k, k < m → ¬ Z k) : Below m A B :=
  ⟨h.os, h.tape, h.output, h.size, fun k hk => h.block k (by omega) (hz k hk)⟩
theorem Sep.cell {Z : Nat → Prop} {A B : World} (h : Sep Z A B) {b o : Nat} {p : Option Nat} {v : Value} (hb : ¬ Z b) (hc : A.cell? ⟨b, o, p⟩ = some v) : B.cell? ⟨b, o, p⟩ = some v :=
  (World.cell?_of_block (w := A) (a := ⟨b, o, p⟩) (h.block b (block_lt_of_cell hc) hb)).trans hc

theorem Sep.frozen {Z : Nat → Prop} {A B : World} (h : Sep Z A B) {b o : Nat} {p : Option Nat} (hb : ¬ Z b) (hl : b < A.heap.size) : B.frozen? ⟨b, o, p⟩ = A.frozen? ⟨b, o, p⟩ :=
  World.frozen?_of_block (w := A) (a := ⟨b, o, p⟩) (h.block b hl hb)

theorem Hold.refl (Z : Nat → Prop) (A : World) : Hold Z A A := ⟨Nat.le_refl _, fun _ _ _ => rfl⟩
theorem Hold.trans {Z : Nat → Prop} {A B C : World} (h : Hold Z A B) (k : Hold Z B C) : Hold Z A C :=
  ⟨Nat.le_trans h.size k.size, fun i hi hz => (k.block i (Nat.lt_of_lt_of_le hi h.size) hz).trans (h.block i hi hz)⟩
theorem Hold.mono {Z Z' : Nat → Prop} {A B : World} (h : Hold Z A B) (hz : ∀ k, Z' k → Z k) : Hold Z' A B := ⟨h.size, fun k hk hn => h.block k hk (hz k hn)⟩
theorem Hold.alloc (Z : Nat → Prop) (A : World) (o : Obj) : Hold Z A (A.alloc o) := ⟨by simp, fun k hk _ => Below.heap_alloc _ _ _ hk⟩
theorem Hold.setCell {Z : Nat → Prop} (A : World) {b o : Nat} {p : Option Nat} (hz : ¬ Z b) (v : Value) : Hold Z A (A.setCell ⟨b, o, p⟩ v) :=
  ⟨by simp [World.setCell], fun k _ hn => Below.heap_setCell _ _ _ _ (fun e => by simp at e; subst e; exact hz hn)⟩
theorem Hold.putObj {Z : Nat → Prop} (A : World) {b : Nat} (hz : ¬ Z b) (o : Obj) : Hold Z A (A.putObj b o) :=
  ⟨by simp, fun k _ hn => World.putObj_heap_other (fun e => hz (e ▸ hn))⟩
theorem Hold.grown {Z : Nat → Prop} {A B : World} {row : Option Nat} (hg : A.grownBy B row) (hr : ∀ k, row = some k → ¬ Z k) : Hold Z A B :=
  ⟨hg.size, fun k hk hz => hg.block k hk (fun e => hr k e.symm hz)⟩
theorem Hold.below {Z : Nat → Prop} {A B : World} {m : Nat} (h : Below m A B) (hz : ∀ k, Z k → k < m) : Hold Z A B := ⟨h.size, fun k _ hn => h.block k (hz k hn)⟩
theorem Hold.drewN (Z : Nat → Prop) (A : World) (m : Nat) : Hold Z A (A.drewN m) := ⟨Nat.le_refl _, fun _ _ _ => rfl⟩
theorem Hold.cell {Z : Nat → Prop} {A B : World} (h : Hold Z A B) {b o : Nat} {p : Option Nat} {v : Value} (hb : Z b) (hc : A.cell? ⟨b, o, p⟩ = some v) : B.cell? ⟨b, o, p⟩ = some v :=
  (World.cell?_of_block (w := A) (a := ⟨b, o, p⟩) (h.block b (block_lt_of_cell hc) hb)).trans hc
theorem Hold.frozen {Z : Nat → Prop} {A B : World} (h : Hold Z A B) {b o : Nat} {p : Option Nat} (hb : Z b) (hl : b < A.heap.size) : B.frozen? ⟨b, o, p⟩ = A.frozen? ⟨b, o, p⟩ :=
  World.frozen?_of_block (w := A) (a := ⟨b, o, p⟩) (h.block b hl hb)

/-- WHAT AN ITERATOR OWES: over the blocks Z, which are its own, it hands out xs, one by one, and turns nothing else. -/
def Gives {α : Type} (F : Fence) (n : Nat) (P : Program) (g : Nat) (lb : Array Value) (encs : α → Array Value) (Z : Nat → Prop) (xs : List α) (W0 : World) : Prop :=
  ∀ (l : Nat) (J Jx : List α → World → Prop) (W : World), Hold Z W0 W →
    (∀ s A B, J s A → Sep Z A B → J s B) → (∀ s A B, Jx s A → Sep Z A B → Jx s B) →
    (∀ pre x rest W1, xs = pre ++ x :: rest → J pre W1 → YieldAt F (n - 1) P l (encs x) W1 fun e W' => Hold Z W1 W' ∧
      ((e = .returned (.bool true) ∧ J (pre ++ [x]) W') ∨ (e = .returned (.bool false) ∧ Jx (pre ++ [x]) W'))) →
    J [] W → CallsIn F n P g (#[.func (.yield l) #[] #[]] ++ lb) W fun e W' => (∃ v, e = .returned v) ∧ (J xs W' ∨ ∃ pre, pre <+: xs ∧ Jx pre W')

/-- The same of an iterator that begins behind the loop's own two blocks: Z may hold all blocks that are made from then on; Zs is what of Z it may turn itself. -/
def GivesN {α : Type} (F : Fence) (n : Nat) (P : Program) (g : Nat) (lb : Array Value) (encs : α → Array Value) (Z Zs : Nat → Prop) (xs : List α) (W0 : World) : Prop :=
  ∀ (l : Nat) (J Jx : List α → World → Prop) (W : World), W0.heap.size + 2 ≤ W.heap.size → Hold Z W0 W →
    (∀ s A B, J s A → Sep Zs A B → J s B) → (∀ s A B, Jx s A → Sep Zs A B → Jx s B) →
    (∀ pre x rest W1, xs = pre ++ x :: rest → J pre W1 → YieldAt F (n - 1) P l (encs x) W1 fun e W' => Hold Z W1 W' ∧
      ((e = .returned (.bool true) ∧ J (pre ++ [x]) W') ∨ (e = .returned (.bool false) ∧ Jx (pre ++ [x]) W'))) →
    J [] W → CallsIn F n P g (#[.func (.yield l) #[] #[]] ++ lb) W fun e W' => (∃ v, e = .returned v) ∧ (J xs W' ∨ ∃ pre, pre <+: xs ∧ Jx pre W')
theorem Gives.n {α : Type} {F : Fence} {n : Nat} {P : Program} {g : Nat} {lb : Array Value} {encs : α → Array Value} {Z : Nat → Prop} {xs : List α} {W0 : World} (h : Gives F n P g lb encs Z xs W0) : GivesN F n P g lb encs Z Z xs W0 :=
  fun l J Jx W _ => h l J Jx W

/-- How a round may be left: nothing of the iterator's and of the loop's own has turned. -/
def roundEnd {α : Type} (Z : Nat → Prop) (I : List α → World → Prop) (Ix : Code → List α → World → Prop) (xs : List α) (W : World) : Exit → Act → World → Prop
  | .normal, _, W' => Hold Z W W' ∧ I xs W'
  | .ret, _, W' => Hold Z W W' ∧ Ix .ret xs W'
  | .exit id, _, W' => Hold Z W W' ∧ Ix (.exit id) xs W'
  | .goto t, _, W' => Hold Z W W' ∧ Ix (.goto t) xs W'
  | .panic _, _, _ => False
  | .outgrown, _, _ => False

variable {F : Fence} {n : Nat} {P : Program}

theorem range_ownN {α : Type} {g : Operand} {ps : Array Tmp} {assign body : Code} {Q : Exit → Act → World → Prop} {a : Act} {w : World}
    (hro : F.round = none) (h1 : 1 ≤ n) {gf : Nat} {lb : Array Value} (hg : a.eval g = .func (.func gf) #[] lb) (hFg : F.fn gf) (eg : ∀ args w, (callFunc gf args).run P w = .ok (.enter gf args) w)
    {encs : α → Array Value} {Z Zs : Nat → Prop} {xs : List α} (hseq : GivesN F (n - 1) P gf lb encs Z Zs xs w) (hsub : ∀ k, Zs k → Z k) (nZD : ¬ Z w.heap.size) (nZL : ¬ Z (w.heap.size + 1)) (hps : ∀ x, (encs x).size = ps.size)
    (I : List α → World → Prop) (Ix : Code → List α → World → Prop)
    (hI : ∀ s A B, I s A → Sep (fun k => Zs k ∨ k = w.heap.size ∨ k = w.heap.size + 1) A B → I s B)
    (hIx : ∀ c s A B, Ix c s A → Sep (fun k => Zs k ∨ k = w.heap.size ∨ k = w.heap.size + 1) A B → Ix c s B)
    (h0 : I [] w) (Ax : α → Act → World → Prop) (hAx : ∀ x a' A B, Ax x a' A → Sep (fun k => Zs k ∨ k = w.heap.size ∨ k = w.heap.size + 1) A B → Ax x a' B)
    (hassign : ∀ (l : Nat) (pre : List α) (x : α) (W : World) (K : Act → World → Prop), I pre W → w.heap.size + 1 < W.heap.size →
      (∀ a' W', Hold (fun k => Z k ∨ k = w.heap.size ∨ k = w.heap.size + 1) W W' → I pre W' → Ax x a' W' → K a' W') →
      assign.wpIn (F.inRound l) (n - 1 - 1) P (Exit.then K (fun _ _ _ => False)) { tmps := (ps.zip (encs x)).foldl (fun t (p, v) => t.setIfInBounds p v) a.tmps, defers := [] } W)
    (hbody : ∀ (l : Nat) (pre : List α) (x : α) (rest : List α) (a' : Act) (W : World), xs = pre ++ x :: rest → w.heap.size + 1 < W.heap.size → I pre W → Ax x a' W →
      body.wpIn (F.inRound l) (n - 1 - 1) P (roundEnd (fun k => Z k ∨ k = w.heap.size ∨ k = w.heap.size + 1) I Ix (pre ++ [x]) W) a' W)
    (hdone : ∀ (W : World), I xs W → W.heap[w.heap.size]? = some (.deferred (some [])) → Q .normal { a with defers := { target := .collected w.heap.size, args := #[] } :: a.defers } W)
    (hstop : ∀ (c : Code) (pre : List α) (W : World), pre <+: xs → Ix c pre W → W.heap[w.heap.size]? = some (.deferred (some [])) → c.wpIn F n P Q { a with defers := { target := .collected w.heap.size, args := #[] } :: a.defers } W) :
    (Code.rangeFunc g ps assign body).wpIn F n P Q a w := by
  refine wpIn_rangeFunc fun fn hfn => ?_
  rw [hro]
  -- the loop's record, in a state and with a jump that waits
  obtain ⟨rec, hrec⟩ : ∃ rec : LoopState → Option Code → Loop, rec = fun s j => { state := s, pending := j, fn, tmps := a.tmps, params := ps, assign, body, defers := w.heap.size } := ⟨_, rfl⟩
  have hrs : ∀ s j, (rec s j).state = s := fun s j => by rw [hrec]
  have hrp : ∀ s j, (rec s j).pending = j := fun s j => by rw [hrec]
  have hf1 : (rec .ready none).params = ps := by rw [hrec]
  have hf2 : (rec .ready none).fn = fn := by rw [hrec]
  have hf3 : (rec .ready none).tmps = a.tmps := by rw [hrec]
  have hf4 : (rec .ready none).assign = assign := by rw [hrec]
  have hf5 : (rec .ready none).body = body := by rw [hrec]
  have hset : ∀ s j s' j', ({ rec s j with state := s', pending := j' } : Loop) = rec s' j' := fun s j s' j' => by rw [hrec]
  have hset1 : ∀ s j s', ({ rec s j with state := s' } : Loop) = rec s' j := fun s j s' => by rw [hrec]
  generalize hW1 : (w.alloc (.deferred (some []))).alloc (.loop (rec .ready none)) = W1
  have sz1 : W1.heap.size = w.heap.size + 2 := by rw [← hW1]; simp
  have hL1 : W1.heap[w.heap.size + 1]? = some (.loop (rec .ready none)) := by
    rw [← hW1]; have := World.alloc_heap_new (w.alloc (.deferred (some []))) (.loop (rec .ready none)); rwa [World.size_alloc] at this
  have hD1 : W1.heap[w.heap.size]? = some (.deferred (some [])) := by
    rw [← hW1, Below.heap_alloc _ _ _ (by simp)]; exact World.alloc_heap_new w _
  have hI1 : I [] W1 := by rw [← hW1]; exact hI _ _ _ (hI _ _ _ h0 (.alloc _ _ _)) (.alloc _ _ _)
  have hH1 : Hold Z w W1 := by rw [← hW1]; exact (Hold.alloc Z w _).trans (.alloc Z _ _)
  refine ⟨w.heap.size + 1, [{ target := .collected w.heap.size, args := #[] }], W1, { target := .fn (.func gf) lb, args := #[.func (.yield (w.heap.size + 1)) #[] #[]] }, W1, gf,
    #[.func (.yield (w.heap.size + 1)) #[] #[]] ++ lb, W1, ?_, ?_, ?_, ?_, fun _ => h1, ?_⟩
  · rw [← hW1, hrec]; exact run_enterLoop_outer _ _ _ _ _
  · simp only [resolve, hg]; simp [go_sem]
  · intro f' hf'; simp [Target.leads] at hf'; subst hf'; exact hFg
  · simp [invoke, go_sem, eg]
  -- the iterator, at the caller's invariant and the loop's two blocks
  have keep : ∀ {o : Obj} {A B : World} {k : Nat}, ¬ Zs k → A.heap[k]? = some o → Sep Zs A B → B.heap[k]? = some o := fun hk ho hs => (hs.block _ (Array.getElem?_eq_some_iff.1 ho).1 hk).trans ho
  have wide : ∀ {A B : World}, Sep Zs A B → Sep (fun k => Zs k ∨ k = w.heap.size ∨ k = w.heap.size + 1) A B := fun h => h.mono fun _ e => .inl e
  have iz : ∀ {A : World} (o : Obj), Sep (fun k => Zs k ∨ k = w.heap.size ∨ k = w.heap.size + 1) A (A.putObj (w.heap.size + 1) o) := fun o => .putObj _ (.inr (.inr rfl)) o
  have hold : ∀ {A B : World}, Hold (fun k => Z k ∨ k = w.heap.size ∨ k = w.heap.size + 1) A B → Hold Z A B := fun h => h.mono fun _ e => .inl e
  refine (hseq (w.heap.size + 1)
    (fun pre W => I pre W ∧ W.heap[w.heap.size + 1]? = some (.loop (rec .ready none)) ∧ W.heap[w.heap.size]? = some (.deferred (some [])))
    (fun pre W => ∃ c, Ix c pre W ∧ W.heap[w.heap.size + 1]? = some (.loop (rec .done (some c))) ∧ W.heap[w.heap.size]? = some (.deferred (some [])))
    W1 (by omega) hH1 (fun s A B h hs => ⟨hI s A B h.1 (wide hs), keep (fun e => nZL (hsub _ e)) h.2.1 hs, keep (fun e => nZD (hsub _ e)) h.2.2 hs⟩)
    (fun s A B ⟨c, h, hl, hd⟩ hs => ⟨c, hIx c s A B h (wide hs), keep (fun e => nZL (hsub _ e)) hl hs, keep (fun e => nZD (hsub _ e)) hd hs⟩) ?_ ⟨hI1, hL1, hD1⟩).mono ?_
  · rintro pre x rest W hx ⟨hi, hl, hd⟩
    have hlt := (Array.getElem?_eq_some_iff.1 hl).1
    have hy := run_yield (P := P) (args := encs x) hl (by rw [hf1]; exact hps x)
    rw [hf1, hf2, hf3, hf4, hf5] at hy
    refine ⟨fn, _, assign, body, hy, roundIn_of_wpIn hfn ?_⟩
    refine hassign _ pre x W _ hi hlt fun a' Wa ha hia hax => ?_
    have hla : Wa.heap[w.heap.size + 1]? = some (.loop (rec .ready none)) := (ha.block _ hlt (.inr (.inr rfl))).trans hl
    have hda : Wa.heap[w.heap.size]? = some (.deferred (some [])) := (ha.block _ (by omega) (.inr (.inl rfl))).trans hd
    have hlta : w.heap.size + 1 < Wa.heap.size := (Array.getElem?_eq_some_iff.1 hla).1
    refine ⟨_, run_beginRound hla (hrs _ _), ?_⟩
    rw [hset1]
    generalize hWb : Wa.putObj (w.heap.size + 1) (.loop (rec .busy none)) = Wb
    have hlb : Wb.heap[w.heap.size + 1]? = some (.loop (rec .busy none)) := by rw [← hWb]; exact World.putObj_heap_same hlta
    have hdb : Wb.heap[w.heap.size]? = some (.deferred (some [])) := by rw [← hWb, World.putObj_heap_other (by omega)]; exact hda
    have hib : I pre Wb := by rw [← hWb]; exact hI _ _ _ hia (iz _)
    have hxb : Ax x a' Wb := by rw [← hWb]; exact hAx _ _ _ _ hax (iz _)
    have hWab : Hold Z W Wb := (hold ha).trans (by rw [← hWb]; exact .putObj _ nZL _)
    have hltb : w.heap.size + 1 < Wb.heap.size := (Array.getElem?_eq_some_iff.1 hlb).1
    refine wpIn_mono (hbody _ pre x rest a' Wb hx hltb hib hxb) ?_
    have fin : ∀ (j : Option Code) (W3 : World), Hold (fun k => Z k ∨ k = w.heap.size ∨ k = w.heap.size + 1) Wb W3 →
        ∃ W4, (Instr.endRound (w.heap.size + 1) j).run P W3 = .ok (.bool j.isNone) W4 ∧ Sep (fun k => Zs k ∨ k = w.heap.size ∨ k = w.heap.size + 1) W3 W4 ∧ Hold Z W W4 ∧
          W4.heap[w.heap.size + 1]? = some (.loop (rec (if j.isNone then .ready else .done) j)) ∧ W4.heap[w.heap.size]? = some (.deferred (some [])) := fun j W3 h3 => by
      have hl3 : W3.heap[w.heap.size + 1]? = some (.loop (rec .busy none)) := (h3.block _ hltb (.inr (.inr rfl))).trans hlb
      have hd3 : W3.heap[w.heap.size]? = some (.deferred (some [])) := (h3.block _ (by omega) (.inr (.inl rfl))).trans hdb
      refine ⟨_, run_endRound j hl3, iz _, hWab.trans ((hold h3).trans (.putObj _ nZL _)), ?_, ?_⟩
      · rw [hset]; exact World.putObj_heap_same (Array.getElem?_eq_some_iff.1 hl3).1
      · rw [World.putObj_heap_other (by omega)]; exact hd3
    rintro e a3 W3 hp
    cases e with
    | normal => obtain ⟨h3, hi3⟩ := hp; obtain ⟨W4, hr, hs, hh, hl4, hd4⟩ := fin none W3 h3; exact ⟨_, W4, hr, hh, .inl ⟨rfl, hI _ _ _ hi3 hs, hl4, hd4⟩⟩
    | ret => obtain ⟨h3, hi3⟩ := hp; obtain ⟨W4, hr, hs, hh, hl4, hd4⟩ := fin (some .ret) W3 h3; exact ⟨_, W4, hr, hh, .inr ⟨rfl, _, hIx _ _ _ _ hi3 hs, hl4, hd4⟩⟩
    | exit id => obtain ⟨h3, hi3⟩ := hp; obtain ⟨W4, hr, hs, hh, hl4, hd4⟩ := fin (some (.exit id)) W3 h3; exact ⟨_, W4, hr, hh, .inr ⟨rfl, _, hIx _ _ _ _ hi3 hs, hl4, hd4⟩⟩
    | goto t => obtain ⟨h3, hi3⟩ := hp; obtain ⟨W4, hr, hs, hh, hl4, hd4⟩ := fin (some (.goto t)) W3 h3; exact ⟨_, W4, hr, hh, .inr ⟨rfl, _, hIx _ _ _ _ hi3 hs, hl4, hd4⟩⟩
    | panic ch => exact hp.elim
    | outgrown => exact hp.elim
  · rintro e W2 ⟨⟨v, rfl⟩, hJ⟩
    rcases hJ with ⟨hi, hl, hd⟩ | ⟨pre, hpre, c, hi, hl, hd⟩
    · exact ⟨none, _, by rw [run_endLoop hl (by rw [hrs]; simp), hrp], hdone _ (hI _ _ _ hi (iz _)) (by rw [World.putObj_heap_other (by omega)]; exact hd)⟩
    · exact ⟨some c, _, by rw [run_endLoop hl (by rw [hrs]; simp), hrp], hstop c pre _ hpre (hIx _ _ _ _ hi (iz _)) (by rw [World.putObj_heap_other (by omega)]; exact hd)⟩

theorem range_own {α : Type} {g : Operand} {ps : Array Tmp} {assign body : Code} {Q : Exit → Act → World → Prop} {a : Act} {w : World}
    (hro : F.round = none) (h1 : 1 ≤ n) {gf : Nat} {lb : Array Value} (hg : a.eval g = .func (.func gf) #[] lb) (hFg : F.fn gf) (eg : ∀ args w, (callFunc gf args).run P w = .ok (.enter gf args) w)
    {encs : α → Array Value} {Z : Nat → Prop} {xs : List α} (hseq : Gives F (n - 1) P gf lb encs Z xs w) (hZ : ∀ k, Z k → k < w.heap.size) (hps : ∀ x, (encs x).size = ps.size)
    (I : List α → World → Prop) (Ix : Code → List α → World → Prop)
    (hI : ∀ s A B, I s A → Sep (fun k => Z k ∨ k = w.heap.size ∨ k = w.heap.size + 1) A B → I s B)
    (hIx : ∀ c s A B, Ix c s A → Sep (fun k => Z k ∨ k = w.heap.size ∨ k = w.heap.size + 1) A B → Ix c s B)
    (h0 : I [] w) (Ax : α → Act → World → Prop) (hAx : ∀ x a' A B, Ax x a' A → Sep (fun k => Z k ∨ k = w.heap.size ∨ k = w.heap.size + 1) A B → Ax x a' B)
    (hassign : ∀ (l : Nat) (pre : List α) (x : α) (W : World) (K : Act → World → Prop), I pre W → w.heap.size + 1 < W.heap.size →
      (∀ a' W', Hold (fun k => Z k ∨ k = w.heap.size ∨ k = w.heap.size + 1) W W' → I pre W' → Ax x a' W' → K a' W') →
      assign.wpIn (F.inRound l) (n - 1 - 1) P (Exit.then K (fun _ _ _ => False)) { tmps := (ps.zip (encs x)).foldl (fun t (p, v) => t.setIfInBounds p v) a.tmps, defers := [] } W)
    (hbody : ∀ (l : Nat) (pre : List α) (x : α) (rest : List α) (a' : Act) (W : World), xs = pre ++ x :: rest → w.heap.size + 1 < W.heap.size → I pre W → Ax x a' W →
      body.wpIn (F.inRound l) (n - 1 - 1) P (roundEnd (fun k => Z k ∨ k = w.heap.size ∨ k = w.heap.size + 1) I Ix (pre ++ [x]) W) a' W)
    (hdone : ∀ (W : World), I xs W → W.heap[w.heap.size]? = some (.deferred (some [])) → Q .normal { a with defers := { target := .collected w.heap.size, args := #[] } :: a.defers } W)
    (hstop : ∀ (c : Code) (pre : List α) (W : World), pre <+: xs → Ix c pre W → W.heap[w.heap.size]? = some (.deferred (some [])) → c.wpIn F n P Q { a with defers := { target := .collected w.heap.size, args := #[] } :: a.defers } W) :
    (Code.rangeFunc g ps assign body).wpIn F n P Q a w :=
  range_ownN hro h1 hg hFg eg hseq.n (fun _ e => e) (fun e => by have := hZ _ e; omega) (fun e => by have := hZ _ e; omega) hps I Ix hI hIx h0 Ax hAx hassign hbody hdone hstop

/-- The same where a round's variable lies in a slot: what the assignment leaves is named ahead of the world. -/
theorem range_own1N {α : Type} {g : Operand} {ps : Array Tmp} {assign body : Code} {Q : Exit → Act → World → Prop} {a : Act} {w : World}
    (hro : F.round = none) (h1 : 1 ≤ n) {gf : Nat} {lb : Array Value} (hg : a.eval g = .func (.func gf) #[] lb) (hFg : F.fn gf) (eg : ∀ args w, (callFunc gf args).run P w = .ok (.enter gf args) w)
    {encs : α → Array Value} {Z Zs : Nat → Prop} {xs : List α} (hseq : GivesN F (n - 1) P gf lb encs Z Zs xs w) (hsub : ∀ k, Zs k → Z k) (nZD : ¬ Z w.heap.size) (nZL : ¬ Z (w.heap.size + 1)) (hps : ∀ x, (encs x).size = ps.size)
    (I : List α → World → Prop) (Ix : Code → List α → World → Prop)
    (hI : ∀ s A B, I s A → Sep (fun k => Zs k ∨ k = w.heap.size ∨ k = w.heap.size + 1) A B → I s B)
    (hIx : ∀ c s A B, Ix c s A → Sep (fun k => Zs k ∨ k = w.heap.size ∨ k = w.heap.size + 1) A B → Ix c s B)
    (h0 : I [] w) (a₁ : α → Act)
    (hassign : ∀ (l : Nat) (x : α) (W : World) (K : Act → World → Prop), K (a₁ x) W →
      assign.wpIn (F.inRound l) (n - 1 - 1) P (Exit.then K (fun _ _ _ => False)) { tmps := (ps.zip (encs x)).foldl (fun t (p, v) => t.setIfInBounds p v) a.tmps, defers := [] } W)
    (hbody : ∀ (l : Nat) (pre : List α) (x : α) (rest : List α) (W : World), xs = pre ++ x :: rest → w.heap.size + 1 < W.heap.size → I pre W →
      body.wpIn (F.inRound l) (n - 1 - 1) P (roundEnd (fun k => Z k ∨ k = w.heap.size ∨ k = w.heap.size + 1) I Ix (pre ++ [x]) W) (a₁ x) W)
    (hdone : ∀ (W : World), I xs W → W.heap[w.heap.size]? = some (.deferred (some [])) → Q .normal { a with defers := { target := .collected w.heap.size, args := #[] } :: a.defers } W)
    (hstop : ∀ (c : Code) (pre : List α) (W : World), pre <+: xs → Ix c pre W → W.heap[w.heap.size]? = some (.deferred (some [])) → c.wpIn F n P Q { a with defers := { target := .collected w.heap.size, args := #[] } :: a.defers } W) :
    (Code.rangeFunc g ps assign body).wpIn F n P Q a w :=
  range_ownN hro h1 hg hFg eg hseq hsub nZD nZL hps I Ix hI hIx h0 (fun x a' _ => a' = a₁ x) (fun _ _ _ _ h _ => h)
    (fun l pre x W K hi _ hK => hassign l x W K (hK _ _ (.refl _ _) hi rfl)) (fun l pre x rest a' W hx hlt hi ha => by subst ha; exact hbody l pre x rest W hx hlt hi) hdone hstop

/-- The same in a plain walk. -/
theorem range_wpN {α : Type} {g : Operand} {ps : Array Tmp} {assign body : Code} {Q : Exit → Act → World → Prop} {a : Act} {w : World}
    {gf : Nat} {lb : Array Value} (hg : a.eval g = .func (.func gf) #[] lb) (eg : ∀ args w, (callFunc gf args).run P w = .ok (.enter gf args) w)
    {encs : α → Array Value} {Z Zs : Nat → Prop} {xs : List α} (hseq : GivesN Fence.wide 2 P gf lb encs Z Zs xs w) (hsub : ∀ k, Zs k → Z k) (nZD : ¬ Z w.heap.size) (nZL : ¬ Z (w.heap.size + 1)) (hps : ∀ x, (encs x).size = ps.size)
    (I : List α → World → Prop) (Ix : Code → List α → World → Prop)
    (hI : ∀ s A B, I s A → Sep (fun k => Zs k ∨ k = w.heap.size ∨ k = w.heap.size + 1) A B → I s B)
    (hIx : ∀ c s A B, Ix c s A → Sep (fun k => Zs k ∨ k = w.heap.size ∨ k = w.heap.size + 1) A B → Ix c s B)
    (h0 : I [] w) (a₁ : α → Act)
    (hassign : ∀ (l : Nat) (x : α) (W : World) (K : Act → World → Prop), K (a₁ x) W →
      assign.wpIn (Fence.wide.inRound l) 1 P (Exit.then K (fun _ _ _ => False)) { tmps := (ps.zip (encs x)).foldl (fun t (p, v) => t.setIfInBounds p v) a.tmps, defers := [] } W)
    (hbody : ∀ (l : Nat) (pre : List α) (x : α) (rest : List α) (W : World), xs = pre ++ x :: rest → w.heap.size + 1 < W.heap.size → I pre W →
      body.wpIn (Fence.wide.inRound l) 1 P (roundEnd (fun k => Z k ∨ k = w.heap.size ∨ k = w.heap.size + 1) I Ix (pre ++ [x]) W) (a₁ x) W)
    (hdone : ∀ (W : World), I xs W → W.heap[w.heap.size]? = some (.deferred (some [])) → Q .normal { a with defers := { target := .collected w.heap.size, args := #[] } :: a.defers } W)
    (hstop : ∀ (c : Code) (pre : List α) (W : World), pre <+: xs → Ix c pre W → W.heap[w.heap.size]? = some (.deferred (some [])) → c.wp P Q { a with defers := { target := .collected w.heap.size, args := #[] } :: a.defers } W) :
    (Code.rangeFunc g ps assign body).wp P Q a w :=
  (wpIn_wide (n := 3)).1 (range_own1N rfl (by omega) hg trivial eg hseq hsub nZD nZL hps I Ix hI hIx h0 a₁ hassign hbody hdone (fun c pre W h1 h2 h3 => wpIn_wide.2 (hstop c pre W h1 h2 h3)))

/-- The same where a round's variable lies in a slot: what the assignment leaves is named ahead of the world. -/
theorem range_own1 {α : Type} {g : Operand} {ps : Array Tmp} {assign body : Code} {Q : Exit → Act → World → Prop} {a : Act} {w : World}
    (hro : F.round = none) (h1 : 1 ≤ n) {gf : Nat} {lb : Array Value} (hg : a.eval g = .func (.func gf) #[] lb) (hFg : F.fn gf) (eg : ∀ args w, (callFunc gf args).run P w = .ok (.enter gf args) w)
    {encs : α → Array Value} {Z : Nat → Prop} {xs : List α} (hseq : Gives F (n - 1) P gf lb encs Z xs w) (hZ : ∀ k, Z k → k < w.heap.size) (hps : ∀ x, (encs x).size = ps.size)
    (I : List α → World → Prop) (Ix : Code → List α → World → Prop)
    (hI : ∀ s A B, I s A → Sep (fun k => Z k ∨ k = w.heap.size ∨ k = w.heap.size + 1) A B → I s B)
    (hIx : ∀ c s A B, Ix c s A → Sep (fun k => Z k ∨ k = w.heap.size ∨ k = w.heap.size + 1) A B → Ix c s B)
    (h0 : I [] w) (a₁ : α → Act)
    (hassign : ∀ (l : Nat) (x : α) (W : World) (K : Act → World → Prop), K (a₁ x) W →
      assign.wpIn (F.inRound l) (n - 1 - 1) P (Exit.then K (fun _ _ _ => False)) { tmps := (ps.zip (encs x)).foldl (fun t (p, v) => t.setIfInBounds p v) a.tmps, defers := [] } W)
    (hbody : ∀ (l : Nat) (pre : List α) (x : α) (rest : List α) (W : World), xs = pre ++ x :: rest → w.heap.size + 1 < W.heap.size → I pre W →
      body.wpIn (F.inRound l) (n - 1 - 1) P (roundEnd (fun k => Z k ∨ k = w.heap.size ∨ k = w.heap.size + 1) I Ix (pre ++ [x]) W) (a₁ x) W)
    (hdone : ∀ (W : World), I xs W → W.heap[w.heap.size]? = some (.deferred (some [])) → Q .normal { a with defers := { target := .collected w.heap.size, args := #[] } :: a.defers } W)
    (hstop : ∀ (c : Code) (pre : List α) (W : World), pre <+: xs → Ix c pre W → W.heap[w.heap.size]? = some (.deferred (some [])) → c.wpIn F n P Q { a with defers := { target := .collected w.heap.size, args := #[] } :: a.defers } W) :
    (Code.rangeFunc g ps assign body).wpIn F n P Q a w :=
  range_own hro h1 hg hFg eg hseq hZ hps I Ix hI hIx h0 (fun x a' _ => a' = a₁ x) (fun _ _ _ _ h _ => h)
    (fun l pre x W K hi _ hK => hassign l x W K (hK _ _ (.refl _ _) hi rfl)) (fun l pre x rest a' W hx hlt hi ha => by subst ha; exact hbody l pre x rest W hx hlt hi) hdone hstop

/-- The same in a plain walk. -/
theorem range_wp {α : Type} {g : Operand} {ps : Array Tmp} {assign body : Code} {Q : Exit → Act → World → Prop} {a : Act} {w : World}
    {gf : Nat} {lb : Array Value} (hg : a.eval g = .func (.func gf) #[] lb) (eg : ∀ args w, (callFunc gf args).run P w = .ok (.enter gf args) w)
    {encs : α → Array Value} {Z : Nat → Prop} {xs : List α} (hseq : Gives Fence.wide 2 P gf lb encs Z xs w) (hZ : ∀ k, Z k → k < w.heap.size) (hps : ∀ x, (encs x).size = ps.size)
    (I : List α → World → Prop) (Ix : Code → List α → World → Prop)
    (hI : ∀ s A B, I s A → Sep (fun k => Z k ∨ k = w.heap.size ∨ k = w.heap.size + 1) A B → I s B)
    (hIx : ∀ c s A B, Ix c s A → Sep (fun k => Z k ∨ k = w.heap.size ∨ k = w.heap.size + 1) A B → Ix c s B)
    (h0 : I [] w) (a₁ : α → Act)
    (hassign : ∀ (l : Nat) (x : α) (W : World) (K : Act → World → Prop), K (a₁ x) W →
      assign.wpIn (Fence.wide.inRound l) 1 P (Exit.then K (fun _ _ _ => False)) { tmps := (ps.zip (encs x)).foldl (fun t (p, v) => t.setIfInBounds p v) a.tmps, defers := [] } W)
    (hbody : ∀ (l : Nat) (pre : List α) (x : α) (rest : List α) (W : World), xs = pre ++ x :: rest → w.heap.size + 1 < W.heap.size → I pre W →
      body.wpIn (Fence.wide.inRound l) 1 P (roundEnd (fun k => Z k ∨ k = w.heap.size ∨ k = w.heap.size + 1) I Ix (pre ++ [x]) W) (a₁ x) W)
    (hdone : ∀ (W : World), I xs W → W.heap[w.heap.size]? = some (.deferred (some [])) → Q .normal { a with defers := { target := .collected w.heap.size, args := #[] } :: a.defers } W)
    (hstop : ∀ (c : Code) (pre : List α) (W : World), pre <+: xs → Ix c pre W → W.heap[w.heap.size]? = some (.deferred (some [])) → c.wp P Q { a with defers := { target := .collected w.heap.size, args := #[] } :: a.defers } W) :
    (Code.rangeFunc g ps assign body).wp P Q a w :=
  (wpIn_wide (n := 3)).1 (range_own1 rfl (by omega) hg trivial eg hseq hZ hps I Ix hI hIx h0 a₁ hassign hbody hdone (fun c pre W h1 h2 h3 => wpIn_wide.2 (hstop c pre W h1 h2 h3)))

/-- A function that holds a range over a function, from its body's plain walk. -/
theorem calls_of_marks {f : FuncId} {fn : Func} {c : Code} {args : Array Value} {w : World} {R : Ending → World → Prop} (hf : P.funcs[f]? = some fn) (hb : fn.body = some c)
    (h : c.wp P (bodyPostM Fence.wide 3 P fn R) { tmps := args ++ Array.replicate (fn.ntmps - args.size) undef, defers := [] } w) : Calls P f args w R :=
  (callsIn_wide (n := 3)).1 (callsIn_of_wp_marks hf hb trivial (wpIn_wide.2 h) rfl)

/-- At the function's return: the block for the rounds' deferred calls is shut. -/
theorem ret_mark {fn : Func} {tmps : Array Value} {R : Ending → World → Prop} {D : Nat} {w : World} {v : Value} (hK : w.heap[D]? = some (.deferred (some [])))
    (hres : (results fn tmps).run P (w.putObj D (.deferred none)) = .ok v (w.putObj D (.deferred none))) (hR : R (.returned v) (w.putObj D (.deferred none))) :
    bodyPostM F n P fn R .ret { tmps := tmps, defers := [{ target := .collected D, args := #[] }] } w :=
  ⟨by simp, .inl ⟨D, _, rfl, run_takeDeferred hK, _, hres, hR⟩⟩
theorem Below.putObj {m : Nat} {a w : World} {D : Nat} (h : Below m a w) (hD : m ≤ D) (o : Obj) : Below m a (w.putObj D o) :=
  h.trans ⟨rfl, rfl, rfl, by simp, fun k hk => World.putObj_heap_other (by omega)⟩
end Go.Proofs.Ytldhhhmihfcalaa

/- A variable's cell that holds a slice of the call's own, through a loop's rounds; and what is known of a slice of integers of any kind. No condition. -/
namespace Go.Proofs.Ytldhhhmihfcalaa
open Go.RowKit Go.Shelf

theorem boxed_sep {Z : Nat → Prop} {A B : World} {b : Nat} {t : TypeId} {v : Value} (h : Boxed A b t v) (hs : Sep Z A B) (hz : ¬ Z b) : Boxed B b t v := (hs.block b h.lt hz).trans h
theorem ownsRow_sep {Z : Nat → Prop} {A B : World} {base : Nat} {e : TypeId} {size : Nat} {v : Value} {n : Nat} {xs : List Value} (h : A.ownsRow base e size v n xs) (hs : Sep Z A B) (hz : ∀ k, base ≤ k → ¬ Z k) : B.ownsRow base e size v n xs := by
  obtain ⟨h1, h2⟩ := h
  refine ⟨h1, ?_⟩
  rcases h2 with h2 | ⟨g, cap, cur, rfl, hb, hg, r⟩
  · exact .inl h2
  · exact .inr ⟨g, cap, cur, rfl, hb, (hs.block g (Array.getElem?_eq_some_iff.1 hg).1 (hz g hb)).trans hg, r⟩
theorem ownsRow_base {A : World} {base base' : Nat} {e : TypeId} {size : Nat} {v : Value} {n : Nat} {xs : List Value} (h : A.ownsRow base e size v n xs) (hb : base' ≤ base) : A.ownsRow base' e size v n xs := by
  obtain ⟨h1, h2⟩ := h
  refine ⟨h1, ?_⟩
  rcases h2 with h2 | ⟨g, cap, cur, rfl, hg, r⟩
  · exact .inl h2
  · exact .inr ⟨g, cap, cur, rfl, Nat.le_trans hb hg, r⟩
/-- 'x = append(x, ..)', x in a cell of its own: all that a round owes behind it. -/
theorem pushed {W w1 : World} {base B : Nat} {t e : TypeId} {size : Nat} {v v' : Value} {k m : Nat} {xs ys : List Value} {tmp : Obj}
    (hv : Boxed W B t v) (hte : t ≠ e) (hrow : W.ownsRow base e size v k xs) (hown' : w1.ownsRow base e size v' m ys) (hgrow : (W.alloc tmp).grownBy w1 v.ownBlock) :
    Boxed w1 B t v ∧ Boxed (w1.setCell ⟨B, 0, none⟩ v') B t v' ∧ (w1.setCell ⟨B, 0, none⟩ v').ownsRow base e size v' m ys ∧
    (∀ Z : Nat → Prop, ¬ Z B → (∀ k, base ≤ k → ¬ Z k) → Hold Z W (w1.setCell ⟨B, 0, none⟩ v')) ∧
    (∀ m, m ≤ B → m ≤ base → m ≤ W.heap.size → Below m W (w1.setCell ⟨B, 0, none⟩ v')) := by
  have hb : ∀ j, v.ownBlock = some j → base ≤ j := fun j ej => (hrow.lt j ej).1
  have hv1 : Boxed w1 B t v := (hv.alloc tmp).kept hgrow (hv.not_row hte hrow)
  refine ⟨hv1, hv1.set v', hown'.kept (grownBy_setCell' w1 B v') (.inr (hv1.not_row hte hown').symm), fun Z hz hzb => ?_, fun m h1 h2 h3 => ?_⟩
  · exact ((Hold.alloc Z W tmp).trans (.grown hgrow fun j ej => hzb j (hb j ej))).trans (.setCell _ hz _)
  · exact (((Below.refl m W).alloc h3 tmp).grown hgrow (by simp; omega) fun j ej => Nat.le_trans h2 (hb j ej)).setCell (p := ⟨B, 0, none⟩) h1 v'

/-- WHAT IS KNOWN OF A SLICE OF INTEGERS OF KIND q: its length, and what its cells hold. -/
def SlK (q : IntKind) (w : World) (a : Option Addr) (len : Nat) (zs : List Int) : Prop :=
  zs.length = len ∧ (len = 0 ∨ ∃ blk off, a = some ⟨blk, off, none⟩ ∧ ∀ i, i < len → w.cell? ⟨blk, off + i, none⟩ = some (.int q (zs.getD i 0)))
theorem SlK.below {q : IntKind} {w w' : World} {a : Option Addr} {n : Nat} {zs : List Int} (h : SlK q w a n zs) (hb : Below w.heap.size w w') : SlK q w' a n zs := by
  obtain ⟨h1, h2⟩ := h
  refine ⟨h1, ?_⟩
  rcases h2 with h2 | ⟨blk, off, ha, hc⟩
  · exact .inl h2
  · exact .inr ⟨blk, off, ha, fun i hi => cell_later hb (hc i hi)⟩
/-- Integers in memory of the call's own. -/
def OwnK (q : IntKind) (base : Nat) (w : World) (ad : Option Addr) (zs : List Int) : Prop :=
  zs = [] ∨ ∃ g, ad = some ⟨g, 0, none⟩ ∧ base ≤ g ∧ g < w.heap.size ∧ (∀ i, i < zs.length → w.cell? ⟨g, i, none⟩ = some (.int q (zs.getD i 0))) ∧ (∀ i, w.frozen? ⟨g, i, none⟩ = false)
theorem OwnK.sl {q : IntKind} {base : Nat} {w : World} {ad : Option Addr} {zs : List Int} (h : OwnK q base w ad zs) : SlK q w ad zs.length zs := by
  refine ⟨rfl, ?_⟩
  rcases h with rfl | ⟨g, h1, _, _, h2, _⟩
  · exact .inl rfl
  · exact .inr ⟨g, 0, h1, fun i hi => by simpa using h2 i hi⟩
theorem OwnK.mono {q : IntKind} {base base' : Nat} {w : World} {ad : Option Addr} {zs : List Int} (h : OwnK q base w ad zs) (hb : base' ≤ base) : OwnK q base' w ad zs := by
  rcases h with h | ⟨g, h1, h2, h3⟩
  · exact .inl h
  · exact .inr ⟨g, h1, Nat.le_trans hb h2, h3⟩
theorem OwnK.later {q : IntKind} {base : Nat} {w w' : World} {ad : Option Addr} {zs : List Int} (h : OwnK q base w ad zs) (hb : Below w.heap.size w w') : OwnK q base w' ad zs := by
  rcases h with rfl | ⟨g, h1, h2, h3, h4, h5⟩
  · exact .inl rfl
  · exact .inr ⟨g, h1, h2, by have := hb.size; omega, fun i hi => cell_later hb (h4 i hi), fun i => by rw [hb.frozen (p := ⟨g, i, none⟩) h3]; exact h5 i⟩
theorem ownK_row {q : IntKind} {base : Nat} {w : World} {e : TypeId} {v : Value} {n : Nat} {zs : List Int} (hn : zs.length = n) (h : w.ownsRow base e 1 v n (zs.map (Value.int q))) :
    ∃ ad cap, v = .slice ad n cap ∧ OwnK q base w ad zs ∧ n ≤ cap := by
  have H := h
  obtain ⟨h1, h2⟩ := h
  rcases h2 with ⟨rfl, rfl⟩ | ⟨g, cap, cur, rfl, hb, hg, hle, hm, hsz, htk⟩
  · exact ⟨none, 0, rfl, .inl (by cases zs with | nil => rfl | cons => simp at hn), Nat.le_refl _⟩
  · refine ⟨_, cap, rfl, .inr ⟨g, rfl, hb, (H.lt g rfl).2, fun i hi => ?_, fun i => H.frozenAt i⟩, hle⟩
    rw [H.cellAt i (by omega), List.getElem?_map, List.getElem?_eq_getElem hi, List.getD_eq_getElem?_getD, List.getElem?_eq_getElem hi]; rfl
theorem ownsRow_cap {w : World} {base : Nat} {e : TypeId} {size : Nat} {g n cap : Nat} {xs : List Value} (h : w.ownsRow base e size (.slice (some ⟨g, 0, none⟩) n cap) n xs) : n ≤ cap := by
  rcases h.2 with ⟨e, _⟩ | ⟨_, _, _, e, _, _, hle, _⟩
  · cases e
  · cases e; exact hle
theorem ownK_lit {q : IntKind} (w : World) (cs : Array Value) (t : TypeId) (zs : List Int) (h : cs.toList = zs.map (Value.int q)) : OwnK q w.heap.size (w.alloc (.cells cs t)) (some ⟨w.heap.size, 0, none⟩) zs := by
  refine .inr ⟨w.heap.size, rfl, Nat.le_refl _, by simp, fun i hi => ?_, fun i => by simp [go_sem]⟩
  rw [World.cell?_alloc_at _ _ _ _ rfl]
  have : cs[i]? = cs.toList[i]? := by simp
  rw [this, h, List.getElem?_map, List.getElem?_eq_getElem hi, List.getD_eq_getElem?_getD, List.getElem?_eq_getElem hi]; rfl
end Go.Proofs.Ytldhhhmihfcalaa

/- What a law's walk is told of integers and of slices of integers that came in, and what follows of it. No condition. -/
namespace Go.Proofs.Ytldhhhmihfcalaa
open Go.RowKit
set_option linter.unusedVariables false

theorem wfI {n : Int} (h : (Lit.int .i64 n).wf = true) : -9223372036854775808 ≤ n ∧ n ≤ 9223372036854775807 := by
  simp [Lit.wf, IntKind.min, IntKind.max, IntKind.bits, IntKind.signed] at h; omega
theorem wfB {n : Int} (h : (Lit.int .u8 n).wf = true) : 0 ≤ n ∧ n ≤ 255 := by
  simp [Lit.wf, IntKind.min, IntKind.max, IntKind.bits, IntKind.signed] at h; omega
theorem bel_step {w a b : World} (h : Below w.heap.size w a) (k : Below a.heap.size a b) : Below w.heap.size w b := h.trans (k.mono h.size)
/-- It is nil; or it leads to a row of 'cap' cells, the numbers 'zs' (the first 'len' are its elements), each fitting its kind. -/
def IsRow (k : IntKind) (w : World) (a : Option Addr) (len cap : Nat) (zs : List Int) : Prop :=
  (a = none ∧ len = 0 ∧ cap = 0 ∧ zs = []) ∨
  ∃ x, a = some x ∧ len ≤ cap ∧ cap ≤ maxLen ∧ zs.length = cap ∧ (∀ i, i < zs.length → w.cell? (x.add i) = some (.int k (zs.getD i 0))) ∧ ∀ n ∈ zs, (Lit.int k n).wf = true
theorem isrow_len {k : IntKind} {w : World} {a : Option Addr} {len cap : Nat} {zs : List Int} (h : IsRow k w a len cap zs) : len ≤ 9223372036854775807 ∧ len ≤ zs.length ∧ len ≤ cap ∧ cap ≤ 9223372036854775807 := by
  rcases h with ⟨_, rfl, rfl, rfl⟩ | ⟨x, _, h1, h2, h3, _⟩
  · simp
  · unfold maxLen at h2; omega
theorem addrK_add (b off j : Nat) : (⟨b, off, none⟩ : Addr).add j = ⟨b, off + j, none⟩ := by cases j <;> simp [Addr.add]
/-- the first n elements, as a slice -/
theorem isrow_takeK {k : IntKind} {w : World} {a : Option Addr} {len cap : Nat} {zs : List Int} (h : IsRow k w a len cap zs) (n : Nat) (hn : n ≤ len) : SlK k w a n (zs.take n) := by
  have hl := isrow_len h
  refine ⟨by rw [List.length_take]; omega, ?_⟩
  rcases h with ⟨_, rfl, _, _⟩ | ⟨⟨b, o, sp⟩, rfl, h1, h2, h3, h4, _⟩
  · exact .inl (by omega)
  · by_cases h0 : n = 0
    · exact .inl h0
    · have hc := h4 0 (by omega)
      have hsp : sp = none := by simpa [Addr.add] using World.cell?_spot hc
      subst hsp
      refine .inr ⟨b, o, rfl, fun i hi => ?_⟩
      rw [← addrK_add, h4 i (by omega)]
      simp [List.getD_eq_getElem?_getD, List.getElem?_take_of_lt hi]
theorem isrow_wfK {k : IntKind} {w : World} {a : Option Addr} {len cap : Nat} {zs : List Int} (h : IsRow k w a len cap zs) : ∀ n ∈ zs, (Lit.int k n).wf = true := by
  rcases h with ⟨_, _, _, rfl⟩ | ⟨x, _, _, _, _, _, h5⟩
  · intro n hn; cases hn
  · exact h5
end Go.Proofs.Ytldhhhmihfcalaa

/- Plain facts on numbers as texts and as bytes: digits, decimals, bytes of a number. No condition. -/
namespace Go.Proofs.Ytldhhhmihfcalaa
open Go.RowKit
set_option linter.unusedVariables false
namespace Nu

def I (n : Int) : Prop := -9223372036854775808 ≤ n ∧ n ≤ 9223372036854775807
/-- a number's digits to a base, the lowest first -/
def dig (b n : Int) : List Int :=
  if h : 2 ≤ b ∧ b ≤ n then n % b :: dig b (n / b) else [n % b]
termination_by n.toNat
decreasing_by
  have h1 : 0 ≤ n / b := Int.ediv_nonneg (by omega) (by omega)
  have h2 : n / b < n := Int.ediv_lt_self_of_pos_of_ne_one (by omega) (by omega)
  omega
theorem dig_more {b n : Int} (h2 : 2 ≤ b) (h : b ≤ n) : dig b n = n % b :: dig b (n / b) := by rw [dig, dif_pos ⟨h2, h⟩]
theorem dig_last {b n : Int} (h : n < b) : dig b n = [n % b] := by rw [dig, dif_neg (by omega)]
theorem dig_ne (b n : Int) : dig b n ≠ [] := by rw [dig]; split <;> simp
theorem dig_lt {b : Int} (hb : 0 < b) (n : Int) : ∀ x ∈ dig b n, 0 ≤ x ∧ x < b := by
  induction n using dig.induct (b := b) with
  | case1 n h ih =>
    rw [dig_more h.1 h.2]
    intro x hx
    rcases List.mem_cons.1 hx with rfl | hx
    · exact ⟨Int.emod_nonneg _ (by omega), Int.emod_lt_of_pos _ hb⟩
    · exact ih x hx
  | case2 n h =>
    rw [dig, dif_neg h]
    intro x hx
    obtain rfl : x = n % b := by simpa using hx
    exact ⟨Int.emod_nonneg _ (by omega), Int.emod_lt_of_pos _ hb⟩
/-- no more than 64 digits -/
theorem dig_len {b : Int} (h2 : 2 ≤ b) : ∀ (k : Nat) (n : Int), n < 2 ^ k → (dig b n).length ≤ k + 1 := by
  intro k
  induction k with
  | zero => intro n h; rw [dig_last (by simp at h; omega)]; simp
  | succ k ih =>
    intro n h
    by_cases hb : b ≤ n
    · rw [dig_more h2 hb]
      have : n / b < 2 ^ k := by
        have e : (2 : Int) ^ (k + 1) = 2 ^ k * 2 := by rw [Int.pow_succ]
        rw [e] at h
        refine Int.ediv_lt_of_lt_mul (by omega) (Int.lt_of_lt_of_le h ?_)
        exact Int.mul_le_mul_of_nonneg_left h2 (Int.pow_nonneg (by omega))
      have := ih _ this
      simp; omega
    · rw [dig_last (by omega)]; simp
theorem dig_len64 {b n : Int} (h2 : 2 ≤ b) (h : n ≤ 18446744073709551615) : (dig b n).length ≤ 65 := by
  have e : (2 : Int) ^ 64 = 18446744073709551616 := by decide
  exact dig_len h2 64 n (by rw [e]; omega)
end Nu
end Go.Proofs.Ytldhhhmihfcalaa

/- How far a number is from 0, and what its digits' iterator hands out, over any memory. Condition: numbers fit their kinds. -/
namespace Go.Proofs.Ytldhhhmihfcalaa
open Go.RowKit Go.Shelf
attribute [local go_sem] Oper.semAt_some
set_option linter.unusedVariables false

theorem ret_i {k : IntKind} {a b : Int} (h : a = b) : Ending.returned (.int k a) = .returned (.int k b) := by rw [h]
theorem ret_b {a b : Bool} (h : a = b) : Ending.returned (.bool a) = .returned (.bool b) := by rw [h]

theorem size_any (n : Int) (hn : Nu.I n) (w : World) :
    Calls Try.prog 122 #[.int .i64 n] w fun e w' => e = .returned (.int .u64 n.natAbs) ∧ w = w' := by
  obtain ⟨h1, h2⟩ := hn
  by_cases h : n < 0
  · have X : Hid (IntKind.u64.wrap (-(IntKind.u64.wrap n)) = (n.natAbs : Int)) := by show _ = _; simp [IntKind.wrap, IntKind.bits, IntKind.signed]; omega
    go_enter Try.func122, Try.ntmps122
    go_wp2
    go_ret
    exact ⟨ret_i X.out, rfl⟩
  · have X : Hid (n = (n.natAbs : Int)) := by show _ = _; omega
    have h0 : 0 ≤ n := by omega
    go_enter Try.func122, Try.ntmps122
    go_wp2
    go_ret
    exact ⟨ret_i X.out, rfl⟩

theorem digits_any (n b : Int) (w : World) :
    Calls Try.prog 121 #[.int .u64 n, .int .u64 b] w fun e w' =>
      e = .returned (.func (.func 134) #[] #[.pointer (some ⟨w.heap.size, 0, none⟩), .pointer (some ⟨w.heap.size + 1, 0, none⟩)]) ∧
      w' = (w.alloc (.cells #[.int .u64 n] 87)).alloc (.cells #[.int .u64 b] 87) := by
  go_enter Try.func121, Try.ntmps121
  go_wp2
  go_ret
  exact ⟨rfl, rfl⟩

/-- The digits' iterator is made: two cells of its own. -/
def Made (n b : Int) (w : World) (e : Ending) (w' : World) : Prop :=
  ∃ nb bb, e = .returned (.func (.func 134) #[] #[.pointer (some ⟨nb, 0, none⟩), .pointer (some ⟨bb, 0, none⟩)]) ∧ nb ≠ bb ∧ w.heap.size ≤ nb ∧ w.heap.size ≤ bb ∧
    w'.cell? ⟨nb, 0, none⟩ = some (.int .u64 n) ∧ w'.cell? ⟨bb, 0, none⟩ = some (.int .u64 b) ∧ w'.frozen? ⟨nb, 0, none⟩ = false ∧ Below w.heap.size w w'
theorem digits_made (n b : Int) (w : World) : Calls Try.prog 121 #[.int .u64 n, .int .u64 b] w (Made n b w) := by
  refine (digits_any n b w).mono ?_
  rintro e w' ⟨rfl, rfl⟩
  exact ⟨_, _, rfl, by omega, by omega, by omega, by simp [go_sem], by simp [go_sem], by simp [go_sem], ((Below.refl _ _).alloc (Nat.le_refl _) _).alloc (by simp) _⟩

/-- the number that a cell holds -/
def cellNat (nb : Nat) (w : World) : Nat := match w.cell? ⟨nb, 0, none⟩ with | some (.int _ x) => x.toNat | _ => 0
theorem cellNat_of {nb : Nat} {w : World} {k : IntKind} {x : Int} (h : w.cell? ⟨nb, 0, none⟩ = some (.int k x)) : cellNat nb w = x.toNat := by unfold cellNat; rw [h]

set_option maxRecDepth 100000 in
set_option maxHeartbeats 2000000 in
theorem digits_gives (n b : Int) (h0 : 0 ≤ n) (h1 : n ≤ 18446744073709551615) (hb : 2 ≤ b) (hb1 : b ≤ 18446744073709551615) (nb bb : Nat) (hne : nb ≠ bb) (W0 : World) (m : Nat) (hm : 1 ≤ m)
    (cn : W0.cell? ⟨nb, 0, none⟩ = some (.int .u64 n)) (cb : W0.cell? ⟨bb, 0, none⟩ = some (.int .u64 b)) (fn : W0.frozen? ⟨nb, 0, none⟩ = false) :
    Gives Fence.wide m Try.prog 134 #[.pointer (some ⟨nb, 0, none⟩), .pointer (some ⟨bb, 0, none⟩)] (fun x : Int => #[.int .u64 x]) (fun k => k = nb ∨ k = bb) (Nu.dig b n) W0 := by
  intro l J Jx W hW hJ hJx hY h00
  have hln : nb < W0.heap.size := block_lt_of_cell cn
  have hlb : bb < W0.heap.size := block_lt_of_cell cb
  have cn1 := hW.cell (.inl rfl) cn
  have cb1 := hW.cell (.inr rfl) cb
  have fn1 : W.frozen? ⟨nb, 0, none⟩ = false := (hW.frozen (.inl rfl) hln).trans fn
  clear cn cb fn hln hlb hW
  have hbz : (b == 0) = false := by simp; omega
  refine callsIn_of_wp Try.func134 rfl trivial ?_ rfl
  simp only [Try.ntmps134, List.size_toArray, List.length_cons, List.length_nil, Nat.reduceAdd, Nat.reduceSub, Array.replicate_succ, Array.replicate_zero, List.push_toArray, List.append_toArray, List.nil_append, List.cons_append]
  gi_wp2
  gi_loopw [16] (fun _ wr => ∃ (pre : List Int) (q : Int), 0 ≤ q ∧ q ≤ 18446744073709551615 ∧ Nu.dig b n = pre ++ Nu.dig b q ∧ J pre wr ∧ wr.cell? ⟨nb, 0, none⟩ = some (.int .u64 q) ∧ wr.cell? ⟨bb, 0, none⟩ = some (.int .u64 b) ∧ wr.frozen? ⟨nb, 0, none⟩ = false) (fun _ wr => cellNat nb wr)
  case atStart => exact ⟨[], n, h0, h1, rfl, h00, cn1, cb1, fn1⟩
  case round =>
    obtain ⟨pre, q, q0, q1, hx, hj, c1, c2, f1⟩ := hrel
    clear cn1 cb1 fn1 h00
    have M := Lib.hid (cellNat_of c1)
    have hmod : q % b < b := Int.emod_lt_of_pos _ (by omega)
    have hmod0 : 0 ≤ q % b := Int.emod_nonneg _ (by omega)
    have hn1 : nb < wr.heap.size := block_lt_of_cell c1
    by_cases hle : b ≤ q
    · have hx2 : Nu.dig b n = pre ++ q % b :: Nu.dig b (q / b) := by rw [hx, Nu.dig_more hb hle]
      obtain ⟨fn, tmps, assign, body, hy, hR⟩ := hY pre (q % b) (Nu.dig b (q / b)) wr hx2 hj
      have HX := Lib.hid hx2
      have hq0 : 0 ≤ q / b := Int.ediv_nonneg (by omega) (by omega)
      have hq1 : q / b ≤ q := Int.ediv_le_self _ (by omega)
      have hq2 : q / b < q := Int.ediv_lt_self_of_pos_of_ne_one (by omega) (by omega)
      clear hx hx2 hY
      gi_wp2
      refine hR.mono ?_
      rintro e W3 ⟨hh, (⟨rfl, hJ3⟩ | ⟨rfl, hJx3⟩)⟩
      · have c13 := hh.cell (.inl rfl) c1
        have c23 := hh.cell (.inr rfl) c2
        have f13 : W3.frozen? ⟨nb, 0, none⟩ = false := (hh.frozen (.inl rfl) hn1).trans f1
        clear hR hy c1 c2 f1
        gi_wp2
        go_roundw
        case rel => exact ⟨pre ++ [q % b], q / b, hq0, by omega, by rw [HX.out]; simp, hJ _ _ _ hJ3 (.setCell _ (.inl rfl) _), World.cell?_setCell_same' _ _ _ (by rw [c13]; rfl), by rw [World.cell?_setCell_other _ _ _ _ (by first | (simp; done) | (simp; omega))]; exact c23, by rw [World.frozen?_setCell]; exact f13⟩
        case measure => rw [M.out, cellNat_of (World.cell?_setCell_same' _ _ _ (by rw [c13]; rfl))]; omega
      · gi_wp2
        go_end0
        exact ⟨⟨_, rfl⟩, .inr ⟨pre ++ [q % b], ⟨Nu.dig b (q / b), by rw [HX.out]; simp⟩, hJx3⟩⟩
    · have hx2 : Nu.dig b n = pre ++ q % b :: [] := by rw [hx, Nu.dig_last (by omega)]
      obtain ⟨fn, tmps, assign, body, hy, hR⟩ := hY pre (q % b) [] wr hx2 hj
      have HX := Lib.hid hx2
      clear hx hx2 hY
      gi_wp2
      refine hR.mono ?_
      rintro e W3 ⟨hh, (⟨rfl, hJ3⟩ | ⟨rfl, hJx3⟩)⟩
      · have c13 := hh.cell (.inl rfl) c1
        have c23 := hh.cell (.inr rfl) c2
        clear hR hy c1 c2 f1
        gi_wp2
        go_end0
        exact ⟨⟨_, rfl⟩, .inl (by rw [HX.out]; exact hJ3)⟩
      · gi_wp2
        go_end0
        exact ⟨⟨_, rfl⟩, .inr ⟨pre ++ [q % b], ⟨[], by rw [HX.out]; simp⟩, hJx3⟩⟩
end Go.Proofs.Ytldhhhmihfcalaa

/- How many bytes a number's decimals have, over any memory. Condition: the number fits its kind. -/
namespace Go.Proofs.Ytldhhhmihfcalaa
open Go.RowKit Go.Shelf
attribute [local go_sem] Oper.semAt_some
set_option linter.unusedVariables false

def Nu.places (n : Int) : Int := (if n < 0 then 1 else 0) + (Nu.dig 10 n.natAbs).length

set_option maxRecDepth 100000 in
set_option maxHeartbeats 2000000 in
theorem places_any (n : Int) (hn : Nu.I n) (w : World) :
    Calls Try.prog 94 #[.int .i64 n] w fun e w' => e = .returned (.int .i64 (Nu.places n)) ∧ Below w.heap.size w w' := by
  have hlen := Nu.dig_len64 (b := 10) (n := n.natAbs) (by omega) (by unfold Nu.I at hn; omega)
  have hna : (n.natAbs : Int) ≤ 18446744073709551615 := by unfold Nu.I at hn; omega
  refine calls_of_marks Try.func94 rfl ?_
  simp only [Try.ntmps94, List.size_toArray, List.length_cons, List.length_nil, Nat.reduceAdd, Nat.reduceSub, Array.replicate_succ, Array.replicate_zero, List.push_toArray, List.append_toArray, List.nil_append, List.cons_append]
  by_cases h : n < 0
  all_goals
    obtain ⟨s, hs, hs0, hs1, hs2⟩ : ∃ s : Int, Hid ((if n < 0 then 1 else 0) = s) ∧ 0 ≤ s ∧ s ≤ 1 ∧ Hid (s = if n < 0 then 1 else 0) := by
      first | exact ⟨1, by rw [if_pos h]; rfl, by omega, by omega, by rw [if_pos h]; rfl⟩ | exact ⟨0, by rw [if_neg h]; rfl, by omega, by omega, by rw [if_neg h]; rfl⟩
    go_wp2_with (first | (go_at_call 122; refine (size_any n hn _).mono ?_; rintro e w1 ⟨rfl, rfl⟩) | (go_at_call 121; refine (digits_made _ _ _).mono ?_; rintro e w2 ⟨nb, bb, rfl, hne, l1, l2, cn, cb, fn, hb⟩))
    have hc0 : w2.cell? ⟨w.heap.size, 0, none⟩ = some (.int .i64 s) := by
      rw [hb.cell (by simp)]
      first | (simp only [if_pos h] at hs; rw [← hs.out]; simp [go_sem]; done) | (rw [← hs.out, if_neg (by omega)]; simp [go_sem])
    have hf0 : w2.frozen? ⟨w.heap.size, 0, none⟩ = false := by rw [hb.frozen (by simp)]; simp [go_sem]
    have hbel : Below w.heap.size w w2 := ((Below.refl _ w).alloc (Nat.le_refl _) _).trans (hb.mono (by simp))
    have ln : nb < w2.heap.size := block_lt_of_cell cn
    have lb : bb < w2.heap.size := block_lt_of_cell cb
    simp only [World.size_alloc] at l1 l2
    have hws := hbel.size
    refine range_wp (gf := 134) (lb := #[.pointer (some ⟨nb, 0, none⟩), .pointer (some ⟨bb, 0, none⟩)]) rfl (enters_of Try.func134 (by kernel_rfl) rfl)
      (digits_gives n.natAbs 10 (by omega) hna (by omega) (by omega) nb bb hne w2 2 (by omega) cn cb fn) (by rintro k (rfl | rfl) <;> assumption) (fun _ => rfl)
      (fun pre W => W.cell? ⟨w.heap.size, 0, none⟩ = some (.int .i64 (s + pre.length)) ∧ W.frozen? ⟨w.heap.size, 0, none⟩ = false ∧ Below w.heap.size w W)
      (fun _ _ _ => False) ?hI (fun _ _ _ _ hh _ => hh) ⟨by simpa using hc0, hf0, hbel⟩ ?_ ?assign ?body ?done ?stop
    case hI =>
      rintro p A B ⟨h1, h2, h3⟩ hs
      have hz : ¬ ((w.heap.size = nb ∨ w.heap.size = bb) ∨ w.heap.size = w2.heap.size ∨ w.heap.size = w2.heap.size + 1) := by omega
      exact ⟨hs.cell hz h1, (hs.frozen hz (block_lt_of_cell h1)).trans h2, h3.trans (hs.below h3.size (by intro k hk; omega))⟩
    case assign =>
      intro l x W K hK
      gi_wp2
      exact hK
    case body =>
      rintro l pre x rest W hx hlt ⟨h1, h2, h3⟩
      have hp : (pre.length : Int) ≤ 65 := by have := congrArg List.length hx; simp at this; omega
      have HX := Lib.hid hx
      clear hx cn cb fn hb hc0 hf0
      gi_wp2
      have hz : ¬ ((w.heap.size = nb ∨ w.heap.size = bb) ∨ w.heap.size = w2.heap.size ∨ w.heap.size = w2.heap.size + 1) := by omega
      refine ⟨.setCell _ hz _, ?_, ?_, ?_⟩
      · rw [World.cell?_setCell_same' _ _ _ (by rw [h1]; rfl)]; simp; omega
      · rw [World.frozen?_setCell]; exact h2
      · exact h3.setCell (Nat.le_refl _) _
    case done =>
      rintro W ⟨h1, h2, h3⟩ hK
      clear cn cb fn hb hc0 hf0
      go_wp2
      refine ret_mark hK (results_tmp rfl _ _ _) ⟨?_, Below.putObj h3 (by omega) _⟩
      exact ret_i (by unfold Nu.places; rw [hs.out])
    case stop =>
      rintro c pre W _ hh _
      exact hh.elim
end Go.Proofs.Ytldhhhmihfcalaa

/- A number's decimals by the document, over any memory. Condition: the number fits its kind. -/
namespace Go.Proofs.Ytldhhhmihfcalaa
open Go.RowKit
set_option linter.unusedVariables false

theorem strOfNums_append (xs ys : List Int) : strOfNums (xs ++ ys) = strOfNums xs ++ strOfNums ys := by
  apply ByteArray.ext
  simp [strOfNums]
/-- the decimals of a number, from the last one on, and its sign -/
def Nu.backV (n : Int) : List Int := (Nu.dig 10 n.natAbs).map (48 + ·) ++ (if n < 0 then [45] else [])
def Nu.decV (n : Int) : List Int := (Nu.backV n).reverse
theorem Nu.decV_pos {n : Int} (h0 : 0 ≤ n) (h : n < 10) : Nu.decV n = [48 + n] := by
  unfold Nu.decV Nu.backV
  rw [Nu.dig_last (by omega), if_neg (by omega), show (n.natAbs : Int) % 10 = n by omega]; rfl
theorem Nu.decV_neg {n : Int} (h0 : n < 0) (h : -10 < n) : Nu.decV n = [45] ++ [48 + -n] := by
  unfold Nu.decV Nu.backV
  rw [Nu.dig_last (by omega), if_pos h0, show (n.natAbs : Int) % 10 = -n by omega]; rfl
theorem Nu.decV_more {n q r : Int} (h : 10 ≤ n.natAbs) (hq : (q.natAbs : Int) = n.natAbs / 10) (hs : q < 0 ↔ n < 0) (hr : (n.natAbs : Int) % 10 = r) : Nu.decV n = Nu.decV q ++ [48 + r] := by
  unfold Nu.decV Nu.backV
  rw [Nu.dig_more (by omega) (show (10 : Int) ≤ n.natAbs by omega), ← hq, hr]
  by_cases h0 : n < 0
  · rw [if_pos h0, if_pos (hs.2 h0)]; simp
  · rw [if_neg h0, if_neg (fun e => h0 (hs.1 e))]; simp
theorem Nu.conv_one (W : World) (x : Int) : (convert 48 9 (.slice (some ⟨W.heap.size, 0, none⟩) 1 1)).run Try.prog (W.alloc (.cells #[.int .u8 x] 5)) = .ok (.string (strOfNums [x])) (W.alloc (.cells #[.int .u8 x] 5)) :=
  run_convert_bytes_arg (P := Try.prog) _ 48 5 Try.underlying48 Try.underlying5 W.heap.size 0 1 1 [x] rfl (by
    intro i hi
    obtain rfl : i = 0 := by omega
    simp [go_sem]) 9 Try.underlying9
theorem ret_s {a b : ByteArray} (h : a = b) : Ending.returned (.string a) = .returned (.string b) := by rw [h]

theorem Nu.decV_len {n : Int} (hn : Nu.I n) : (Nu.decV n).length ≤ 66 := by
  have := Nu.dig_len64 (b := 10) (n := n.natAbs) (by omega) (by unfold Nu.I at hn; omega)
  unfold Nu.decV Nu.backV
  split <;> simp <;> omega

set_option maxRecDepth 100000 in
set_option maxHeartbeats 2000000 in
theorem refDecimal_go (k : Nat) : ∀ (n : Int), n.natAbs ≤ k → Nu.I n → ∀ w : World,
    Calls Try.prog 33 #[.int .i64 n] w fun e w' => e = .returned (.string (strOfNums (Nu.decV n))) ∧ Below w.heap.size w w' := by
  induction k using Nat.strongRecOn with
  | ind k ih =>
  intro n hk hn w
  have hI := hn
  obtain ⟨n1, n2⟩ := hn
  have hc := fun x => Nu.conv_one w x
  by_cases h0 : n < 0
  · by_cases hb : -10 < n
    · have X := Lib.hid (Nu.decV_neg h0 hb)
      have hm : n.tmod 10 = n := by
        have : (-n).tmod 10 = (-n) % 10 := Int.tmod_eq_emod_of_nonneg (by omega)
        rw [Int.neg_tmod] at this; omega
      have hcx := hc (48 + -n)
      have hL : (⟨#[45]⟩ : ByteArray).size + (strOfNums [48 + -n]).size ≤ 9223372036854775807 := by rw [strOfNums_size]; simp [ByteArray.size]
      clear hc ih
      go_enter Try.func33, Try.ntmps33
      go_wp2
      go_ret
      exact ⟨ret_s (by rw [X.out, strOfNums_append]; rfl), (Below.refl _ _).alloc (Nat.le_refl _) _⟩
    · obtain ⟨r, hr⟩ : ∃ r, (-n) % 10 = r := ⟨_, rfl⟩
      obtain ⟨q, hq⟩ : ∃ q, -((-n) / 10) = q := ⟨_, rfl⟩
      have hm : n.tmod 10 = -r := by
        have : (-n).tmod 10 = (-n) % 10 := Int.tmod_eq_emod_of_nonneg (by omega)
        rw [Int.neg_tmod] at this; omega
      have hd : n.tdiv 10 = q := by
        have : (-n).tdiv 10 = (-n) / 10 := Int.tdiv_eq_ediv_of_nonneg (by omega)
        rw [Int.neg_tdiv] at this; omega
      have X := Lib.hid (Nu.decV_more (n := n) (q := q) (r := r) (by omega) (by omega) (by omega) (by omega))
      have r0 : 0 ≤ r := by omega
      have r1 : r < 10 := by omega
      have q0 : -9223372036854775808 ≤ q := by omega
      have q1 : q < 0 := by omega
      have hL : (strOfNums (Nu.decV q)).size + (strOfNums [48 + r]).size ≤ 9223372036854775807 := by
        have := Nu.decV_len (n := q) (by unfold Nu.I; omega)
        rw [strOfNums_size, strOfNums_size]; simp; omega
      have hcx := hc (48 + r)
      have hrec := Lib.hid (ih q.natAbs (by omega) q (Nat.le_refl _) (by unfold Nu.I; omega))
      have hc48 := hc 48
      clear hc ih hq hr
      by_cases hz : r = 0
      · subst hz
        have hm' : n.tmod 10 = 0 := by omega
        have hL' : (strOfNums (Nu.decV q)).size + (strOfNums [48]).size ≤ 9223372036854775807 := hL
        clear hm hcx hL
        go_enter Try.func33, Try.ntmps33
        go_wp2_with (go_at_call 33; refine (hrec.out _).mono ?_; rintro e w1 ⟨rfl, hb1⟩)
        go_ret
        exact ⟨ret_s (by rw [X.out, strOfNums_append]; rfl), ((Below.refl _ _).alloc (Nat.le_refl _) _).trans (hb1.mono (by simp))⟩
      · have rp : 0 < r := by omega
        clear hz
        go_enter Try.func33, Try.ntmps33
        go_wp2_with (go_at_call 33; refine (hrec.out _).mono ?_; rintro e w1 ⟨rfl, hb1⟩)
        go_ret
        exact ⟨ret_s (by rw [X.out, strOfNums_append]), ((Below.refl _ _).alloc (Nat.le_refl _) _).trans (hb1.mono (by simp))⟩
  · have hm : n.tmod 10 = n % 10 := Int.tmod_eq_emod_of_nonneg (by omega)
    have r0 : 0 ≤ n % 10 := by omega
    have r1 : n % 10 < 10 := by omega
    have p0 : 0 ≤ n := by omega
    by_cases hb : n < 10
    · have X := Lib.hid (show Nu.decV n = [48 + n % 10] by rw [Nu.decV_pos p0 hb, show n % 10 = n by omega])
      have hcx := hc (48 + n % 10)
      clear hc hm
      go_enter Try.func33, Try.ntmps33
      go_wp2
      go_ret
      exact ⟨ret_s (by rw [X.out]), (Below.refl _ _).alloc (Nat.le_refl _) _⟩
    · have X := Lib.hid (Nu.decV_more (n := n) (q := n / 10) (r := n % 10) (by omega) (by omega) (by omega) (by omega))
      have hL : (strOfNums (Nu.decV (n / 10))).size + (strOfNums [48 + n % 10]).size ≤ 9223372036854775807 := by
        have := Nu.decV_len (n := n / 10) (by unfold Nu.I; omega)
        rw [strOfNums_size, strOfNums_size]; simp; omega
      have hcx := hc (48 + n % 10)
      have hrec := Lib.hid (ih (n / 10).natAbs (by omega) (n / 10) (Nat.le_refl _) (by unfold Nu.I; omega))
      clear hc hm ih
      go_enter Try.func33, Try.ntmps33
      go_wp2_with (go_at_call 33; refine (hrec.out _).mono ?_; rintro e w1 ⟨rfl, hb1⟩)
      go_ret
      exact ⟨ret_s (by rw [X.out, strOfNums_append]), ((Below.refl _ _).alloc (Nat.le_refl _) _).trans (hb1.mono (by simp))⟩
theorem refDecimal_any (n : Int) (hn : Nu.I n) (w : World) :
    Calls Try.prog 33 #[.int .i64 n] w fun e w' => e = .returned (.string (strOfNums (Nu.decV n))) ∧ Below w.heap.size w w' :=
  refDecimal_go _ n (Nat.le_refl _) hn w
end Go.Proofs.Ytldhhhmihfcalaa

/- Plain facts on pixels as numbers: which numbers are pixels, which samples they have, and what is made of them. No condition. -/
namespace Go.Proofs.Ytldhhhmihfcalaa
open Go.RowKit
namespace Pq
namespace Px

def hiP (p : Int) : Int := p / 281474976710656
def loP (p : Int) : Int := p % 281474976710656
/-- a pixel's samples -/
def smp (p : Int) : List Int :=
  if hiP p = 3 then [loP p / 4294967296, loP p / 65536 % 65536, loP p % 65536]
  else if hiP p = 1 ∧ loP p < 65536 then [loP p] else []
def Is3 (p a b c : Int) : Prop := p = 844424930131968 + a * 4294967296 + b * 65536 + c ∧ 0 ≤ a ∧ a ≤ 65535 ∧ 0 ≤ b ∧ b ≤ 65535 ∧ 0 ≤ c ∧ c ≤ 65535
def Is1 (p a : Int) : Prop := p = 281474976710656 + a ∧ 0 ≤ a ∧ a ≤ 65535
def Is0 (p : Int) : Prop := ¬ hiP p = 3 ∧ ¬ (hiP p = 1 ∧ loP p < 65536)
/-- a number fits a pixel's kind -/
def U (p : Int) : Prop := 0 ≤ p ∧ p ≤ 18446744073709551615
def I (n : Int) : Prop := -9223372036854775808 ≤ n ∧ n ≤ 9223372036854775807

theorem tri {p : Int} (h : U p) : (∃ a b c, Is3 p a b c) ∨ (∃ a, Is1 p a) ∨ Is0 p := by
  obtain ⟨h0, h1⟩ := h
  by_cases h3 : hiP p = 3
  · refine .inl ⟨loP p / 4294967296, loP p / 65536 % 65536, loP p % 65536, ?_⟩
    unfold hiP at h3; unfold Is3 loP; omega
  · by_cases h2 : hiP p = 1 ∧ loP p < 65536
    · refine .inr (.inl ⟨loP p, ?_⟩)
      unfold hiP loP at h2; unfold Is1 loP; omega
    · exact .inr (.inr ⟨h3, h2⟩)
theorem smp3 {p a b c : Int} (h : Is3 p a b c) : smp p = [a, b, c] := by
  obtain ⟨h0, h⟩ := h
  have e : hiP p = 3 := by unfold hiP; omega
  have e1 : loP p / 4294967296 = a := by unfold loP; omega
  have e2 : loP p / 65536 % 65536 = b := by unfold loP; omega
  have e3 : loP p % 65536 = c := by unfold loP; omega
  unfold smp; rw [if_pos e, e1, e2, e3]
theorem smp1 {p a : Int} (h : Is1 p a) : smp p = [a] := by
  obtain ⟨h0, h⟩ := h
  have e : ¬ hiP p = 3 := by unfold hiP; omega
  have e1 : loP p = a := by unfold loP; omega
  have e2 : hiP p = 1 ∧ loP p < 65536 := by unfold hiP loP; omega
  unfold smp; rw [if_neg e, if_pos e2, e1]
theorem smp0 {p : Int} (h : Is0 p) : smp p = [] := by
  unfold smp; rw [if_neg h.1, if_neg h.2]

theorem and16 (x : Int) (h0 : 0 ≤ x) (h1 : x ≤ 18446744073709551615) : bits .and .u64 x 65535 = x % 65536 := by
  rw [u64_and x 65535 h0 (by omega) (by omega) (by omega)]
  have e : (65535 : Int).toNat = 2 ^ 16 - 1 := by decide
  rw [e, Nat.and_two_pow_sub_one_eq_mod]
  omega
theorem or16 (x s : Int) (h0 : 0 ≤ x) (h1 : x < 281474976710656) (h2 : 0 ≤ s) (h3 : s < 65536) : bits .or .u64 (x * 65536) s = x * 65536 + s := by
  rw [u64_or (x * 65536) s (by omega) (by omega) h2 (by omega)]
  obtain ⟨X, rfl⟩ := Int.eq_ofNat_of_zero_le h0
  obtain ⟨S, rfl⟩ := Int.eq_ofNat_of_zero_le h2
  have e1 : ((X : Int) * 65536).toNat = 2 ^ 16 * X := by omega
  rw [e1, Int.toNat_natCast, ← Nat.two_pow_add_eq_or_of_lt (by omega : S < 2 ^ 16)]
  omega
theorem or48 (n s : Int) (h0 : 0 ≤ n) (h1 : n < 65536) (h2 : 0 ≤ s) (h3 : s < 281474976710656) : bits .or .u64 (n * 281474976710656) s = n * 281474976710656 + s := by
  rw [u64_or (n * 281474976710656) s (by omega) (by omega) h2 (by omega)]
  obtain ⟨X, rfl⟩ := Int.eq_ofNat_of_zero_le h0
  obtain ⟨S, rfl⟩ := Int.eq_ofNat_of_zero_le h2
  have e1 : ((X : Int) * 281474976710656).toNat = 2 ^ 48 * X := by omega
  rw [e1, Int.toNat_natCast, ← Nat.two_pow_add_eq_or_of_lt (by omega : S < 2 ^ 48)]
  omega
theorem or0 (s : Int) (h2 : 0 ≤ s) (h3 : s < 65536) : bits .or .u64 0 s = s := by
  have := or16 0 s (by omega) (by omega) h2 h3; simpa using this

theorem u64w (n : Int) (h0 : 0 ≤ n) (h1 : n ≤ 18446744073709551615) : IntKind.u64.wrap n = n := IntWalk.u64_in n ⟨h0, h1⟩
theorem join3v (a b c : Int) (ha0 : 0 ≤ a) (ha1 : a ≤ 65535) (hb0 : 0 ≤ b) (hb1 : b ≤ 65535) (hc0 : 0 ≤ c) (hc1 : c ≤ 65535) :
    bits .or .u64 844424930131968 (bits .or .u64 (IntKind.u64.wrap (bits .or .u64 (IntKind.u64.wrap (bits .or .u64 0 a * 65536)) b * 65536)) c) = 844424930131968 + a * 4294967296 + b * 65536 + c := by
  have e1 := or0 a ha0 (by omega)
  have e2 := u64w (a * 65536) (by omega) (by omega)
  have e3 := or16 a b ha0 (by omega) hb0 (by omega)
  have e4 := u64w ((a * 65536 + b) * 65536) (by omega) (by omega)
  have e5 := or16 (a * 65536 + b) c (by omega) (by omega) hc0 (by omega)
  have e6 := or48 3 ((a * 65536 + b) * 65536 + c) (by omega) (by omega) (by omega) (by omega)
  have e7 : (3 : Int) * 281474976710656 = 844424930131968 := rfl
  rw [e1, e2, e3, e4, e5, ← e7, e6]; omega
theorem join1v (a : Int) (ha0 : 0 ≤ a) (ha1 : a ≤ 65535) : bits .or .u64 281474976710656 (bits .or .u64 0 a) = 281474976710656 + a := by
  have e1 := or0 a ha0 (by omega)
  have e6 := or48 1 a (by omega) (by omega) (by omega) (by omega)
  have e7 : (1 : Int) * 281474976710656 = 281474976710656 := rfl
  rw [e1, ← e7, e6]

/-- what the document makes of samples -/
def okS (s : Int) : Bool := decide (0 ≤ s) && decide (s ≤ 65535)
def packV : List Int → Int × Int
  | [a] => if okS a then (281474976710656 + a, 0) else (0, 4)
  | [a, b, c] => if okS a && okS b && okS c then (844424930131968 + a * 4294967296 + b * 65536 + c, 0) else (0, 4)
  | _ => (0, 1)
theorem packV3_bad {x y z : Int} (h : x < 0 ∨ 65535 < x ∨ y < 0 ∨ 65535 < y ∨ z < 0 ∨ 65535 < z) : packV [x, y, z] = (0, 4) := by
  show (if (okS x && okS y && okS z) = true then _ else _) = _
  rw [if_neg]; simp [okS]; omega
theorem packV3 {x y z : Int} (hx0 : 0 ≤ x) (hx1 : x ≤ 65535) (hy0 : 0 ≤ y) (hy1 : y ≤ 65535) (hz0 : 0 ≤ z) (hz1 : z ≤ 65535) : packV [x, y, z] = (844424930131968 + x * 4294967296 + y * 65536 + z, 0) := by
  simp [packV, okS, hx0, hx1, hy0, hy1, hz0, hz1]
theorem packV3_badS {x y z : Int} (h : okS x = false ∨ okS y = false ∨ okS z = false) : packV [x, y, z] = (0, 4) := by
  show (if (okS x && okS y && okS z) = true then _ else _) = _
  rw [if_neg]; rcases h with h | h | h <;> simp [h]
theorem packV1_badS {x : Int} (h : okS x = false) : packV [x] = (0, 4) := by
  show (if okS x = true then _ else _) = _
  rw [if_neg]; simp [h]
theorem okS_of {x : Int} (h : okS x = true) : 0 ≤ x ∧ x ≤ 65535 := by simpa [okS] using h
theorem packV1_bad {x : Int} (h : x < 0 ∨ 65535 < x) : packV [x] = (0, 4) := by
  show (if okS x = true then _ else _) = _
  rw [if_neg]; simp [okS]; omega
theorem packV1 {x : Int} (hx0 : 0 ≤ x) (hx1 : x ≤ 65535) : packV [x] = (281474976710656 + x, 0) := by
  simp [packV, okS, hx0, hx1]
theorem packV_len {zs : List Int} (h1 : ¬ zs.length = 1) (h3 : ¬ zs.length = 3) : packV zs = (0, 1) := by
  match zs with
  | [] => rfl
  | [_] => simp at h1
  | [_, _] => rfl
  | [_, _, _] => simp at h3
  | _ :: _ :: _ :: _ :: _ => rfl
def mayV (p : Int) : Bool := !(smp p).isEmpty
def formatV (c m : Int) : Bool := (c == 1 || c == 3) && (decide (1 ≤ m) && decide (m ≤ 65535))
def fitsV (p c m : Int) : Bool := formatV c m && ((smp p).length == c.toNat && (smp p).all fun s => decide (s ≤ m))
def grayV (p : Int) : Int × Int := match smp p with
  | [_] => (p, 0)
  | [a, b, c] => (281474976710656 + (299 * a + 587 * b + 114 * c + 500) / 1000, 0)
  | _ => (0, 1)
def turnedV (p c m : Int) : Int × Int := if fitsV p c m then packV ((smp p).map fun s => m - s) else (0, 1)
def okM (m : Int) : Bool := decide (1 ≤ m) && decide (m ≤ 65535)
def scaledV (p a b : Int) : Int × Int :=
  if okM a && okM b && (!(smp p).isEmpty && (smp p).all fun s => decide (s ≤ a)) then packV ((smp p).map fun s => (s * b + a / 2) / a) else (0, 1)
def aroundV (n most : Int) : Int := (if n < 0 then -(n + 1) else n) % most
def formC (c : Int) : Int := if c % 2 = 0 then 1 else 3
def formM (m : Int) : Int := 1 + aroundV m 65535
def goodL (zs : List Int) (m : Int) : Nat → List Int
  | 0 => []
  | k + 1 => (match zs with | [] => 0 | z :: _ => aroundV z (m + 1)) :: goodL zs.tail m k
def goodV (zs : List Int) (c m : Int) : Int := (packV (goodL zs m c.toNat)).1

theorem fitsV3 {p a b d : Int} (h : Is3 p a b d) (m : Int) : fitsV p 3 m = (formatV 3 m && decide (max (max a b) d ≤ m)) := by
  unfold fitsV; rw [smp3 h]
  by_cases h1 : a ≤ m <;> by_cases h2 : b ≤ m <;> by_cases h3 : d ≤ m <;> simp [h1, h2, h3] <;> omega
theorem fitsV1 {p a : Int} (h : Is1 p a) (m : Int) : fitsV p 1 m = (formatV 1 m && decide (a ≤ m)) := by
  unfold fitsV; rw [smp1 h]
  by_cases h1 : a ≤ m <;> simp [h1]
theorem fitsV_bad {p c m : Int} (h : formatV c m = false) : fitsV p c m = false := by unfold fitsV; rw [h]; rfl
theorem formatC {c m : Int} (h : formatV c m = true) : c = 1 ∨ c = 3 := by
  simp [formatV] at h; exact h.1
theorem formatM {c m : Int} (h : formatV c m = true) : 1 ≤ m ∧ m ≤ 65535 := by
  simp [formatV] at h; exact h.2
theorem fitsV_len {p c m : Int} (h : ((smp p).length : Int) ≠ c) : fitsV p c m = false := by
  cases hf : formatV c m
  · exact fitsV_bad hf
  · unfold fitsV
    have := formatC hf
    rw [show ((smp p).length == c.toNat) = false by rw [beq_eq_false_iff_ne]; omega]; simp
theorem around_lt (n most : Int) (h : 0 < most) : 0 ≤ aroundV n most ∧ aroundV n most < most := by
  unfold aroundV; exact ⟨Int.emod_nonneg _ (by omega), Int.emod_lt_of_pos _ h⟩
end Px
end Pq
end Go.Proofs.Ytldhhhmihfcalaa

/- The document's number made to lie below another one, over any memory. Condition: numbers fit their kinds. -/
namespace Go.Proofs.Ytldhhhmihfcalaa
open Go.RowKit
set_option linter.unusedVariables false
namespace Ar
def around (n most : Int) : Int := (if n < 0 then -(n + 1) else n) % most
theorem around_lt (n most : Int) (h : 0 < most) : 0 ≤ around n most ∧ around n most < most := by
  unfold around; exact ⟨Int.emod_nonneg _ (by omega), Int.emod_lt_of_pos _ h⟩
theorem ret_i {k : IntKind} {a b : Int} (h : a = b) : Ending.returned (.int k a) = .returned (.int k b) := by rw [h]
end Ar
theorem aroundOf (n m : Int) (h1 : -9223372036854775808 ≤ n) (h2 : n ≤ 9223372036854775807) (hm : 0 < m) (hm' : m ≤ 9223372036854775807) (w : World) :
    Calls Try.prog 28 #[.int .i64 n, .int .i64 m] w fun e w' => e = .returned (.int .i64 (Ar.around n m)) ∧ w = w' := by
  have hz : (m == 0) = false := by simp; omega
  by_cases h : n < 0
  · have X := Lib.hid (show -((n + 1).tmod m) = Ar.around n m by unfold Ar.around; rw [if_pos h, ← Int.neg_tmod, Int.tmod_eq_emod_of_nonneg (by omega)])
    have e1 : 0 ≤ -(n + 1) := by omega
    go_enter Try.func28, Try.ntmps28
    go_wp2
    go_ret
    exact ⟨Ar.ret_i X.out, rfl⟩
  · have X := Lib.hid (show n % m = Ar.around n m by unfold Ar.around; rw [if_neg h])
    go_enter Try.func28, Try.ntmps28
    go_wp2
    go_ret
    exact ⟨Ar.ret_i X.out, rfl⟩
end Go.Proofs.Ytldhhhmihfcalaa

/- Steps of a number, sums and products, over any memory, of num and of the document's own answer. Condition: numbers fit their kinds. -/
namespace Go.Proofs.Ytldhhhmihfcalaa
open Go.RowKit
set_option linter.unusedVariables false

def Nu.limit (n : Int) : Int := Ar.around n 4611686018427387904
theorem Nu.limit_lt (n : Int) : 0 ≤ Nu.limit n ∧ Nu.limit n ≤ 4611686018427387903 := by have := Ar.around_lt n 4611686018427387904 (by omega); unfold Nu.limit; omega
def Nu.stepV (n c most : Int) : Int × Int :=
  if c < 48 ∨ 57 < c then (0, 3) else if most / 10 < n ∨ (n = most / 10 ∧ most % 10 < c - 48) then (0, 4) else (10 * n + (c - 48), 0)
theorem ret_step {a b : Int} {t : Int × Int} (h : t = (a, b)) : Ending.returned (.tuple #[.int .i64 a, .int .i64 b]) = .returned (.tuple #[.int .i64 t.1, .int .i64 t.2]) := by rw [h]
def StepR (n c most : Int) (w : World) (e : Ending) (w' : World) : Prop := e = .returned (.tuple #[.int .i64 (Nu.stepV n c most).1, .int .i64 (Nu.stepV n c most).2]) ∧ w = w'

theorem step_any (n c most : Int) (n0 : 0 ≤ n) (n1 : n ≤ most) (m1 : most ≤ 4611686018427387903) (c0 : 0 ≤ c) (c1 : c ≤ 255) (w : World) :
    Calls Try.prog 125 #[.int .i64 n, .int .u8 c, .int .i64 most] w (StepR n c most w) := by
  by_cases h1 : c < 48
  · have X := Lib.hid (show Nu.stepV n c most = (0, 3) by unfold Nu.stepV; rw [if_pos (.inl h1)])
    go_enter Try.func125, Try.ntmps125
    go_wp2
    go_ret2
    exact ⟨ret_step X.out, rfl⟩
  by_cases h2 : 57 < c
  · have X := Lib.hid (show Nu.stepV n c most = (0, 3) by unfold Nu.stepV; rw [if_pos (.inr h2)])
    go_enter Try.func125, Try.ntmps125
    go_wp2
    go_ret2
    exact ⟨ret_step X.out, rfl⟩
  have hs : ¬ (c < 48 ∨ 57 < c) := by omega
  by_cases h3 : most / 10 < n
  · have X := Lib.hid (show Nu.stepV n c most = (0, 4) by unfold Nu.stepV; rw [if_neg hs, if_pos (.inl h3)])
    clear hs
    go_enter Try.func125, Try.ntmps125
    go_wp2
    go_ret2
    exact ⟨ret_step X.out, rfl⟩
  by_cases h4 : n = most / 10
  · by_cases h5 : most % 10 < c - 48
    · have X := Lib.hid (show Nu.stepV n c most = (0, 4) by unfold Nu.stepV; rw [if_neg hs, if_pos (.inr ⟨h4, h5⟩)])
      have k4 : (n == most / 10) = true := by simp [h4]
      clear hs h4
      go_enter Try.func125, Try.ntmps125
      go_wp2
      go_ret2
      exact ⟨ret_step X.out, rfl⟩
    · have X := Lib.hid (show Nu.stepV n c most = (10 * n + (c - 48), 0) by unfold Nu.stepV; rw [if_neg hs, if_neg (by omega)])
      have k4 : (n == most / 10) = true := by simp [h4]
      have k5 : decide (most % 10 < c - 48) = false := by simp; omega
      clear hs h4
      go_enter Try.func125, Try.ntmps125
      go_wp2
      go_ret2
      exact ⟨ret_step X.out, rfl⟩
  · have X := Lib.hid (show Nu.stepV n c most = (10 * n + (c - 48), 0) by unfold Nu.stepV; rw [if_neg hs, if_neg (by omega)])
    have k4 : (n == most / 10) = false := by simp [h4]
    clear hs h4
    go_enter Try.func125, Try.ntmps125
    go_wp2
    go_ret2
    exact ⟨ret_step X.out, rfl⟩

theorem refStep_any (n c most : Int) (n0 : 0 ≤ n) (n1 : n ≤ most) (m1 : most ≤ 4611686018427387903) (c0 : 0 ≤ c) (c1 : c ≤ 255) (w : World) :
    Calls Try.prog 80 #[.int .i64 n, .int .u8 c, .int .i64 most] w (StepR n c most w) := by
  by_cases h1 : c < 48
  · have X := Lib.hid (show Nu.stepV n c most = (0, 3) by unfold Nu.stepV; rw [if_pos (.inl h1)])
    go_enter Try.func80, Try.ntmps80
    go_wp2
    go_ret2
    exact ⟨ret_step X.out, rfl⟩
  by_cases h2 : 57 < c
  · have X := Lib.hid (show Nu.stepV n c most = (0, 3) by unfold Nu.stepV; rw [if_pos (.inr h2)])
    go_enter Try.func80, Try.ntmps80
    go_wp2
    go_ret2
    exact ⟨ret_step X.out, rfl⟩
  have hs : ¬ (c < 48 ∨ 57 < c) := by omega
  by_cases h3 : most / 10 < n
  · have X := Lib.hid (show Nu.stepV n c most = (0, 4) by unfold Nu.stepV; rw [if_neg hs, if_pos (.inl h3)])
    clear hs
    go_enter Try.func80, Try.ntmps80
    go_wp2
    go_ret2
    exact ⟨ret_step X.out, rfl⟩
  by_cases h4 : n = most / 10
  · by_cases h5 : most % 10 < c - 48
    · have X := Lib.hid (show Nu.stepV n c most = (0, 4) by unfold Nu.stepV; rw [if_neg hs, if_pos (.inr ⟨h4, h5⟩)])
      have k4 : (n == most / 10) = true := by simp [h4]
      clear hs h4
      go_enter Try.func80, Try.ntmps80
      go_wp2
      go_ret2
      exact ⟨ret_step X.out, rfl⟩
    · have X := Lib.hid (show Nu.stepV n c most = (n * 10 + (c - 48), 0) by unfold Nu.stepV; rw [if_neg hs, if_neg (by omega), Int.mul_comm])
      have k4 : (n == most / 10) = true := by simp [h4]
      have k5 : decide (most % 10 < c - 48) = false := by simp; omega
      clear hs h4
      go_enter Try.func80, Try.ntmps80
      go_wp2
      go_ret2
      exact ⟨ret_step X.out, rfl⟩
  · have X := Lib.hid (show Nu.stepV n c most = (n * 10 + (c - 48), 0) by unfold Nu.stepV; rw [if_neg hs, if_neg (by omega), Int.mul_comm])
    have k4 : (n == most / 10) = false := by simp [h4]
    clear hs h4
    go_enter Try.func80, Try.ntmps80
    go_wp2
    go_ret2
    exact ⟨ret_step X.out, rfl⟩
end Go.Proofs.Ytldhhhmihfcalaa

/- The bytes of a text, a step of a number told as two numbers. Condition: numbers fit their kinds. -/
namespace Go.Proofs.Ytldhhhmihfcalaa
open Go.RowKit
set_option linter.unusedVariables false

/-- the bytes of a text, as numbers -/
def bytesOf (s : ByteArray) : List Int := s.data.toList.map fun c => (c.toNat : Int)
theorem bytesOf_length (s : ByteArray) : (bytesOf s).length = s.size := by simp [bytesOf]
theorem bytesOf_drop (s : ByteArray) (k : Nat) (h : k < s.size) : (bytesOf s).drop k = (s[k].toNat : Int) :: (bytesOf s).drop (k + 1) := by
  rw [List.drop_eq_getElem_cons (by rw [bytesOf_length]; exact h)]
  simp [bytesOf, ByteArray.getElem_eq_getElem_data]
theorem Nu.stepV_le (n c most : Int) (n0 : 0 ≤ n) (n1 : n ≤ most) (h : (Nu.stepV n c most).2 = 0) : 0 ≤ (Nu.stepV n c most).1 ∧ (Nu.stepV n c most).1 ≤ most := by
  unfold Nu.stepV at *
  split at h
  · simp at h
  · split at h
    · simp at h
    · rename_i h1 h2
      rw [if_neg h1, if_neg h2]
      simp only []
      omega
/-- Step, told as a number and whether it is one -/
theorem step_two (n c most : Int) (n0 : 0 ≤ n) (n1 : n ≤ most) (m1 : most ≤ 4611686018427387903) (c0 : 0 ≤ c) (c1 : c ≤ 255) (m e : Int) (h : Nu.stepV n c most = (m, e)) (w : World) :
    Calls Try.prog 125 #[.int .i64 n, .int .u8 c, .int .i64 most] w fun r w' => r = .returned (.tuple #[.int .i64 m, .int .i64 e]) ∧ w = w' := by
  refine (step_any n c most n0 n1 m1 c0 c1 w).mono ?_
  rintro r w' ⟨rfl, rfl⟩
  rw [h]; exact ⟨rfl, rfl⟩

theorem refStep_two (n c most : Int) (n0 : 0 ≤ n) (n1 : n ≤ most) (m1 : most ≤ 4611686018427387903) (c0 : 0 ≤ c) (c1 : c ≤ 255) (m e : Int) (h : Nu.stepV n c most = (m, e)) (w : World) :
    Calls Try.prog 80 #[.int .i64 n, .int .u8 c, .int .i64 most] w fun r w' => r = .returned (.tuple #[.int .i64 m, .int .i64 e]) ∧ w = w' := by
  refine (refStep_any n c most n0 n1 m1 c0 c1 w).mono ?_
  rintro r w' ⟨rfl, rfl⟩
  rw [h]; exact ⟨rfl, rfl⟩
theorem isEmpty_of {s : ByteArray} (h : s.size = 0) : s.toList.isEmpty = true := by
  rw [ByteArray.toList_eq, List.isEmpty_iff]; exact List.eq_nil_of_length_eq_zero (by simpa using h)
theorem not_empty_of {s : ByteArray} (h : s.size ≠ 0) : s.toList.isEmpty = false := by
  rw [ByteArray.toList_eq, List.isEmpty_eq_false_iff]; intro e; exact h (by have := congrArg List.length e; simpa using this)
def Nu.parseF (most : Int) : Int → List Int → Int × Int
  | n, [] => (n, 0)
  | n, c :: cs => if (Nu.stepV n c most).2 = 0 then Nu.parseF most (Nu.stepV n c most).1 cs else (0, (Nu.stepV n c most).2)
def Nu.parseV (l : List Int) (most : Int) : Int × Int := if l = [] then (0, 3) else Nu.parseF most 0 l
end Go.Proofs.Ytldhhhmihfcalaa

/- Plain facts on words of a header: a reader of a number as a plain function, all numbers of a text, what is left out. No condition. -/
namespace Go.Proofs.Ytldhhhmihfcalaa
open Go.RowKit
set_option linter.unusedVariables false
namespace Tk
def blank (c : Int) : Bool := decide (c = 32 ∨ (9 ≤ c ∧ c ≤ 13))
def line (c : Int) : Bool := decide (c = 10 ∨ c = 13)
/-- a reader: how far it is (0 ahead, 1 a remark ahead, 2 digits, 3 a remark behind, 4 over, 5 wrong), the number, the error, whether it took a digit -/
structure S where
  k : Nat
  n : Int
  e : Int
  bg : Bool
def new : S := ⟨0, 0, 9, false⟩
def put (m : Int) (s : S) (c : Int) : S :=
  if s.k = 4 ∨ s.k = 5 then s
  else if s.k = 1 then (if line c = true then ⟨0, s.n, s.e, s.bg⟩ else s)
  else if s.k = 3 then (if line c = true then ⟨4, s.n, 0, s.bg⟩ else s)
  else if c = 35 then ⟨s.k + 1, s.n, s.e, s.bg⟩
  else if blank c = true then (if s.k = 0 then s else ⟨4, s.n, 0, s.bg⟩)
  else if (Nu.stepV s.n c m).2 = 0 then ⟨2, (Nu.stepV s.n c m).1, s.e, true⟩
  else ⟨5, 0, (Nu.stepV s.n c m).2, s.bg⟩
def st (s : S) : Int := if s.k = 4 then 1 else if s.k = 5 then 2 else 0
def val (s : S) : Int × Int := if s.e = 0 then (s.n, 0) else (0, s.e)
def Good (m : Int) (s : S) : Prop :=
  s.k ≤ 5 ∧ 0 ≤ s.n ∧ s.n ≤ m ∧ (s.k ≤ 3 → s.e = 9) ∧ (s.k = 4 → s.e = 0) ∧ (s.k = 5 → (s.e = 3 ∨ s.e = 4)) ∧ (s.k ≤ 1 → s.n = 0 ∧ s.bg = false) ∧ (2 ≤ s.k → s.k ≤ 4 → s.bg = true)
theorem stepV_e (n c m : Int) : (Nu.stepV n c m).2 = 0 ∨ (Nu.stepV n c m).2 = 3 ∨ (Nu.stepV n c m).2 = 4 := by
  unfold Nu.stepV; split
  · exact .inr (.inl rfl)
  · split
    · exact .inr (.inr rfl)
    · exact .inl rfl
theorem good_new {m : Int} (h : 0 ≤ m) : Good m new := by unfold Good new; simp; exact h
theorem good_put {m : Int} {s : S} (h : Good m s) (c : Int) : Good m (put m s c) := by
  have H := h
  obtain ⟨h1, h2, h3, h4, h5, h6, h7, h8⟩ := h
  obtain ⟨k, n, e, bg⟩ := s
  simp only at h1 h2 h3 h4 h5 h6 h7 h8
  unfold put; simp only
  split
  · exact H
  rename_i hk
  split
  · rename_i hk1; subst hk1
    split
    · exact ⟨by simp, h2, h3, fun _ => h4 (by omega), fun h => absurd h (by simp), fun h => absurd h (by simp), fun _ => h7 (by omega), fun h => absurd h (by simp)⟩
    · exact H
  split
  · rename_i hk1 hk3; subst hk3
    split
    · exact ⟨by simp, h2, h3, fun h => absurd h (by simp), fun _ => rfl, fun h => absurd h (by simp), fun h => absurd h (by simp), fun _ _ => h8 (by omega) (by omega)⟩
    · exact H
  rename_i hk1 hk3
  split
  · refine ⟨by simp; omega, h2, h3, fun _ => h4 (by omega), fun h => absurd h (by simp; omega), fun h => absurd h (by simp; omega), fun hh => h7 (by simp at hh; omega), fun hh _ => h8 (by simp at hh; omega) (by omega)⟩
  split
  · split
    · exact H
    · exact ⟨by simp, h2, h3, fun h => absurd h (by simp), fun _ => rfl, fun h => absurd h (by simp), fun h => absurd h (by simp), fun _ _ => h8 (by omega) (by omega)⟩
  split
  · rename_i he
    obtain ⟨g1, g2⟩ := Nu.stepV_le n c m h2 h3 he
    exact ⟨by simp, g1, g2, fun _ => h4 (by omega), fun h => absurd h (by simp), fun h => absurd h (by simp), fun h => absurd h (by simp), fun _ _ => rfl⟩
  · rename_i he
    exact ⟨by simp, by simp, by simp; omega, fun h => absurd h (by simp), fun h => absurd h (by simp), fun _ => (stepV_e n c m).resolve_left he, fun h => absurd h (by simp), fun _ h => absurd h (by simp)⟩
/-- all numbers of a text -/
def allF (m : Int) : S → Nat → Int → List Int → List Int → List Int × Int × Int
  | s, i, u, acc, [] => (acc, u, if s.bg = true then 6 else 0)
  | s, i, u, acc, c :: cs =>
    if (put m s c).k = 5 then (acc, u, (put m s c).e)
    else if (put m s c).k = 4 then allF m new (i + 1) ((i : Int) + 1) (acc ++ [(put m s c).n]) cs
    else allF m (put m s c) (i + 1) u acc cs
def allV (l : List Int) (m : Int) : List Int × Int × Int := allF m new 0 0 [] l
/-- how many bytes are left out -/
def skipF : Bool → Nat → List Int → Int
  | _, i, [] => i
  | true, i, c :: cs => skipF (!line c) (i + 1) cs
  | false, i, c :: cs => if c = 35 then skipF true (i + 1) cs else if blank c = true then skipF false (i + 1) cs else i
def skipV (l : List Int) : Int := skipF false 0 l
end Tk
end Go.Proofs.Ytldhhhmihfcalaa

/- Plain facts on what an image begins with: a reader of a head as a plain function, the head that a text begins with. No condition. -/
namespace Go.Proofs.Ytldhhhmihfcalaa
open Go.RowKit
set_option linter.unusedVariables false
namespace Hd
/-- brought to where it may be: from 1 to hi -/
def lim (n hi : Int) : Int := if n < 1 then 1 else if hi < n then hi else n
theorem lim_at {n hi : Int} (h : 1 ≤ hi) : 1 ≤ lim n hi ∧ lim n hi ≤ hi := by
  unfold lim; split
  · omega
  · split <;> omega
/-- the greatest numbers -/
structure L where
  m0 : Int
  m1 : Int
  m2 : Int
def L.at (l : L) (i : Nat) : Int := if i = 0 then l.m0 else if i = 1 then l.m1 else l.m2
def L.Ok (l : L) : Prop := (1 ≤ l.m0 ∧ l.m0 ≤ 65536) ∧ (1 ≤ l.m1 ∧ l.m1 ≤ 65536) ∧ (1 ≤ l.m2 ∧ l.m2 ≤ 65536)
theorem L.at_ok {l : L} (h : l.Ok) (i : Nat) : 1 ≤ l.at i ∧ l.at i ≤ 65536 := by
  obtain ⟨h1, h2, h3⟩ := h
  unfold L.at; split
  · exact h1
  · split
    · exact h2
    · exact h3
def limits (w h m : Int) : L := ⟨lim w 4096, lim h 65536, lim m 65535⟩
theorem limits_ok (w h m : Int) : (limits w h m).Ok := by
  have a := lim_at (n := w) (hi := 4096) (by omega)
  have b := lim_at (n := h) (hi := 65536) (by omega)
  have c := lim_at (n := m) (hi := 65535) (by omega)
  exact ⟨⟨a.1, by simp only [limits]; omega⟩, ⟨b.1, b.2⟩, ⟨c.1, by simp only [limits]; omega⟩⟩
/-- a reader: how far it is (0 ahead, 1 behind P, 2 behind the kind, 3 in a number, 4 over, 5 wrong), the kind, how many numbers are over, these, the number's reader, the error -/
structure S where
  p : Nat
  kd : Int
  i : Nat
  v0 : Int
  v1 : Int
  v2 : Int
  t : Tk.S
  e : Int
/-- a head -/
structure H where
  kd : Int
  w : Int
  h : Int
  m : Int
def none : H := ⟨0, 0, 0, 0⟩
def new : S := ⟨0, 0, 0, 0, 0, 1, Tk.new, 0⟩
def bits (kd : Int) : Bool := decide (kd = 1 ∨ kd = 4)
def many (kd : Int) : Nat := if bits kd = true then 2 else 3
def S.wrong (s : S) (e : Int) : S := ⟨5, s.kd, s.i, s.v0, s.v1, s.v2, s.t, e⟩
def S.tok (s : S) (t : Tk.S) : S := ⟨3, s.kd, s.i, s.v0, s.v1, s.v2, t, s.e⟩
/-- a number more -/
def S.num (s : S) (n : Int) : S :=
  ⟨if s.i + 1 = many s.kd then 4 else 3, s.kd, s.i + 1, if s.i = 0 then n else s.v0, if s.i = 1 then n else s.v1, if 2 ≤ s.i then n else s.v2, Tk.new, s.e⟩
/-- what it is when its number's reader is where t says -/
def take (s : S) (t : Tk.S) : S :=
  if t.k = 5 then s.wrong t.e
  else if t.k = 4 then (if t.n = 0 then s.wrong 4 else s.num t.n)
  else s.tok t
def inNum (l : L) (s : S) (c : Int) : S := take s (Tk.put (l.at s.i) s.t c)
def put (l : L) (s : S) (c : Int) : S :=
  if s.p = 0 then (if c = 80 then ⟨1, s.kd, s.i, s.v0, s.v1, s.v2, s.t, s.e⟩ else s.wrong 2)
  else if s.p = 1 then (if 49 ≤ c ∧ c ≤ 54 then ⟨2, c - 48, s.i, s.v0, s.v1, s.v2, s.t, s.e⟩ else s.wrong 2)
  else if s.p = 2 then (if Tk.blank c = true ∨ c = 35 then inNum l s c else s.wrong 3)
  else if s.p = 3 then inNum l s c
  else s
def st (s : S) : Int := if s.p = 4 then 1 else if s.p = 5 then 2 else 0
def hd (s : S) : H := ⟨s.kd, s.v0, s.v1, s.v2⟩
/-- the head, and its error -/
def val (s : S) : H × Int := if s.p = 4 then (hd s, 0) else if s.p = 5 then (none, s.e) else (none, 9)
/-- told the rest of a text, i bytes in: the head, how many bytes it took, the error -/
def parseF (l : L) : S → Nat → List Int → H × Int × Int
  | s, i, [] => if s.p = 4 then (hd s, (i : Int), 0) else if s.p = 5 then (none, (i : Int), s.e) else (none, (i : Int), 6)
  | s, i, c :: cs => if s.p = 4 then (hd s, (i : Int), 0) else if s.p = 5 then (none, (i : Int), s.e) else parseF l (put l s c) (i + 1) cs
def parseV (l : L) (x : List Int) : H × Int × Int := parseF l new 0 x
theorem parse_over {l : L} {s : S} (i : Nat) (x : List Int) (h : s.p = 4) : parseF l s i x = (hd s, (i : Int), 0) := by cases x <;> rw [parseF, if_pos h]
theorem parse_wrong {l : L} {s : S} (i : Nat) (x : List Int) (h : s.p = 5) : parseF l s i x = (none, (i : Int), s.e) := by cases x <;> rw [parseF, if_neg (by omega), if_pos h]
theorem parse_nil {l : L} {s : S} (i : Nat) (h : s.p ≤ 3) : parseF l s i [] = (none, (i : Int), 6) := by rw [parseF, if_neg (by omega), if_neg (by omega)]
theorem parse_cons {l : L} {s : S} (i : Nat) (c : Int) (cs : List Int) (h : s.p ≤ 3) : parseF l s i (c :: cs) = parseF l (put l s c) (i + 1) cs := by rw [parseF, if_neg (by omega), if_neg (by omega)]
/-- what is so of each reader -/
def Good (l : L) (s : S) : Prop :=
  s.p ≤ 5 ∧ (s.p ≤ 3 → Tk.Good (l.at s.i) s.t ∧ s.t.k ≤ 3) ∧ (s.p ≤ 2 → s.i = 0 ∧ s.v0 = 0 ∧ s.v1 = 0 ∧ s.v2 = 1 ∧ s.t = Tk.new) ∧ (s.p ≤ 1 → s.kd = 0) ∧ (2 ≤ s.p → s.p ≤ 4 → 1 ≤ s.kd ∧ s.kd ≤ 6) ∧ (s.p ≤ 3 → s.i < many s.kd) ∧ (s.p = 5 → (s.e = 2 ∨ s.e = 3 ∨ s.e = 4)) ∧ s.i ≤ 3
theorem many_at (kd : Int) : many kd = 2 ∨ many kd = 3 := by unfold many; split <;> simp
theorem good_new {l : L} (h : l.Ok) : Good l new := by
  have := L.at_ok h 0
  refine ⟨by decide, fun _ => ⟨Tk.good_new (by show (0 : Int) ≤ l.at 0; omega), by decide⟩, fun _ => ⟨rfl, rfl, rfl, rfl, rfl⟩, fun _ => rfl, fun h => absurd h (by decide), fun _ => by have := many_at (0 : Int); show 0 < many 0; omega, fun h => absurd h (by decide), by decide⟩
theorem good_wrong {l : L} {s : S} (hi : s.i ≤ 3) {e : Int} (he : e = 2 ∨ e = 3 ∨ e = 4) : Good l (s.wrong e) :=
  ⟨Nat.le_refl 5, fun h => absurd h (by simp [S.wrong]), fun h => absurd h (by simp [S.wrong]), fun h => absurd h (by simp [S.wrong]), fun _ h => absurd h (by simp [S.wrong]), fun h => absurd h (by simp [S.wrong]), fun _ => he, hi⟩
theorem good_take {l : L} (hl : l.Ok) {s : S} (hk : 1 ≤ s.kd ∧ s.kd ≤ 6) (hi : s.i < many s.kd) {t : Tk.S} (ht : Tk.Good (l.at s.i) t) : Good l (take s t) := by
  have hm := many_at s.kd
  unfold take
  split
  · rename_i h5; exact good_wrong (by omega) (.inr (ht.2.2.2.2.2.1 h5))
  split
  · split
    · exact good_wrong (by omega) (.inr (.inr rfl))
    · unfold S.num
      by_cases h : s.i + 1 = many s.kd
      · rw [if_pos h]
        exact ⟨by simp, fun h => absurd h (by simp), fun h => absurd h (by simp), fun h => absurd h (by simp), fun _ _ => hk, fun h => absurd h (by simp), fun h => absurd h (by simp), by simp only []; omega⟩
      · rw [if_neg h]
        have := L.at_ok hl (s.i + 1)
        exact ⟨by simp, fun _ => ⟨Tk.good_new (by simp only []; omega), Nat.zero_le _⟩, fun h => absurd h (by simp), fun h => absurd h (by simp), fun _ _ => hk, fun _ => by simp only []; omega, fun h => absurd h (by simp), by simp only []; omega⟩
  · rename_i h5 h4
    have := ht.1
    exact ⟨by simp [S.tok], fun _ => ⟨ht, by show t.k ≤ 3; omega⟩, fun h => absurd h (by simp [S.tok]), fun h => absurd h (by simp [S.tok]), fun _ _ => hk, fun _ => hi, fun h => absurd h (by simp [S.tok]), by show s.i ≤ 3; omega⟩
theorem good_put {l : L} (hl : l.Ok) {s : S} (h : Good l s) (c : Int) : Good l (put l s c) := by
  obtain ⟨h1, h2, h3, h4, h5, h6, h7, h8⟩ := h
  unfold put
  split
  · rename_i hp
    obtain ⟨a1, a2, a3, a4, a5⟩ := h3 (by omega)
    split
    · exact ⟨by simp, fun _ => h2 (by omega), fun _ => ⟨a1, a2, a3, a4, a5⟩, fun _ => h4 (by omega), fun h => absurd h (by simp), fun _ => h6 (by omega), fun h => absurd h (by simp), h8⟩
    · exact good_wrong h8 (.inl rfl)
  split
  · rename_i hp0 hp
    obtain ⟨a1, a2, a3, a4, a5⟩ := h3 (by omega)
    split
    · rename_i hc
      exact ⟨by simp, fun _ => h2 (by omega), fun _ => ⟨a1, a2, a3, a4, a5⟩, fun h => absurd h (by simp), fun _ _ => by simp only []; omega, fun _ => by have := many_at (c - 48); simp only []; omega, fun h => absurd h (by simp), h8⟩
    · exact good_wrong h8 (.inl rfl)
  split
  · rename_i hp0 hp1 hp
    split
    · exact good_take hl (h5 (by omega) (by omega)) (h6 (by omega)) (Tk.good_put (h2 (by omega)).1 c)
    · exact good_wrong h8 (.inr (.inl rfl))
  split
  · exact good_take hl (h5 (by omega) (by omega)) (h6 (by omega)) (Tk.good_put (h2 (by omega)).1 c)
  · exact ⟨h1, h2, h3, h4, h5, h6, h7, h8⟩
/-- what a text's head comes to, told while a reader is told it -/
theorem parse_ends {l : L} (hl : l.Ok) : ∀ (x : List Int) (s : S) (i : Nat), Good l s → s.p ≤ 3 → (i : Int) ≤ (parseF l s i x).2.1 ∧ ((parseF l s i x).2.2 ≠ 6 → (i : Int) + 1 ≤ (parseF l s i x).2.1) ∧ ((parseF l s i x).2.2 = 0 ∨ (parseF l s i x).2.2 = 2 ∨ (parseF l s i x).2.2 = 3 ∨ (parseF l s i x).2.2 = 4 ∨ (parseF l s i x).2.2 = 6)
  | [], s, i, h, hp => by rw [parse_nil i hp]; simp
  | c :: cs, s, i, h, hp => by
    rw [parse_cons i c cs hp]
    have hg := good_put hl h c
    by_cases h4 : (put l s c).p = 4
    · rw [parse_over _ _ h4]; simp; omega
    by_cases h5 : (put l s c).p = 5
    · rw [parse_wrong _ _ h5]
      have := hg.2.2.2.2.2.2.1 h5
      simp only []; omega
    · have := hg.1
      have h := parse_ends hl cs (put l s c) (i + 1) hg (by omega)
      omega
end Hd
end Go.Proofs.Ytldhhhmihfcalaa

/- A number's decimals are read as it was: plain facts. No condition. -/
namespace Go.Proofs.Ytldhhhmihfcalaa
open Go.RowKit
set_option linter.unusedVariables false

theorem bytesOf_strOfNums {xs : List Int} (h : ∀ x ∈ xs, 0 ≤ x ∧ x ≤ 255) : bytesOf (strOfNums xs) = xs := by
  unfold bytesOf strOfNums
  simp only [List.map_map]
  conv => rhs; rw [← List.map_id xs]
  refine List.map_congr_left fun x hx => ?_
  obtain ⟨h0, h1⟩ := h x hx
  simp; omega
theorem bytesOf_append (a b : ByteArray) : bytesOf (a ++ b) = bytesOf a ++ bytesOf b := by simp [bytesOf]
theorem Nu.parseF_append (most : Int) : ∀ (xs ys : List Int) (n : Int), Nu.parseF most n (xs ++ ys) = if (Nu.parseF most n xs).2 = 0 then Nu.parseF most (Nu.parseF most n xs).1 ys else (0, (Nu.parseF most n xs).2)
  | [], ys, n => by simp [Nu.parseF]
  | c :: cs, ys, n => by
    rw [List.cons_append, Nu.parseF, Nu.parseF]
    by_cases h : (Nu.stepV n c most).2 = 0
    · rw [if_pos h, if_pos h]; exact Nu.parseF_append most cs ys _
    · rw [if_neg h, if_neg h, if_neg h]
theorem Nu.parse_dig (most : Int) (m0 : 0 ≤ most) (k : Int) (h0 : 0 ≤ k) : Nu.parseF most 0 (((Nu.dig 10 k).map (48 + ·)).reverse) = if k ≤ most then (k, 0) else (0, 4) := by
  induction k using Nu.dig.induct (b := 10) with
  | case1 k h ih =>
    have hq := ih (by omega)
    rw [Nu.dig_more h.1 h.2, List.map_cons, List.reverse_cons, Nu.parseF_append, hq]
    by_cases hk : k / 10 ≤ most
    · rw [if_pos hk, if_pos rfl, Nu.parseF]
      have hs : Nu.stepV (k / 10) (48 + k % 10) most = if k ≤ most then (k, 0) else (0, 4) := by
        unfold Nu.stepV
        rw [if_neg (by omega)]
        by_cases hm : k ≤ most
        · rw [if_neg (by omega), if_pos hm]; refine Prod.ext ?_ rfl; simp only []; omega
        · rw [if_pos (by omega), if_neg hm]
      rw [hs]
      by_cases hm : k ≤ most
      · rw [if_pos hm, if_pos rfl]; rfl
      · rw [if_neg hm, if_neg (by simp)]
    · rw [if_neg hk, if_neg (by simp), if_neg (by omega)]
  | case2 k h =>
    rw [Nu.dig_last (by omega)]
    have hk : k % 10 = k := by omega
    rw [hk]
    show Nu.parseF most 0 [48 + k] = _
    rw [Nu.parseF]
    have hs : Nu.stepV 0 (48 + k) most = if k ≤ most then (k, 0) else (0, 4) := by
      unfold Nu.stepV
      rw [if_neg (by omega)]
      by_cases hm : k ≤ most
      · rw [if_neg (by omega), if_pos hm]; refine Prod.ext ?_ rfl; simp only []; omega
      · rw [if_pos (by omega), if_neg hm]
    rw [hs]
    by_cases hm : k ≤ most
    · rw [if_pos hm, if_pos rfl]; rfl
    · rw [if_neg hm, if_neg (by simp)]
theorem Nu.parse_nought (most : Int) (m0 : 0 ≤ most) (l : List Int) : Nu.parseF most 0 (48 :: l) = Nu.parseF most 0 l := by
  have hs : Nu.stepV 0 48 most = (0, 0) := by unfold Nu.stepV; rw [if_neg (by omega), if_neg (by omega)]; rfl
  rw [Nu.parseF, hs, if_pos rfl]
theorem Nu.decV_up {k : Int} (h : 0 ≤ k) : Nu.decV k = ((Nu.dig 10 k).map (48 + ·)).reverse := by
  unfold Nu.decV Nu.backV
  rw [if_neg (by omega), List.append_nil, show (k.natAbs : Int) = k by omega]
theorem Nu.decV_bytes (k : Int) : ∀ x ∈ Nu.decV k, 0 ≤ x ∧ x ≤ 255 := by
  intro x hx
  unfold Nu.decV Nu.backV at hx
  rw [List.mem_reverse, List.mem_append] at hx
  rcases hx with hx | hx
  · obtain ⟨d, hd, rfl⟩ := List.mem_map.1 hx
    have := Nu.dig_lt (b := 10) (by omega) _ d hd
    omega
  · split at hx
    · obtain rfl : x = 45 := by simpa using hx
      omega
    · cases hx
theorem Nu.decV_ne {k : Int} (h : 0 ≤ k) : Nu.decV k ≠ [] := by
  rw [Nu.decV_up h]; simp [Nu.dig_ne]
theorem Nu.parse_dec (k : Int) (h : 0 ≤ k) : Nu.parseV (bytesOf (strOfNums (Nu.decV k))) k = (k, 0) := by
  rw [bytesOf_strOfNums (Nu.decV_bytes k)]
  unfold Nu.parseV
  rw [if_neg (Nu.decV_ne h), Nu.decV_up h, Nu.parse_dig k h k h, if_pos (Int.le_refl _)]
theorem Nu.parse_dec00 (k m : Int) (h : 0 ≤ k) (m0 : 0 ≤ m) : Nu.parseV (bytesOf ((⟨#[48, 48]⟩ : ByteArray) ++ strOfNums (Nu.decV k))) m = if k ≤ m then (k, 0) else (0, 4) := by
  rw [bytesOf_append, bytesOf_strOfNums (Nu.decV_bytes k)]
  show Nu.parseV (48 :: 48 :: Nu.decV k) m = _
  unfold Nu.parseV
  rw [if_neg (by simp), Nu.parse_nought m m0, Nu.parse_nought m m0, Nu.decV_up h, Nu.parse_dig m m0 k h]
end Go.Proofs.Ytldhhhmihfcalaa

/- What a reader says of a number's decimals, of blanks and of remarks: plain facts. No condition. -/
namespace Go.Proofs.Ytldhhhmihfcalaa
open Go.RowKit
set_option linter.unusedVariables false
namespace Tk
/-- told the list it goes on, and is then where t says -/
def runs (m : Int) : S → List Int → S → Prop
  | s, [], t => s = t
  | s, c :: cs, t => (put m s c).k ≤ 3 ∧ runs m (put m s c) cs t
theorem runs_app {m : Int} : ∀ (a : List Int) {b : List Int} {s t v : S}, runs m s a t → runs m t b v → runs m s (a ++ b) v
  | [], b, s, t, v, h, k => by have : s = t := h; subst this; exact k
  | c :: cs, b, s, t, v, h, k => ⟨h.1, runs_app cs h.2 k⟩
theorem allF_runs {m : Int} : ∀ (l : List Int) {s t : S}, runs m s l t → ∀ (i : Nat) (u : Int) (acc r : List Int), allF m s i u acc (l ++ r) = allF m t (i + l.length) u acc r
  | [], s, t, h, i, u, acc, r => by have : s = t := h; subst this; rfl
  | c :: cs, s, t, h, i, u, acc, r => by
    have h5 : ¬ (put m s c).k = 5 := by have := h.1; omega
    have h4 : ¬ (put m s c).k = 4 := by have := h.1; omega
    rw [List.cons_append, allF, if_neg h5, if_neg h4, allF_runs cs h.2, List.length_cons, show i + 1 + cs.length = i + (cs.length + 1) by omega]
/-- told digits it took digits, and goes on -/
def digs (m : Int) : S → List Int → S → Prop
  | s, [], t => s = t
  | s, c :: cs, t => (put m s c).k = 2 ∧ digs m (put m s c) cs t
theorem digs_runs {m : Int} : ∀ (l : List Int) {s t : S}, digs m s l t → runs m s l t
  | [], s, t, h => h
  | c :: cs, s, t, h => ⟨by have := h.1; omega, digs_runs cs h.2⟩
theorem step_digit {n c m : Int} (h : (Nu.stepV n c m).2 = 0) : 48 ≤ c ∧ c ≤ 57 := by
  unfold Nu.stepV at h
  split at h
  · simp at h
  · rename_i h1; omega
theorem put_digit {m : Int} {s : S} {c : Int} (hk : s.k = 0 ∨ s.k = 2) (he : s.e = 9) (h : (Nu.stepV s.n c m).2 = 0) : put m s c = ⟨2, (Nu.stepV s.n c m).1, 9, true⟩ := by
  obtain ⟨h1, h2⟩ := step_digit h
  have hb : ¬ blank c = true := by unfold blank; simp; omega
  unfold put
  rw [if_neg (by omega), if_neg (by omega), if_neg (by omega), if_neg (by omega), if_neg hb, if_pos h, he]
theorem digs_parse {m v : Int} : ∀ (l : List Int) (s : S), (s.k = 0 ∨ s.k = 2) → s.e = 9 → (l = [] → s = ⟨2, v, 9, true⟩) → Nu.parseF m s.n l = (v, 0) → digs m s l ⟨2, v, 9, true⟩
  | [], s, hk, he, h0, h => h0 rfl
  | c :: cs, s, hk, he, h0, h => by
    rw [Nu.parseF] at h
    by_cases hs : (Nu.stepV s.n c m).2 = 0
    · rw [if_pos hs] at h
      have hp := put_digit hk he hs
      refine ⟨by rw [hp], ?_⟩
      rw [hp]
      refine digs_parse cs _ (.inr rfl) rfl (fun e => ?_) h
      subst e
      simp only [Nu.parseF] at h
      have := (Prod.mk.inj h).1
      rw [this]
    · rw [if_neg hs] at h
      have h2 := (Prod.mk.inj h).2
      exact absurd h2 hs
theorem digs_dec {m k : Int} (h0 : 0 ≤ k) (h1 : k ≤ m) : digs m new (Nu.decV k) ⟨2, k, 9, true⟩ := by
  refine digs_parse _ _ (.inl rfl) rfl (fun e => absurd e (Nu.decV_ne h0)) ?_
  show Nu.parseF m 0 _ = _
  rw [Nu.decV_up h0, Nu.parse_dig m (by omega) k h0, if_pos h1]
theorem digs_noughts {m k : Int} (h0 : 0 ≤ k) (h1 : k ≤ m) (r : Nat) : digs m new (List.replicate r 48 ++ Nu.decV k) ⟨2, k, 9, true⟩ := by
  refine digs_parse _ _ (.inl rfl) rfl (fun e => absurd (List.append_eq_nil_iff.1 e).2 (Nu.decV_ne h0)) ?_
  show Nu.parseF m 0 _ = _
  induction r with
  | zero => rw [List.replicate_zero, List.nil_append, Nu.decV_up h0, Nu.parse_dig m (by omega) k h0, if_pos h1]
  | succ r ih => rw [List.replicate_succ, List.cons_append, Nu.parse_nought m (by omega)]; exact ih
theorem blank_35 {c : Int} (h : blank c = true) : ¬ c = 35 := by unfold blank at h; simp at h; omega
theorem put_end {m k c : Int} (h : blank c = true) : put m ⟨2, k, 9, true⟩ c = ⟨4, k, 0, true⟩ := by simp [put, blank_35 h, h]
theorem put_ahead {m c : Int} (h : blank c = true) : put m new c = new := by
  have := blank_35 h
  simp [put, new, this, h]
theorem put_remA (m : Int) : put m new 35 = ⟨1, 0, 9, false⟩ := by simp [put, new]
theorem put_remD (m k : Int) : put m ⟨2, k, 9, true⟩ 35 = ⟨3, k, 9, true⟩ := by simp [put]
theorem put_in1 {m c : Int} (h : line c = false) : put m ⟨1, 0, 9, false⟩ c = ⟨1, 0, 9, false⟩ := by simp [put, h]
theorem put_in3 {m k c : Int} (h : line c = false) : put m ⟨3, k, 9, true⟩ c = ⟨3, k, 9, true⟩ := by simp [put, h]
theorem put_out1 {m c : Int} (h : line c = true) : put m ⟨1, 0, 9, false⟩ c = new := by simp [put, h, new]
theorem put_out3 {m k c : Int} (h : line c = true) : put m ⟨3, k, 9, true⟩ c = ⟨4, k, 0, true⟩ := by simp [put, h]
theorem runs_in1 {m : Int} : ∀ (l : List Int), (∀ c ∈ l, line c = false) → runs m ⟨1, 0, 9, false⟩ l ⟨1, 0, 9, false⟩
  | [], _ => rfl
  | c :: cs, h => by
    have e := put_in1 (m := m) (h c (by simp))
    exact ⟨by rw [e]; decide, by rw [e]; exact runs_in1 cs fun d hd => h d (by simp [hd])⟩
theorem runs_in3 {m k : Int} : ∀ (l : List Int), (∀ c ∈ l, line c = false) → runs m ⟨3, k, 9, true⟩ l ⟨3, k, 9, true⟩
  | [], _ => rfl
  | c :: cs, h => by
    have e := put_in3 (m := m) (k := k) (h c (by simp))
    exact ⟨by rw [e]; simp, by rw [e]; exact runs_in3 cs fun d hd => h d (by simp [hd])⟩
/-- a number's decimals and a blank are read as the number -/
theorem all_dec {M k c : Int} (h0 : 0 ≤ k) (h1 : k ≤ M) (hc : blank c = true) (i : Nat) (u : Int) (acc r : List Int) : allF M new i u acc (Nu.decV k ++ [c] ++ r) = allF M new (i + ((Nu.decV k).length + 1)) ((i + ((Nu.decV k).length + 1) : Nat) : Int) (acc ++ [k]) r := by
  rw [List.append_assoc, allF_runs _ (digs_runs _ (digs_dec h0 h1)), List.singleton_append, allF, put_end hc, if_neg (by simp), if_pos rfl]
  rw [show i + (Nu.decV k).length + 1 = i + ((Nu.decV k).length + 1) by omega]
  congr 1
end Tk
end Go.Proofs.Ytldhhhmihfcalaa

/- A head's bytes, and what a reader says of them: plain facts. No condition. -/
namespace Go.Proofs.Ytldhhhmihfcalaa
open Go.RowKit
set_option linter.unusedVariables false
namespace Hd
theorem take_more {s : S} {t : Tk.S} (h : t.k ≤ 3) : take s t = s.tok t := by unfold take; rw [if_neg (by omega), if_neg (by omega)]
theorem take_over {s : S} {k : Int} (h : k ≠ 0) {b : Bool} {e : Int} : take s ⟨4, k, e, b⟩ = s.num k := by
  unfold take; rw [if_neg (by simp), if_pos rfl, if_neg h]
theorem take_wrong {s : S} {t : Tk.S} (h : t.k = 5) : take s t = s.wrong t.e := by unfold take; rw [if_pos h]
theorem put_in {l : L} {s : S} {c : Int} (h : s.p = 3) : put l s c = take s (Tk.put (l.at s.i) s.t c) := by
  unfold put; rw [if_neg (by omega), if_neg (by omega), if_neg (by omega), if_pos h]; rfl
theorem tok_tok (s : S) (t u : Tk.S) : (s.tok t).tok u = s.tok u := rfl
theorem tok_self {s : S} (h : s.p = 3) : s.tok s.t = s := by
  obtain ⟨p, kd, i, v0, v1, v2, t, e⟩ := s
  have : p = 3 := h
  subst this; rfl
/-- told what its number's reader goes on with it goes on -/
theorem parse_runs {l : L} : ∀ (x : List Int) (s : S) (i : Nat) (r : List Int) {t : Tk.S}, s.p = 3 → Tk.runs (l.at s.i) s.t x t → parseF l s i (x ++ r) = parseF l (s.tok t) (i + x.length) r
  | [], s, i, r, t, hp, h => by
    have h' : s.t = t := h
    rw [← h', tok_self hp]; rfl
  | c :: cs, s, i, r, t, hp, h => by
    have h1 := h.1
    rw [List.cons_append, parse_cons i c _ (by omega), put_in hp, take_more h1]
    have := parse_runs (l := l) cs (s.tok (Tk.put (l.at s.i) s.t c)) (i + 1) r (t := t) rfl h.2
    rw [this, tok_tok, List.length_cons, show i + 1 + cs.length = i + (cs.length + 1) by omega]
/-- behind the kind a number's reader begins -/
theorem parse_third {l : L} {s : S} (hp : s.p = 2) (i : Nat) {c : Int} (hc : Tk.blank c = true ∨ c = 35) (cs : List Int) : parseF l s i (c :: cs) = parseF l (s.tok s.t) i (c :: cs) := by
  rw [parse_cons i c cs (by omega), parse_cons i c cs (by show (3 : Nat) ≤ 3; omega), put_in (s := s.tok s.t) rfl]
  congr 1
  unfold put
  rw [if_neg (by omega), if_neg (by omega), if_pos hp, if_pos hc]
  unfold inNum take
  rfl
/-- the blank behind a number's digits -/
theorem parse_ends_num {l : L} {s : S} {k : Int} (h : k ≠ 0) (i : Nat) {c : Int} (hc : Tk.blank c = true) (cs : List Int) : parseF l (s.tok ⟨2, k, 9, true⟩) i (c :: cs) = parseF l (s.num k) (i + 1) cs := by
  rw [parse_cons i c cs (by show (3 : Nat) ≤ 3; omega), put_in rfl]
  congr 1
  show take (s.tok _) (Tk.put (l.at s.i) ⟨2, k, 9, true⟩ c) = _
  rw [Tk.put_end hc, take_over h]; rfl
/-- a number and a blank -/
theorem parse_num {l : L} {s : S} (hp : s.p = 3) (ht : s.t = Tk.new) {k : Int} (h0 : 1 ≤ k) (h1 : k ≤ l.at s.i) (i : Nat) {c : Int} (hc : Tk.blank c = true) (r : List Int) :
    parseF l s i (Nu.decV k ++ (c :: r)) = parseF l (s.num k) (i + (Nu.decV k).length + 1) r := by
  rw [parse_runs _ s i _ hp (by rw [ht]; exact Tk.digs_runs _ (Tk.digs_dec (by omega) h1)), parse_ends_num (by omega) _ hc]
/-- a number that is too great -/
theorem parse_great {l : L} {r : List Int} {e : Int} (he : e ≠ 0) : ∀ (x : List Int) (s : S) (i : Nat), (∀ c ∈ x, 48 ≤ c ∧ c ≤ 57) → s.p = 3 → (s.t.k = 0 ∨ s.t.k = 2) → s.t.e = 9 → (Nu.parseF (l.at s.i) s.t.n x).2 = e → (parseF l s i (x ++ r)).2.2 = e
  | [], s, i, hd, hp, hk, h9, h => absurd h.symm he
  | c :: cs, s, i, hd, hp, hk, h9, h => by
    have hcd := hd c (by simp)
    rw [Nu.parseF] at h
    rw [List.cons_append, parse_cons i c _ (by omega), put_in hp]
    by_cases hs : (Nu.stepV s.t.n c (l.at s.i)).2 = 0
    · rw [if_pos hs] at h
      rw [Tk.put_digit hk h9 hs, take_more (by simp)]
      exact parse_great he cs _ _ (fun d hd' => hd d (by simp [hd'])) rfl (.inr rfl) rfl h
    · rw [if_neg hs] at h
      have hb : ¬ Tk.blank c = true := by unfold Tk.blank; simp; omega
      have h5 : Tk.put (l.at s.i) s.t c = ⟨5, 0, (Nu.stepV s.t.n c (l.at s.i)).2, s.t.bg⟩ := by
        unfold Tk.put
        rw [if_neg (by omega), if_neg (by omega), if_neg (by omega), if_neg (by omega), if_neg hb, if_neg hs]
      rw [h5, take_wrong rfl, parse_wrong _ _ rfl]
      exact h
theorem dec_digits {k : Int} (h : 0 ≤ k) : ∀ c ∈ Nu.decV k, 48 ≤ c ∧ c ≤ 57 := by
  intro c hc
  rw [Nu.decV_up h, List.mem_reverse] at hc
  obtain ⟨d, hd, rfl⟩ := List.mem_map.1 hc
  have := Nu.dig_lt (b := 10) (by omega) _ d hd
  omega
theorem parse_dec_great {l : L} {s : S} (hp : s.p = 3) (ht : s.t = Tk.new) {k : Int} (h0 : 0 ≤ k) (h1 : l.at s.i < k) (hl : 0 ≤ l.at s.i) (i : Nat) (r : List Int) : (parseF l s i (Nu.decV k ++ r)).2.2 = 4 := by
  refine parse_great (by decide) _ _ _ (dec_digits h0) hp (by rw [ht]; exact .inl rfl) (by rw [ht]; rfl) ?_
  rw [ht]
  show (Nu.parseF _ 0 _).2 = 4
  rw [Nu.decV_up h0, Nu.parse_dig _ hl k h0, if_neg (by omega)]
/-- what a head may be -/
def May (h : H) : Prop := (1 ≤ h.kd ∧ h.kd ≤ 6) ∧ (1 ≤ h.w ∧ h.w ≤ 4096) ∧ (1 ≤ h.h ∧ h.h ≤ 65536) ∧ (1 ≤ h.m ∧ h.m ≤ 65535) ∧ (bits h.kd = true → h.m = 1)
instance (h : H) : Decidable (May h) := by unfold May; infer_instance
/-- a head's bytes -/
def bytes (h : H) : List Int := [80] ++ Nu.decV h.kd ++ [10] ++ Nu.decV h.w ++ [32] ++ Nu.decV h.h ++ [10] ++ (if bits h.kd = true then [] else Nu.decV h.m ++ [10])
/-- behind P and the kind -/
def s2 (kd : Int) : S := ⟨2, kd, 0, 0, 0, 1, Tk.new, 0⟩
def s3 (kd : Int) : S := ⟨3, kd, 0, 0, 0, 1, Tk.new, 0⟩
theorem parse_kind {l : L} {kd : Int} (h1 : 1 ≤ kd) (h6 : kd ≤ 6) (r : List Int) : parseF l new 0 (80 :: (Nu.decV kd ++ r)) = parseF l (s2 kd) 2 r := by
  rw [Nu.decV_pos (by omega) (by omega), parse_cons _ _ _ (by decide), List.singleton_append]
  have e1 : put l new 80 = ⟨1, 0, 0, 0, 0, 1, Tk.new, 0⟩ := rfl
  rw [e1, parse_cons _ _ _ (by decide)]
  congr 1
  unfold put
  rw [if_neg (by simp), if_pos rfl, if_pos (by omega), show 48 + kd - 48 = kd by omega]
  rfl
theorem num_over {s : S} {k : Int} (h : s.i + 1 = many s.kd) : (s.num k).p = 4 := by unfold S.num; rw [if_pos h]
theorem num_more {s : S} {k : Int} (h : s.i + 1 ≠ many s.kd) : (s.num k).p = 3 := by unfold S.num; rw [if_neg h]
theorem runs_blank {m c : Int} (h : Tk.blank c = true) : Tk.runs m Tk.new [c] Tk.new := by
  refine ⟨by rw [Tk.put_ahead h]; decide, ?_⟩
  rw [Tk.put_ahead h]; rfl
theorem s3_tok (kd : Int) : (s2 kd).tok (s2 kd).t = s3 kd := rfl
theorem many_bits {kd : Int} (h : bits kd = true) : many kd = 2 := by unfold many; rw [if_pos h]
theorem many_more {kd : Int} (h : bits kd ≠ true) : many kd = 3 := by unfold many; rw [if_neg h]
/-- a head's bytes are parsed as it was -/
theorem parse_bytes {l : L} {h : H} (hm : May h) (hw : h.w ≤ l.m0) (hh : h.h ≤ l.m1) (hx : bits h.kd = true ∨ h.m ≤ l.m2) (r : List Int) : parseV l (bytes h ++ r) = (h, ((bytes h).length : Int), 0) := by
  obtain ⟨kd, w, hh', m⟩ := h
  obtain ⟨⟨a1, a2⟩, ⟨b1, b2⟩, ⟨c1, c2⟩, ⟨d1, d2⟩, e1⟩ := hm
  simp only at a1 a2 b1 b2 c1 c2 d1 d2 e1 hw hh hx
  have bl10 : Tk.blank 10 = true := by decide
  have bl32 : Tk.blank 32 = true := by decide
  unfold parseV bytes
  simp only [List.append_assoc, List.cons_append, List.nil_append]
  rw [parse_kind a1 a2, parse_third rfl _ (.inl bl10), s3_tok]
  have r1 := parse_runs (l := l) [10] (s3 kd) 2 (Nu.decV w ++ (32 :: (Nu.decV hh' ++ (10 :: ((if bits kd = true then [] else Nu.decV m ++ [10]) ++ r))))) rfl (runs_blank bl10)
  rw [List.singleton_append] at r1
  rw [r1, show (s3 kd).tok Tk.new = s3 kd from rfl, parse_num (s := s3 kd) rfl rfl b1 hw _ bl32]
  have p1 : ((s3 kd).num w).p = 3 := num_more (by have := many_at kd; show 0 + 1 ≠ many kd; omega)
  have i1 : ((s3 kd).num w).i = 1 := rfl
  rw [parse_num (s := (s3 kd).num w) p1 rfl c1 (by rw [i1]; exact hh) _ bl10]
  by_cases hb : bits kd = true
  · rw [if_pos hb, parse_over _ _ (num_over (by rw [i1]; show 1 + 1 = many kd; rw [many_bits hb]))]
    obtain rfl : m = 1 := e1 hb
    refine Prod.ext rfl (Prod.ext ?_ rfl)
    rw [Nu.decV_pos (n := kd) (by omega) (by omega)]
    simp only [List.length_append, List.length_cons, List.length_nil]
    omega
  · rw [if_neg hb]
    have p2 : (((s3 kd).num w).num hh').p = 3 := num_more (by rw [i1]; show 1 + 1 ≠ many kd; rw [many_more hb]; decide)
    have i2 : (((s3 kd).num w).num hh').i = 2 := rfl
    rw [List.append_assoc, List.singleton_append, parse_num (s := ((s3 kd).num w).num hh') p2 rfl d1 (by rw [i2]; exact hx.resolve_left hb) _ bl10, parse_over _ _ (num_over (by rw [i2]; show 2 + 1 = many kd; rw [many_more hb]))]
    refine Prod.ext rfl (Prod.ext ?_ rfl)
    rw [Nu.decV_pos (n := kd) (by omega) (by omega)]
    simp only [List.length_append, List.length_cons, List.length_nil]
    omega
/-- a head beyond a limit -/
theorem parse_beyond {l : L} (hl : l.Ok) {h : H} (hm : May h) (hw : ¬ (h.w ≤ l.m0 ∧ h.h ≤ l.m1 ∧ (bits h.kd = true ∨ h.m ≤ l.m2))) : (parseV l (bytes h)).2.2 = 4 := by
  obtain ⟨kd, w, hh', m⟩ := h
  obtain ⟨⟨a1, a2⟩, ⟨b1, b2⟩, ⟨c1, c2⟩, ⟨d1, d2⟩, e1⟩ := hm
  obtain ⟨⟨l0, _⟩, ⟨l1, _⟩, ⟨l2, _⟩⟩ := hl
  simp only at a1 a2 b1 b2 c1 c2 d1 d2 e1 hw
  have bl10 : Tk.blank 10 = true := by decide
  have bl32 : Tk.blank 32 = true := by decide
  unfold parseV bytes
  simp only [List.append_assoc, List.cons_append, List.nil_append]
  rw [parse_kind a1 a2, parse_third rfl _ (.inl bl10), s3_tok]
  have r1 := parse_runs (l := l) [10] (s3 kd) 2 (Nu.decV w ++ (32 :: (Nu.decV hh' ++ (10 :: (if bits kd = true then [] else Nu.decV m ++ [10]))))) rfl (runs_blank bl10)
  rw [List.singleton_append] at r1
  rw [r1, show (s3 kd).tok Tk.new = s3 kd from rfl]
  by_cases h0 : w ≤ l.m0
  · rw [parse_num (s := s3 kd) rfl rfl b1 h0 _ bl32]
    have p1 : ((s3 kd).num w).p = 3 := num_more (by have := many_at kd; show 0 + 1 ≠ many kd; omega)
    have i1 : ((s3 kd).num w).i = 1 := rfl
    by_cases h1 : hh' ≤ l.m1
    · rw [parse_num (s := (s3 kd).num w) p1 rfl c1 (by rw [i1]; exact h1) _ bl10]
      have hb : ¬ bits kd = true := fun e => hw ⟨h0, h1, .inl e⟩
      have h2 : l.m2 < m := Int.not_le.1 fun e => hw ⟨h0, h1, .inr e⟩
      rw [if_neg hb]
      have p2 : (((s3 kd).num w).num hh').p = 3 := num_more (by rw [i1]; show 1 + 1 ≠ many kd; rw [many_more hb]; decide)
      have i2 : (((s3 kd).num w).num hh').i = 2 := rfl
      exact parse_dec_great p2 rfl (by omega) (by rw [i2]; exact h2) (by rw [i2]; show 0 ≤ l.m2; omega) _ _
    · exact parse_dec_great p1 rfl (by omega) (by rw [i1]; show l.m1 < hh'; omega) (by rw [i1]; show 0 ≤ l.m1; omega) _ _
  · exact parse_dec_great rfl rfl (by omega) (by show l.m0 < w; omega) (by show 0 ≤ l.m0; omega) _ _
end Hd
end Go.Proofs.Ytldhhhmihfcalaa

/- A head in four cells of a block of the call's own, over any memory. No condition. -/
namespace Go.Proofs.Ytldhhhmihfcalaa
open Go.RowKit
set_option linter.unusedVariables false

/-- a head, as a value -/
def agH (h : Hd.H) : Value := .agg #[.int .i64 h.kd, .int .i64 h.w, .int .i64 h.h, .int .i64 h.m]
/-- four cells in a block of the call's own -/
def Hb (w : World) (b : Nat) (t : TypeId) (h : Hd.H) : Prop := w.heap[b]? = some (.cells #[.int .i64 h.kd, .int .i64 h.w, .int .i64 h.h, .int .i64 h.m] t (0, 0))
section
variable {w w' : World} {b : Nat} {t : TypeId} {h : Hd.H}
theorem Hb.lt (hh : Hb w b t h) : b < w.heap.size := (Array.getElem?_eq_some_iff.1 hh).1
theorem Hb.later (hh : Hb w b t h) (hb : Below w.heap.size w w') : Hb w' b t h := (hb.block b hh.lt).trans hh
theorem Hb.sep {Z : Nat → Prop} (hh : Hb w b t h) (hs : Sep Z w w') (hz : ¬ Z b) : Hb w' b t h := (hs.block b hh.lt hz).trans hh
theorem Hb.kept {row : Option Nat} (hh : Hb w b t h) (hg : w.grownBy w' row) (hne : some b ≠ row) : Hb w' b t h := (hg.block b hh.lt hne).trans hh
theorem Hb.cells (hh : Hb w b t h) : w.cell? ⟨b, 0, none⟩ = some (.int .i64 h.kd) ∧ w.cell? ⟨b, 1, none⟩ = some (.int .i64 h.w) ∧ w.cell? ⟨b, 2, none⟩ = some (.int .i64 h.h) ∧ w.cell? ⟨b, 3, none⟩ = some (.int .i64 h.m) := by
  have h' : w.heap[b]? = _ := hh
  refine ⟨?_, ?_, ?_, ?_⟩ <;> simp [World.cell?, h']
theorem Hb.fr (hh : Hb w b t h) : w.frozen? ⟨b, 0, none⟩ = false ∧ w.frozen? ⟨b, 1, none⟩ = false ∧ w.frozen? ⟨b, 2, none⟩ = false ∧ w.frozen? ⟨b, 3, none⟩ = false := by
  have h' : w.heap[b]? = _ := hh
  refine ⟨?_, ?_, ?_, ?_⟩ <;> simp [World.frozen?, h']
theorem Hb.new (w : World) (t : TypeId) (h : Hd.H) : Hb (w.alloc (.cells #[.int .i64 h.kd, .int .i64 h.w, .int .i64 h.h, .int .i64 h.m] t)) w.heap.size t h := World.alloc_heap_new w _
theorem Hb.alloc (hh : Hb w b t h) (o : Obj) : Hb (w.alloc o) b t h := hh.kept (World.grownBy_alloc w o none) (by simp)
theorem Hb.drew (hh : Hb w b t h) : Hb w.drew b t h := hh
theorem Hb.put (hh : Hb w b t h) (k : Hd.H) : Hb ((((w.setCell ⟨b, 0, none⟩ (.int .i64 k.kd)).setCell ⟨b, 1, none⟩ (.int .i64 k.w)).setCell ⟨b, 2, none⟩ (.int .i64 k.h)).setCell ⟨b, 3, none⟩ (.int .i64 k.m)) b t k := by
  have h' : w.heap[b]? = _ := hh
  have h1 := Go.heap_setCell_same w b 0 _ _ (.int .i64 k.kd) h'
  have h2 := Go.heap_setCell_same _ b 1 _ _ (.int .i64 k.w) h1
  have h3 := Go.heap_setCell_same _ b 2 _ _ (.int .i64 k.h) h2
  have h4 := Go.heap_setCell_same _ b 3 _ _ (.int .i64 k.m) h3
  simpa [Hb] using h4
end
theorem load_hd {w : World} {b : Nat} {t : TypeId} {h : Hd.H} (hh : Hb w b t h) : (loadVar 51 ⟨b, 0, none⟩).run Try.prog w = .ok (agH h) w := by
  obtain ⟨h0, h1, h2, h3⟩ := hh.cells
  simp [go_sem, h0, h1, h2, h3, agH]
theorem load_rh {w : World} {b : Nat} {t : TypeId} {h : Hd.H} (hh : Hb w b t h) : (loadVar 42 ⟨b, 0, none⟩).run Try.prog w = .ok (agH h) w := by
  obtain ⟨h0, h1, h2, h3⟩ := hh.cells
  simp [go_sem, h0, h1, h2, h3, agH]
theorem Hj.ret3 {P : Program} {fn : Func} {p u v : Tmp} {ty : TypeId} (h : fn.results = #[.cell p ty, .tmp u, .tmp v]) (tmps : Array Value) (w : World) (b : Nat) (val : Value) (hp : tmps.getD p undef = .pointer (some ⟨b, 0, none⟩)) (hl : (loadVar ty ⟨b, 0, none⟩).run P w = .ok val w) :
    (results fn tmps).run P w = .ok (.tuple #[val, tmps.getD u undef, tmps.getD v undef]) w := by
  have hp' : tmps[p]?.getD undef = .pointer (some ⟨b, 0, none⟩) := by simpa using hp
  simp only [results, h]
  simp [hp', asAddr, hl, Result.andThen]
theorem Hj.ret1 {P : Program} {fn : Func} {p : Tmp} {ty : TypeId} (h : fn.results = #[.cell p ty]) (tmps : Array Value) (w : World) (b : Nat) (val : Value) (hp : tmps.getD p undef = .pointer (some ⟨b, 0, none⟩)) (hl : (loadVar ty ⟨b, 0, none⟩).run P w = .ok val w) :
    (results fn tmps).run P w = .ok val w := by
  have hp' : tmps[p]?.getD undef = .pointer (some ⟨b, 0, none⟩) := by simpa using hp
  simp only [results, h]
  simp [hp', asAddr, hl]
end Go.Proofs.Ytldhhhmihfcalaa

/- A reader of a number in a block of its own, over any memory: what it is made of, and what its parts do. Condition: its greatest number fits. -/
namespace Go.Proofs.Ytldhhhmihfcalaa
open Go.RowKit
set_option linter.unusedVariables false

/-- the six cells of a reader -/
def RdC (w : World) (b : Nat) (m v : Int) (g : Bool) (t f : Int) (x : Value) : Prop :=
  w.heap[b]? = some (.cells #[.int .i64 m, .int .i64 v, .bool g, .int .i64 t, .int .i64 f, x] 191 (0, 0))
section
variable {w w' : World} {b : Nat} {m v : Int} {g : Bool} {t f : Int} {x : Value}
theorem RdC.lt (h : RdC w b m v g t f x) : b < w.heap.size := (Array.getElem?_eq_some_iff.1 h).1
theorem RdC.later (h : RdC w b m v g t f x) (hb : Below w.heap.size w w') : RdC w' b m v g t f x := (hb.block b h.lt).trans h
theorem RdC.kept {row : Option Nat} (h : RdC w b m v g t f x) (hg : w.grownBy w' row) (hne : some b ≠ row) : RdC w' b m v g t f x := (hg.block b h.lt hne).trans h
theorem RdC.c0 (h : RdC w b m v g t f x) : w.cell? ⟨b, 0, none⟩ = some (.int .i64 m) := by have h' : w.heap[b]? = _ := h; simp [World.cell?, h']
theorem RdC.c1 (h : RdC w b m v g t f x) : w.cell? ⟨b, 1, none⟩ = some (.int .i64 v) := by have h' : w.heap[b]? = _ := h; simp [World.cell?, h']
theorem RdC.c2 (h : RdC w b m v g t f x) : w.cell? ⟨b, 2, none⟩ = some (.bool g) := by have h' : w.heap[b]? = _ := h; simp [World.cell?, h']
theorem RdC.c3 (h : RdC w b m v g t f x) : w.cell? ⟨b, 3, none⟩ = some (.int .i64 t) := by have h' : w.heap[b]? = _ := h; simp [World.cell?, h']
theorem RdC.c4 (h : RdC w b m v g t f x) : w.cell? ⟨b, 4, none⟩ = some (.int .i64 f) := by have h' : w.heap[b]? = _ := h; simp [World.cell?, h']
theorem RdC.c5 (h : RdC w b m v g t f x) : w.cell? ⟨b, 5, none⟩ = some x := by have h' : w.heap[b]? = _ := h; simp [World.cell?, h']
theorem RdC.fr (h : RdC w b m v g t f x) (o : Nat) : w.frozen? ⟨b, o, none⟩ = false := by have h' : w.heap[b]? = _ := h; simp [World.frozen?, h']
theorem RdC.drewN (h : RdC w b m v g t f x) (n : Nat) : RdC (w.drewN n) b m v g t f x := h
theorem RdC.put1 (h : RdC w b m v g t f x) (y : Int) : RdC (w.setCell ⟨b, 1, none⟩ (.int .i64 y)) b m y g t f x := by
  have h' : w.heap[b]? = _ := h
  simpa [RdC] using Go.heap_setCell_same w b 1 _ _ (.int .i64 y) h'
theorem RdC.put2 (h : RdC w b m v g t f x) (y : Bool) : RdC (w.setCell ⟨b, 2, none⟩ (.bool y)) b m v y t f x := by
  have h' : w.heap[b]? = _ := h
  simpa [RdC] using Go.heap_setCell_same w b 2 _ _ (.bool y) h'
theorem RdC.put3 (h : RdC w b m v g t f x) (y : Int) : RdC (w.setCell ⟨b, 3, none⟩ (.int .i64 y)) b m v g y f x := by
  have h' : w.heap[b]? = _ := h
  simpa [RdC] using Go.heap_setCell_same w b 3 _ _ (.int .i64 y) h'
theorem RdC.put4 (h : RdC w b m v g t f x) (y : Int) : RdC (w.setCell ⟨b, 4, none⟩ (.int .i64 y)) b m v g t y x := by
  have h' : w.heap[b]? = _ := h
  simpa [RdC] using Go.heap_setCell_same w b 4 _ _ (.int .i64 y) h'
theorem RdC.put5 (h : RdC w b m v g t f x) (y : Value) : RdC (w.setCell ⟨b, 5, none⟩ y) b m v g t f y := by
  have h' : w.heap[b]? = _ := h
  simpa [RdC] using Go.heap_setCell_same w b 5 _ _ y h'
end
theorem grown_set (W : World) (b o : Nat) (v : Value) : W.grownBy (W.setCell ⟨b, o, none⟩ v) (some b) :=
  ⟨rfl, rfl, rfl, by simp, fun k hk hn => Below.heap_setCell W _ v k (by intro e; exact hn (by rw [e]))⟩
theorem grown_drew (W : World) (n : Nat) (row : Option Nat) : W.grownBy (W.drewN n) row := ⟨rfl, rfl, rfl, Nat.le_refl _, fun _ _ _ => rfl⟩
def nxA (b : Nat) : Value := .func (.func 144) #[.pointer (some ⟨b, 0, none⟩)] #[]
def nxR (b : Nat) : Value := .func (.func 145) #[.pointer (some ⟨b, 0, none⟩)] #[]
def nxD (b : Nat) : Value := .func (.func 146) #[.pointer (some ⟨b, 0, none⟩)] #[]
def nxB (b : Nat) : Value := .func (.func 149) #[.pointer (some ⟨b, 0, none⟩)] #[]

set_option maxHeartbeats 1000000 in
theorem tokNew_any (m : Int) (w : World) :
    Calls Try.prog 139 #[.int .i64 m] w fun e w' => e = .returned (.pointer (some ⟨w.heap.size, 0, none⟩)) ∧ RdC w' w.heap.size m 0 false 0 0 (nxA w.heap.size) ∧ Below w.heap.size w w' := by
  go_enter Try.func139, Try.ntmps139
  go_wp2
  go_ret
  exact ⟨rfl, World.alloc_heap_new w _, by go_grown⟩

theorem Tk.blank_yes {c : Int} (h : c = 32 ∨ (9 ≤ c ∧ c ≤ 13)) : Tk.blank c = true := by unfold Tk.blank; exact decide_eq_true h
theorem Tk.blank_no {c : Int} (h : ¬ (c = 32 ∨ (9 ≤ c ∧ c ≤ 13))) : Tk.blank c = false := by unfold Tk.blank; exact decide_eq_false h
set_option maxHeartbeats 1000000 in
theorem blank_any (c : Int) (c0 : 0 ≤ c) (c1 : c ≤ 255) (w : World) :
    Calls Try.prog 108 #[.int .u8 c] w fun e w' => e = .returned (.bool (Tk.blank c)) ∧ w = w' := by
  by_cases h1 : c < 9
  · have X := Lib.hid (Tk.blank_no (c := c) (by omega))
    have h2 : (c == 32) = false := by simp; omega
    have h3 : decide (9 ≤ c) = false := decide_eq_false (by omega)
    clear c0 c1
    go_enter Try.func108, Try.ntmps108
    go_wp2
    go_ret
    exact ⟨ret_b X.out.symm, rfl⟩
  by_cases h2 : c ≤ 13
  · have X := Lib.hid (Tk.blank_yes (c := c) (by omega))
    have h3 : decide (9 ≤ c) = true := decide_eq_true (by omega)
    have h4 : decide (c ≤ 13) = true := decide_eq_true (by omega)
    have h5 : 9 ≤ c := by omega
    clear h1
    go_enter Try.func108, Try.ntmps108
    go_wp2
    go_ret
    exact ⟨ret_b X.out.symm, rfl⟩
  have h3 : decide (9 ≤ c) = true := decide_eq_true (by omega)
  have h4 : decide (c ≤ 13) = false := decide_eq_false (by omega)
  have h6 : 9 ≤ c := by omega
  by_cases h5 : c = 32
  · subst h5
    have X := Lib.hid (Tk.blank_yes (c := 32) (by omega))
    go_enter Try.func108, Try.ntmps108
    go_wp2
    go_ret
    exact ⟨ret_b X.out.symm, rfl⟩
  · have X := Lib.hid (Tk.blank_no (c := c) (by omega))
    have h7 : (c == 32) = false := by simp; omega
    go_enter Try.func108, Try.ntmps108
    go_wp2
    go_ret
    exact ⟨ret_b X.out.symm, rfl⟩
set_option maxHeartbeats 1000000 in
theorem refBlank_any (c : Int) (c0 : 0 ≤ c) (c1 : c ≤ 255) (w : World) :
    Calls Try.prog 56 #[.int .u8 c] w fun e w' => e = .returned (.bool (Tk.blank c)) ∧ w = w' := by
  by_cases h5 : c = 32
  · subst h5
    have X := Lib.hid (Tk.blank_yes (c := 32) (by omega))
    go_enter Try.func56, Try.ntmps56
    go_wp2
    go_ret
    exact ⟨ret_b X.out.symm, rfl⟩
  have h7 : (c == 32) = false := by simp; omega
  by_cases h1 : c < 9
  · have X := Lib.hid (Tk.blank_no (c := c) (by omega))
    have h3 : decide (9 ≤ c) = false := decide_eq_false (by omega)
    clear c0 c1
    go_enter Try.func56, Try.ntmps56
    go_wp2
    go_ret
    exact ⟨ret_b X.out.symm, rfl⟩
  have h3 : decide (9 ≤ c) = true := decide_eq_true (by omega)
  have h6 : 9 ≤ c := by omega
  by_cases h2 : c ≤ 13
  · have X := Lib.hid (Tk.blank_yes (c := c) (by omega))
    have h4 : decide (c ≤ 13) = true := decide_eq_true (by omega)
    go_enter Try.func56, Try.ntmps56
    go_wp2
    go_ret
    exact ⟨ret_b X.out.symm, rfl⟩
  · have X := Lib.hid (Tk.blank_no (c := c) (by omega))
    have h4 : decide (c ≤ 13) = false := decide_eq_false (by omega)
    go_enter Try.func56, Try.ntmps56
    go_wp2
    go_ret
    exact ⟨ret_b X.out.symm, rfl⟩
set_option maxHeartbeats 1000000 in
theorem ends_any (c : Int) (c0 : 0 ≤ c) (c1 : c ≤ 255) (w : World) :
    Calls Try.prog 148 #[.int .u8 c] w fun e w' => e = .returned (.bool (Tk.line c)) ∧ w = w' := by
  by_cases h5 : c = 10
  · subst h5
    go_enter Try.func148, Try.ntmps148
    go_wp2
    go_ret
    exact ⟨rfl, rfl⟩
  have h7 : (c == 10) = false := by simp; omega
  by_cases h6 : c = 13
  · subst h6
    go_enter Try.func148, Try.ntmps148
    go_wp2
    go_ret
    exact ⟨rfl, rfl⟩
  · have h8 : (c == 13) = false := by simp; omega
    have X : Hid (Tk.line c = false) := by show _ = _; unfold Tk.line; exact decide_eq_false (by omega)
    go_enter Try.func148, Try.ntmps148
    go_wp2
    go_ret
    exact ⟨ret_b X.out.symm, rfl⟩
set_option maxHeartbeats 1000000 in
/-- a digit is taken -/
theorem take_yes (w : World) (b : Nat) (m v : Int) (g : Bool) (t f : Int) (x : Value) (h : RdC w b m v g t f x) (v0 : 0 ≤ v) (v1 : v ≤ m) (m1 : m ≤ 4611686018427387903) (c : Int) (c0 : 0 ≤ c) (c1 : c ≤ 255) (n : Int) (hs : Nu.stepV v c m = (n, 0)) :
    Calls Try.prog 147 #[.pointer (some ⟨b, 0, none⟩), .int .u8 c] w fun e w' => e = .returned (.int .i64 0) ∧ RdC w' b m n true t f x ∧ w.grownBy w' (some b) := by
  have hc0 := h.c0
  have hc1 := h.c1
  have hc2 := h.c2
  have HS : Hid (∀ W, Calls Try.prog 125 #[.int .i64 v, .int .u8 c, .int .i64 m] W fun r w' => r = .returned (.tuple #[.int .i64 n, .int .i64 0]) ∧ W = w') := fun W => step_two v c m v0 v1 m1 c0 c1 n 0 hs W
  have f1 := h.fr 1
  have f2 := h.fr 2
  clear hs
  go_enter Try.func147, Try.ntmps147
  go_wp2_with (go_quiet ((go_at_call 125; exact Calls.quiet_of_same ((HS.out _).mono fun e w' hh => ⟨hh.1, hh.2.symm⟩))))
  go_ret
  exact ⟨rfl, ((h.drewN _).put1 _).put2 _, ((grown_drew _ _ _).trans (grown_set _ _ _ _)).trans (grown_set _ _ _ _)⟩
set_option maxHeartbeats 1000000 in
/-- a byte is refused -/
theorem take_no (w : World) (b : Nat) (m v : Int) (g : Bool) (t f : Int) (x : Value) (h : RdC w b m v g t f x) (v0 : 0 ≤ v) (v1 : v ≤ m) (m1 : m ≤ 4611686018427387903) (c : Int) (c0 : 0 ≤ c) (c1 : c ≤ 255) (n e : Int) (hs : Nu.stepV v c m = (n, e)) (he : e ≠ 0) :
    Calls Try.prog 147 #[.pointer (some ⟨b, 0, none⟩), .int .u8 c] w fun r w' => r = .returned (.int .i64 2) ∧ RdC w' b m v g t e x ∧ w.grownBy w' (some b) := by
  have hc0 := h.c0
  have hc1 := h.c1
  have HS : Hid (∀ W, Calls Try.prog 125 #[.int .i64 v, .int .u8 c, .int .i64 m] W fun r w' => r = .returned (.tuple #[.int .i64 n, .int .i64 e]) ∧ W = w') := fun W => step_two v c m v0 v1 m1 c0 c1 n e hs W
  have f4 := h.fr 4
  have hc4 := h.c4
  have ke : (e != 0) = true := by simpa using he
  clear hs he
  go_enter Try.func147, Try.ntmps147
  go_wp2_with (go_quiet ((go_at_call 125; exact Calls.quiet_of_same ((HS.out _).mono fun e w' hh => ⟨hh.1, hh.2.symm⟩))))
  go_ret
  exact ⟨rfl, (h.drewN _).put4 _, (grown_drew _ _ _).trans (grown_set _ _ _ _)⟩
end Go.Proofs.Ytldhhhmihfcalaa

/- A reader of a number is told a byte, over any memory. Condition: its greatest number fits. -/
namespace Go.Proofs.Ytldhhhmihfcalaa
open Go.RowKit
set_option linter.unusedVariables false

/-- what a part of a reader hands back, and what its block holds then -/
def PtR (w : World) (b : Nat) (m v : Int) (g : Bool) (f : Int) (x : Value) (t : Int) (e : Ending) (w' : World) : Prop :=
  e = .returned (.int .i64 t) ∧ RdC w' b m v g 0 f x ∧ w.grownBy w' (some b)
set_option maxHeartbeats 1000000 in
theorem ahead_blank (w : World) (b : Nat) (m v : Int) (g : Bool) (f : Int) (c : Int) (c0 : 0 ≤ c) (c1 : c ≤ 255) (hb : Tk.blank c = true) (h : RdC w b m v g 0 f (nxA b)) :
    Calls Try.prog 144 #[.pointer (some ⟨b, 0, none⟩), .int .u8 c] w (PtR w b m v g f (nxA b) 0) := by
  have HB : Hid (∀ W, Calls Try.prog 108 #[.int .u8 c] W fun e w' => e = .returned (.bool true) ∧ W = w') := fun W => by have := blank_any c c0 c1 W; rw [hb] at this; exact this
  clear hb
  go_enter Try.func144, Try.ntmps144
  go_wp2_with (go_at_call 108; refine (HB.out _).mono ?_; rintro e w1 ⟨rfl, rfl⟩)
  go_ret
  exact ⟨rfl, h, .refl _ _⟩
set_option maxHeartbeats 1000000 in
theorem ahead_rem (w : World) (b : Nat) (m v : Int) (g : Bool) (f : Int) (c : Int) (c0 : 0 ≤ c) (c1 : c ≤ 255) (hc : c = 35) (h : RdC w b m v g 0 f (nxA b)) :
    Calls Try.prog 144 #[.pointer (some ⟨b, 0, none⟩), .int .u8 c] w (PtR w b m v g f (nxR b) 0) := by
  subst hc
  have hb : Tk.blank 35 = false := by decide
  have HB : Hid (∀ W, Calls Try.prog 108 #[.int .u8 35] W fun e w' => e = .returned (.bool false) ∧ W = w') := fun W => by have := blank_any 35 c0 c1 W; rw [hb] at this; exact this
  have hc5 := h.c5
  have hf5 := h.fr 5
  clear hb
  go_enter Try.func144, Try.ntmps144
  go_wp2_with (go_at_call 108; refine (HB.out _).mono ?_; rintro e w1 ⟨rfl, rfl⟩)
  go_ret
  exact ⟨rfl, h.put5 _, grown_set _ _ _ _⟩
set_option maxHeartbeats 1000000 in
theorem ahead_yes (w : World) (b : Nat) (m v : Int) (g : Bool) (f : Int) (c : Int) (c0 : 0 ≤ c) (c1 : c ≤ 255) (hb : Tk.blank c = false) (hc : ¬ c = 35) (v0 : 0 ≤ v) (v1 : v ≤ m) (m1 : m ≤ 4611686018427387903) (n : Int) (hs : Nu.stepV v c m = (n, 0)) (h : RdC w b m v g 0 f (nxA b)) :
    Calls Try.prog 144 #[.pointer (some ⟨b, 0, none⟩), .int .u8 c] w (PtR w b m n true f (nxD b) 0) := by
  have HB : Hid (∀ W, Calls Try.prog 108 #[.int .u8 c] W fun e w' => e = .returned (.bool false) ∧ W = w') := fun W => by have := blank_any c c0 c1 W; rw [hb] at this; exact this
  have HT : Hid (∀ W, RdC W b m v g 0 f (nxD b) → Calls Try.prog 147 #[.pointer (some ⟨b, 0, none⟩), .int .u8 c] W (PtR W b m n true f (nxD b) 0)) := fun W hr => (take_yes W b m v g 0 f (nxD b) hr v0 v1 m1 c c0 c1 n hs).mono fun _ _ hh => hh
  have hk : (c == 35) = false := by simpa using hc
  have hc5 := h.c5
  have hf5 := h.fr 5
  clear hb hc v0 v1 m1 hs
  go_enter Try.func144, Try.ntmps144
  go_wp2_with (first | (go_at_call 108; refine (HB.out _).mono ?_; rintro e w1 ⟨rfl, rfl⟩) | (go_at_call 147; refine (HT.out _ (h.put5 _)).mono ?_; rintro e w2 ⟨rfl, h2, hg2⟩))
  go_ret
  exact ⟨rfl, h2, (grown_set _ _ _ _).trans hg2⟩
set_option maxHeartbeats 1000000 in
theorem digit_yes (w : World) (b : Nat) (m v : Int) (g : Bool) (f : Int) (c : Int) (c0 : 0 ≤ c) (c1 : c ≤ 255) (hb : Tk.blank c = false) (hc : ¬ c = 35) (v0 : 0 ≤ v) (v1 : v ≤ m) (m1 : m ≤ 4611686018427387903) (n : Int) (hs : Nu.stepV v c m = (n, 0)) (h : RdC w b m v g 0 f (nxD b)) :
    Calls Try.prog 146 #[.pointer (some ⟨b, 0, none⟩), .int .u8 c] w (PtR w b m n true f (nxD b) 0) := by
  have HB : Hid (∀ W, Calls Try.prog 108 #[.int .u8 c] W fun e w' => e = .returned (.bool false) ∧ W = w') := fun W => by have := blank_any c c0 c1 W; rw [hb] at this; exact this
  have HT : Hid (∀ W, RdC W b m v g 0 f (nxD b) → Calls Try.prog 147 #[.pointer (some ⟨b, 0, none⟩), .int .u8 c] W (PtR W b m n true f (nxD b) 0)) := fun W hr => (take_yes W b m v g 0 f (nxD b) hr v0 v1 m1 c c0 c1 n hs).mono fun _ _ hh => hh
  have hk : (c == 35) = false := by simpa using hc
  clear hb hc v0 v1 m1 hs
  go_enter Try.func146, Try.ntmps146
  go_wp2_with (first | (go_at_call 108; refine (HB.out _).mono ?_; rintro e w1 ⟨rfl, rfl⟩) | (go_at_call 147; refine (HT.out _ h).mono ?_; rintro e w2 ⟨rfl, h2, hg2⟩))
  go_ret
  exact ⟨rfl, h2, hg2⟩
set_option maxHeartbeats 1000000 in
theorem ahead_no (w : World) (b : Nat) (m v : Int) (g : Bool) (f : Int) (c : Int) (c0 : 0 ≤ c) (c1 : c ≤ 255) (hb : Tk.blank c = false) (hc : ¬ c = 35) (v0 : 0 ≤ v) (v1 : v ≤ m) (m1 : m ≤ 4611686018427387903) (n e : Int) (hs : Nu.stepV v c m = (n, e)) (he : e ≠ 0) (h : RdC w b m v g 0 f (nxA b)) :
    Calls Try.prog 144 #[.pointer (some ⟨b, 0, none⟩), .int .u8 c] w (PtR w b m v g e (nxD b) 2) := by
  have HB : Hid (∀ W, Calls Try.prog 108 #[.int .u8 c] W fun e w' => e = .returned (.bool false) ∧ W = w') := fun W => by have := blank_any c c0 c1 W; rw [hb] at this; exact this
  have HT : Hid (∀ W, RdC W b m v g 0 f (nxD b) → Calls Try.prog 147 #[.pointer (some ⟨b, 0, none⟩), .int .u8 c] W (PtR W b m v g e (nxD b) 2)) := fun W hr => (take_no W b m v g 0 f (nxD b) hr v0 v1 m1 c c0 c1 n e hs he).mono fun _ _ hh => hh
  have hk : (c == 35) = false := by simpa using hc
  have hc5 := h.c5
  have hf5 := h.fr 5
  clear hb hc v0 v1 m1 hs he
  go_enter Try.func144, Try.ntmps144
  go_wp2_with (first | (go_at_call 108; refine (HB.out _).mono ?_; rintro e w1 ⟨rfl, rfl⟩) | (go_at_call 147; refine (HT.out _ (h.put5 _)).mono ?_; rintro e w2 ⟨rfl, h2, hg2⟩))
  go_ret
  exact ⟨rfl, h2, (grown_set _ _ _ _).trans hg2⟩
set_option maxHeartbeats 1000000 in
theorem digit_no (w : World) (b : Nat) (m v : Int) (g : Bool) (f : Int) (c : Int) (c0 : 0 ≤ c) (c1 : c ≤ 255) (hb : Tk.blank c = false) (hc : ¬ c = 35) (v0 : 0 ≤ v) (v1 : v ≤ m) (m1 : m ≤ 4611686018427387903) (n e : Int) (hs : Nu.stepV v c m = (n, e)) (he : e ≠ 0) (h : RdC w b m v g 0 f (nxD b)) :
    Calls Try.prog 146 #[.pointer (some ⟨b, 0, none⟩), .int .u8 c] w (PtR w b m v g e (nxD b) 2) := by
  have HB : Hid (∀ W, Calls Try.prog 108 #[.int .u8 c] W fun e w' => e = .returned (.bool false) ∧ W = w') := fun W => by have := blank_any c c0 c1 W; rw [hb] at this; exact this
  have HT : Hid (∀ W, RdC W b m v g 0 f (nxD b) → Calls Try.prog 147 #[.pointer (some ⟨b, 0, none⟩), .int .u8 c] W (PtR W b m v g e (nxD b) 2)) := fun W hr => (take_no W b m v g 0 f (nxD b) hr v0 v1 m1 c c0 c1 n e hs he).mono fun _ _ hh => hh
  have hk : (c == 35) = false := by simpa using hc
  clear hb hc v0 v1 m1 hs he
  go_enter Try.func146, Try.ntmps146
  go_wp2_with (first | (go_at_call 108; refine (HB.out _).mono ?_; rintro e w1 ⟨rfl, rfl⟩) | (go_at_call 147; refine (HT.out _ h).mono ?_; rintro e w2 ⟨rfl, h2, hg2⟩))
  go_ret
  exact ⟨rfl, h2, hg2⟩
set_option maxHeartbeats 1000000 in
theorem digit_blank (w : World) (b : Nat) (m v : Int) (g : Bool) (f : Int) (c : Int) (c0 : 0 ≤ c) (c1 : c ≤ 255) (hb : Tk.blank c = true) (h : RdC w b m v g 0 f (nxD b)) :
    Calls Try.prog 146 #[.pointer (some ⟨b, 0, none⟩), .int .u8 c] w (PtR w b m v g f (nxD b) 1) := by
  have HB : Hid (∀ W, Calls Try.prog 108 #[.int .u8 c] W fun e w' => e = .returned (.bool true) ∧ W = w') := fun W => by have := blank_any c c0 c1 W; rw [hb] at this; exact this
  clear hb
  go_enter Try.func146, Try.ntmps146
  go_wp2_with (go_at_call 108; refine (HB.out _).mono ?_; rintro e w1 ⟨rfl, rfl⟩)
  go_ret
  exact ⟨rfl, h, .refl _ _⟩
set_option maxHeartbeats 1000000 in
theorem digit_rem (w : World) (b : Nat) (m v : Int) (g : Bool) (f : Int) (c : Int) (c0 : 0 ≤ c) (c1 : c ≤ 255) (hc : c = 35) (h : RdC w b m v g 0 f (nxD b)) :
    Calls Try.prog 146 #[.pointer (some ⟨b, 0, none⟩), .int .u8 c] w (PtR w b m v g f (nxB b) 0) := by
  subst hc
  have hb : Tk.blank 35 = false := by decide
  have HB : Hid (∀ W, Calls Try.prog 108 #[.int .u8 35] W fun e w' => e = .returned (.bool false) ∧ W = w') := fun W => by have := blank_any 35 c0 c1 W; rw [hb] at this; exact this
  have hc5 := h.c5
  have hf5 := h.fr 5
  clear hb
  go_enter Try.func146, Try.ntmps146
  go_wp2_with (go_at_call 108; refine (HB.out _).mono ?_; rintro e w1 ⟨rfl, rfl⟩)
  go_ret
  exact ⟨rfl, h.put5 _, grown_set _ _ _ _⟩
set_option maxHeartbeats 1000000 in
theorem remA_line (w : World) (b : Nat) (m v : Int) (g : Bool) (f : Int) (c : Int) (c0 : 0 ≤ c) (c1 : c ≤ 255) (hb : Tk.line c = true) (h : RdC w b m v g 0 f (nxR b)) :
    Calls Try.prog 145 #[.pointer (some ⟨b, 0, none⟩), .int .u8 c] w (PtR w b m v g f (nxA b) 0) := by
  have HB : Hid (∀ W, Calls Try.prog 148 #[.int .u8 c] W fun e w' => e = .returned (.bool true) ∧ W = w') := fun W => by have := ends_any c c0 c1 W; rw [hb] at this; exact this
  have hc5 := h.c5
  have hf5 := h.fr 5
  clear hb
  go_enter Try.func145, Try.ntmps145
  go_wp2_with (go_at_call 148; refine (HB.out _).mono ?_; rintro e w1 ⟨rfl, rfl⟩)
  go_ret
  exact ⟨rfl, h.put5 _, grown_set _ _ _ _⟩
set_option maxHeartbeats 1000000 in
theorem remA_not (w : World) (b : Nat) (m v : Int) (g : Bool) (f : Int) (c : Int) (c0 : 0 ≤ c) (c1 : c ≤ 255) (hb : Tk.line c = false) (h : RdC w b m v g 0 f (nxR b)) :
    Calls Try.prog 145 #[.pointer (some ⟨b, 0, none⟩), .int .u8 c] w (PtR w b m v g f (nxR b) 0) := by
  have HB : Hid (∀ W, Calls Try.prog 148 #[.int .u8 c] W fun e w' => e = .returned (.bool false) ∧ W = w') := fun W => by have := ends_any c c0 c1 W; rw [hb] at this; exact this
  clear hb
  go_enter Try.func145, Try.ntmps145
  go_wp2_with (go_at_call 148; refine (HB.out _).mono ?_; rintro e w1 ⟨rfl, rfl⟩)
  go_ret
  exact ⟨rfl, h, .refl _ _⟩
set_option maxHeartbeats 1000000 in
theorem remB_line (w : World) (b : Nat) (m v : Int) (g : Bool) (f : Int) (c : Int) (c0 : 0 ≤ c) (c1 : c ≤ 255) (hb : Tk.line c = true) (h : RdC w b m v g 0 f (nxB b)) :
    Calls Try.prog 149 #[.pointer (some ⟨b, 0, none⟩), .int .u8 c] w (PtR w b m v g f (nxB b) 1) := by
  have HB : Hid (∀ W, Calls Try.prog 148 #[.int .u8 c] W fun e w' => e = .returned (.bool true) ∧ W = w') := fun W => by have := ends_any c c0 c1 W; rw [hb] at this; exact this
  clear hb
  go_enter Try.func149, Try.ntmps149
  go_wp2_with (go_at_call 148; refine (HB.out _).mono ?_; rintro e w1 ⟨rfl, rfl⟩)
  go_ret
  exact ⟨rfl, h, .refl _ _⟩
set_option maxHeartbeats 1000000 in
theorem remB_not (w : World) (b : Nat) (m v : Int) (g : Bool) (f : Int) (c : Int) (c0 : 0 ≤ c) (c1 : c ≤ 255) (hb : Tk.line c = false) (h : RdC w b m v g 0 f (nxB b)) :
    Calls Try.prog 149 #[.pointer (some ⟨b, 0, none⟩), .int .u8 c] w (PtR w b m v g f (nxB b) 0) := by
  have HB : Hid (∀ W, Calls Try.prog 148 #[.int .u8 c] W fun e w' => e = .returned (.bool false) ∧ W = w') := fun W => by have := ends_any c c0 c1 W; rw [hb] at this; exact this
  clear hb
  go_enter Try.func149, Try.ntmps149
  go_wp2_with (go_at_call 148; refine (HB.out _).mono ?_; rintro e w1 ⟨rfl, rfl⟩)
  go_ret
  exact ⟨rfl, h, .refl _ _⟩
set_option maxHeartbeats 1000000 in
/-- the part that is told the byte stands in the sixth cell -/
theorem put_next (w : World) (b n : Nat) (m v : Int) (g : Bool) (f : Int) (c : Int) (m' v' : Int) (g' : Bool) (f' : Int) (x' : Value) (t' : Int) (hn : ∀ args w, (callFunc n args).run Try.prog w = .ok (.enter n args) w)
    (h : RdC w b m v g 0 f (.func (.func n) #[.pointer (some ⟨b, 0, none⟩)] #[])) (hcall : Calls Try.prog n #[.pointer (some ⟨b, 0, none⟩), .int .u8 c] w (PtR w b m v' g' f' x' t')) :
    Calls Try.prog 140 #[.pointer (some ⟨b, 0, none⟩), .int .u8 c] w fun e w' => e = .returned (.int .i64 t') ∧ RdC w' b m v' g' t' f' x' ∧ w.grownBy w' (some b) := by
  have hc3 := h.c3
  have hc5 := h.c5
  have HC := Lib.hid hcall
  clear hcall
  go_enter Try.func140, Try.ntmps140
  go_wp2_with (go_at_fn n; refine HC.out.mono ?_; rintro e w2 ⟨rfl, h2, hg2⟩; have hd3 := h2.c3; have hf3 := h2.fr 3)
  go_ret
  exact ⟨rfl, h2.put3 _, hg2.trans (grown_set _ _ _ _)⟩
set_option maxHeartbeats 1000000 in
/-- it is told nothing more -/
theorem put_done (w : World) (b : Nat) (m v : Int) (g : Bool) (f : Int) (c t : Int) (x : Value) (ht : t ≠ 0) (h : RdC w b m v g t f x) :
    Calls Try.prog 140 #[.pointer (some ⟨b, 0, none⟩), .int .u8 c] w fun e w' => e = .returned (.int .i64 t) ∧ w = w' := by
  have hc3 := h.c3
  have ht' : (t == 0) = false := by simpa using ht
  go_enter Try.func140, Try.ntmps140
  go_wp2
  go_ret
  exact ⟨rfl, rfl⟩
end Go.Proofs.Ytldhhhmihfcalaa

/- 'append(v, y...)' where v is the call's own and y any slice of integers that is known, nil and empty ones too: as a law for the walk. No condition beyond what is named. -/
namespace Go.Proofs.Ytldhhhmihfcalaa
open Go.RowKit
set_option linter.unusedVariables false

theorem app_none {P : Program} {w : World} (base : Nat) (t ty e : TypeId) (i : TypeInfo) (size : Nat) (ht : P.underlying t = some (.slice e)) (hi : P.info? e = some i)
    (v : Value) (n c : Nat) (xs : List Value) (hown : w.ownsRow base e size v n xs) :
    (Builtin.append_ #[t, t] ty #[v, .slice none 0 c]).run P w = .ok v w := by
  rcases hown.2 with ⟨rfl, rfl⟩ | ⟨g, cap, cur, rfl, _, _, hnc, _⟩
  · simp [Builtin.append_, run_underlying ht, sizeOf, typeInfo, hi, Builtin.lenOf, Builtin.firstCells]
  · simp [Builtin.append_, run_underlying ht, sizeOf, typeInfo, hi, Builtin.lenOf, Builtin.firstCells, hnc, storeCells]
theorem ints_one (q : IntKind) (l : List Int) : ∀ u ∈ l.map (Value.int q), u.oneCell' = true := by
  intro u hu; obtain ⟨x, _, rfl⟩ := List.mem_map.1 hu; rfl
theorem run_app {P : Program} {w : World} (base : Nat) (t ty e : TypeId) (i : TypeInfo) (q : IntKind) (bytes : Nat) (ht : P.underlying t = some (.slice e)) (hi : P.info? e = some i) (hz : i.zero = some (.int q 0))
    (hsize : i.size = 1) (hby : i.bytes = bytes) (v : Value) (n : Nat) (xs : List Value) (hown : w.ownsRow base e 1 v n xs)
    (a : Option Addr) (m c : Nat) (l : List Int) (hy : SlK q w a m l) (h63 : n + m ≤ maxLen) (hbytes : (n + m) * bytes ≤ 140737488355328) (hbase : base ≤ w.heap.size) :
    ∃ v' w', (Builtin.append_ #[t, t] ty #[v, .slice a m c]).run P w = .ok v' w' ∧ w'.ownsRow base e 1 v' (n + m) (xs ++ l.map (Value.int q)) ∧ w.grownBy w' v.ownBlock ∧ (v'.ownBlock = v.ownBlock ∨ v'.ownBlock = some w.heap.size) := by
  obtain ⟨hl, hc⟩ := hy
  cases a with
  | none =>
    have hm : m = 0 := by
      rcases hc with h | ⟨_, _, h, _⟩
      · exact h
      · cases h
    subst hm
    have hl0 : l = [] := List.length_eq_zero_iff.1 hl
    subst hl0
    exact ⟨v, w, app_none base t ty e i 1 ht hi v n c xs hown, by simpa using hown, ⟨rfl, rfl, rfl, Nat.le_refl _, fun _ _ _ => rfl⟩, .inl rfl⟩
  | some ad =>
    obtain ⟨v', w', h1, h2, h3, _, h5⟩ := run_append_own_at (P := P) w base t ty e i (.int q 0) 1 bytes ht hi hz hsize hby rfl (by decide) v n xs hown ad m c (l.map (Value.int q)) (by rw [List.length_map, hl, Nat.mul_one]) (fun j u hu => by
      have hj : j < m := by
        rcases Nat.lt_or_ge j m with h | h
        · exact h
        · rw [List.getElem?_eq_none (by rw [List.length_map]; omega)] at hu; cases hu
      rcases hc with h | ⟨blk, off, ha, hcell⟩
      · omega
      · cases ha
        rw [addrK_add, hcell j hj]
        rw [List.getElem?_map, List.getElem?_eq_getElem (by omega)] at hu
        rw [List.getD_eq_getElem?_getD, List.getElem?_eq_getElem (by omega)]
        exact hu) (ints_one q l) h63 hbytes hbase
    exact ⟨v', w', h1, h2, h3, h5⟩
theorem wpList_app {P : Program} {w : World} {ops : Array Oper} {rest : List Oper} {o : Oper} {a : Act} {Q : Exit → Act → World → Prop} (hgd : o.guard = none) (s x : Operand) (t : TypeId)
    (ho : o.op = .call { callee := .builtin .append, args := #[s, x], argTypes := #[t, t] })
    (base : Nat) (e : TypeId) (i : TypeInfo) (q : IntKind) (bytes : Nat) (ht : P.underlying t = some (.slice e)) (hi : P.info? e = some i) (hz : i.zero = some (.int q 0))
    (hsize : i.size = 1) (hby : i.bytes = bytes) (v : Value) (n : Nat) (xs : List Value) (hs : a.eval s = v) (hown : w.ownsRow base e 1 v n xs)
    (ad : Option Addr) (m c : Nat) (l : List Int) (hx : a.eval x = .slice ad m c) (hy : SlK q w ad m l) (h63 : n + m ≤ maxLen) (hbytes : (n + m) * bytes ≤ 140737488355328) (hbase : base ≤ w.heap.size)
    (h : ∀ v' w', w'.ownsRow base e 1 v' (n + m) (xs ++ l.map (Value.int q)) → w.grownBy w' v.ownBlock → (v'.ownBlock = v.ownBlock ∨ v'.ownBlock = some w.heap.size) → wpList P ops Q rest (a.put o.dst v') w') : wpList P ops Q (o :: rest) a w := by
  refine wpList_plain hgd fun K hK => ?_
  obtain ⟨v', w', hr, h2, h3, h4⟩ := run_app (P := P) (w := w) base t o.type e i q bytes ht hi hz hsize hby v n xs hown ad m c l hy h63 hbytes hbase
  unfold Oper.wp execOp
  simp only [ho, resolve, invoke, builtin, Sem.run_bind, Sem.run_pure, Result.andThen_ok, List.map_toArray, List.map_cons, List.map_nil, hs, hx, hr]
  exact hK _ _ (h v' w' h2 h3 h4)
end Go.Proofs.Ytldhhhmihfcalaa

/- More plain facts on pixels as numbers: formats, gray, dark for light, another greatest sample. No condition. -/
namespace Go.Proofs.Ytldhhhmihfcalaa
open Go.RowKit
namespace Pq
namespace Px
theorem fitsV_iff {p c m : Int} : fitsV p c m = (formatV c m && (((smp p).length : Int) == c && (smp p).all fun s => decide (s ≤ m))) := by
  cases hf : formatV c m
  · exact fitsV_bad hf
  · have hc := formatC hf
    unfold fitsV
    rw [hf, show ((smp p).length == c.toNat) = (((smp p).length : Int) == c) by rw [Bool.eq_iff_iff, beq_iff_eq, beq_iff_eq]; omega]
theorem fitsV3_all {p a b d c m : Int} (h : Is3 p a b d) (ha : a ≤ m) (hb : b ≤ m) (hd : d ≤ m) : fitsV p c m = (formatV c m && ((3 : Int) == c)) := by
  rw [fitsV_iff, smp3 h]; simp [ha, hb, hd]
theorem fitsV3_bad {p a b d c m : Int} (h : Is3 p a b d) (hx : m < a ∨ m < b ∨ m < d) : fitsV p c m = false := by
  rw [fitsV_iff, smp3 h]; simp; intros; omega
theorem fitsV1_all {p a c m : Int} (h : Is1 p a) (ha : a ≤ m) : fitsV p c m = (formatV c m && ((1 : Int) == c)) := by
  rw [fitsV_iff, smp1 h]; simp [ha]
theorem fitsV1_bad {p a c m : Int} (h : Is1 p a) (hx : m < a) : fitsV p c m = false := by
  rw [fitsV_iff, smp1 h]; simp; intros; omega
theorem fitsV0 {p c m : Int} (h : Is0 p) : fitsV p c m = false := by
  cases hf : formatV c m
  · exact fitsV_bad hf
  · have := formatC hf
    exact fitsV_len (by rw [smp0 h]; simp; omega)
theorem fits3_get {p a b d c m : Int} (h : Is3 p a b d) (hf : fitsV p c m = true) : c = 3 ∧ a ≤ m ∧ b ≤ m ∧ d ≤ m ∧ 1 ≤ m ∧ m ≤ 65535 := by
  rw [fitsV_iff, smp3 h] at hf
  simp at hf
  have := formatM hf.1
  omega
theorem fits1_get {p a c m : Int} (h : Is1 p a) (hf : fitsV p c m = true) : c = 1 ∧ a ≤ m ∧ 1 ≤ m ∧ m ≤ 65535 := by
  rw [fitsV_iff, smp1 h] at hf
  simp at hf
  have := formatM hf.1
  omega
theorem turned3 {p a b d c m : Int} (h : Is3 p a b d) (hf : fitsV p c m = true) : turnedV p c m = (844424930131968 + (m - a) * 4294967296 + (m - b) * 65536 + (m - d), 0) := by
  obtain ⟨h1, h2, h3, h4, h5, h6⟩ := fits3_get h hf
  unfold turnedV; rw [if_pos hf, smp3 h]
  obtain ⟨_, h⟩ := h
  show packV [m - a, m - b, m - d] = _
  exact packV3 (by omega) (by omega) (by omega) (by omega) (by omega) (by omega)
theorem turned1 {p a c m : Int} (h : Is1 p a) (hf : fitsV p c m = true) : turnedV p c m = (281474976710656 + (m - a), 0) := by
  obtain ⟨h1, h2, h5, h6⟩ := fits1_get h hf
  unfold turnedV; rw [if_pos hf, smp1 h]
  obtain ⟨_, h⟩ := h
  show packV [m - a] = _
  exact packV1 (by omega) (by omega)
theorem turned_no {p c m : Int} (hf : fitsV p c m = false) : turnedV p c m = (0, 1) := by unfold turnedV; rw [hf]; rfl
theorem fits0_no {p c m : Int} (h : Is0 p) (hf : fitsV p c m = true) : False := by rw [fitsV0 h] at hf; cases hf
end Px
end Pq
end Go.Proofs.Ytldhhhmihfcalaa

/- When two rows of pixels are the same, by the document, over any memory. Condition: a length fits an int. -/
namespace Go.Proofs.Ytldhhhmihfcalaa
open Go.RowKit
set_option linter.unusedVariables false
namespace Su
theorem ret_b {a b : Bool} (h : a = b) : Ending.returned (.bool a) = .returned (.bool b) := by rw [h]
theorem below_drewN {B : Nat} {a w : World} (h : Below B a w) (n : Nat) : Below B a (w.drewN n) := ⟨h.os, h.tape, h.output, h.size, h.block⟩
/-- two lists are the same up to k -/
def Alike (x y : List Int) (k : Nat) : Prop := ∀ i, i < k → x.getD i 0 = y.getD i 0
theorem alike_all {x y : List Int} {n : Nat} (hx : x.length = n) (hy : y.length = n) (h : Alike x y n) : x = y := by
  refine List.ext_getElem (by rw [hx, hy]) fun i h1 h2 => ?_
  have := h i (by omega)
  rw [List.getD_eq_getElem?_getD, List.getD_eq_getElem?_getD, List.getElem?_eq_getElem h1, List.getElem?_eq_getElem h2] at this
  simpa using this
theorem alike_succ {x y : List Int} {k : Nat} (h : Alike x y k) (e : x.getD k 0 = y.getD k 0) : Alike x y (k + 1) := fun i hi => by
  rcases Nat.lt_or_ge i k with h1 | h1
  · exact h i h1
  · obtain rfl : i = k := by omega
    exact e

set_option maxHeartbeats 1000000 in
theorem sameRow_any (a b : Option Addr) (n m ca cb : Nat) (x y : List Int) (w : World) (hn : n ≤ 9223372036854775807) (ha : SlK .u64 w a n x) (hb : SlK .u64 w b m y) :
    Calls Try.prog 40 #[.slice a n ca, .slice b m cb] w fun e w' => e = .returned (.bool (decide (x = y))) ∧ Below w.heap.size w w' := by
  by_cases h : n = m
  · subst h
    obtain ⟨lx, ha⟩ := ha
    obtain ⟨ly, hb⟩ := hb
    have LX := Lib.hid lx; clear lx
    have LY := Lib.hid ly; clear ly
    by_cases h0 : n = 0
    · subst h0
      have X := Lib.hid (show decide (x = y) = true by rw [decide_eq_true_iff, List.eq_nil_of_length_eq_zero LX.out, List.eq_nil_of_length_eq_zero LY.out])
      clear ha hb
      go_enter Try.func40, Try.ntmps40
      go_wp2
      go_rounds 1
      go_ret
      exact ⟨ret_b X.out.symm, Below.refl _ _⟩
    · rcases ha with ha | ⟨ba, oa, rfl, ha⟩
      · omega
      rcases hb with hb | ⟨bb, ob, rfl, hb⟩
      · omega
      have HA := Lib.hid ha; clear ha
      have HB := Lib.hid hb; clear hb
      go_enter Try.func40, Try.ntmps40
      go_wp2
      go_loopw [5] (fun i wr => ∃ k q : Nat, k ≤ n ∧ i = .int .i64 k ∧ Alike x y k ∧ wr = w.drewN q) (fun i _ => n - (intOf i).toNat)
      case atStart => exact ⟨0, 0, Nat.zero_le _, rfl, (fun i hi => by omega), rfl⟩
      case round =>
        obtain ⟨k, q, hk, rfl, hal, rfl⟩ := hrel
        by_cases hlt : k < n
        · have hx := HA.out k hlt
          have hy := HB.out k hlt
          obtain ⟨u, hu⟩ : ∃ u, x.getD k 0 = u := ⟨_, rfl⟩
          obtain ⟨v, hv⟩ : ∃ v, y.getD k 0 = v := ⟨_, rfl⟩
          rw [hu] at hx; rw [hv] at hy
          have HU := Lib.hid hu; clear hu
          have HV := Lib.hid hv; clear hv
          have i0 : (0 : Int) ≤ (k : Int) := Int.natCast_nonneg _
          have i1 : (k : Int) < (n : Int) := by omega
          by_cases huv : u = v
          · subst huv
            go_wp2_with (go_quiet (fail))
            go_roundw
            case rel => exact ⟨k + 1, _, by omega, by go_num, alike_succ hal (by rw [HU.out, HV.out]), rfl⟩
            case measure => simp [intOf]; omega
          · have kk : (u != v) = true := by rw [bne_iff_ne]; exact huv
            have X := Lib.hid (show decide (x = y) = false by rw [decide_eq_false_iff_not]; intro e; apply huv; rw [← HU.out, ← HV.out, e])
            go_wp2_with (go_quiet (fail))
            go_ret
            exact ⟨ret_b X.out.symm, below_drewN (below_drewN (Below.refl _ _) _) _⟩
        · obtain rfl : k = n := by omega
          have X := Lib.hid (show decide (x = y) = true by rw [decide_eq_true_iff]; exact alike_all LX.out LY.out hal)
          go_wp2
          go_ret
          exact ⟨ret_b X.out.symm, below_drewN (Below.refl _ _) _⟩
  · have X := Lib.hid (show decide (x = y) = false by rw [decide_eq_false_iff_not]; intro e; apply h; rw [← ha.1, ← hb.1, e])
    have k : ((n : Int) != m) = true := by simp; omega
    go_enter Try.func40, Try.ntmps40
    go_wp2
    go_ret
    exact ⟨ret_b X.out.symm, Below.refl _ _⟩

end Su
end Go.Proofs.Ytldhhhmihfcalaa
