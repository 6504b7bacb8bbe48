/- A range over a function whose iterator keeps state of its own in cells: what the iterator owes, what the loop's body owes, and the law that joins them. No condition beyond what is named. -/
import Derived.RangeFuncNested
import Derived.RangeFuncBound
import Derived.RangeFuncCalls
import Derived.RangeFuncLeaves
import Derived.Shelf.Abstract
import Derived.Shelf.RegionOpen
import Derived.WalkKit
namespace Go.Proofs.Ytmlinoanpcbflaa
open Go.RowKit

/-- All that lay outside Z lies as it lay. -/
structure Sep (Z : Nat → Prop) (A B : World) : Prop where
  os : B.os = A.os
  tape : B.tape = A.tape
  output : B.output = A.output
  size : A.heap.size ≤ B.heap.size
  block : ∀ k, k < A.heap.size → ¬ Z k → B.heap[k]? = A.heap[k]?
/-- All that lay in Z lies as it lay. -/
structure Hold (Z : Nat → Prop) (A B : World) : Prop where
  size : A.heap.size ≤ B.heap.size
  block : ∀ k, k < A.heap.size → Z k → B.heap[k]? = A.heap[k]?

theorem Sep.refl (Z : Nat → Prop) (A : World) : Sep Z A A := ⟨rfl, rfl, rfl, Nat.le_refl _, fun _ _ _ => rfl⟩
theorem Sep.trans {Z : Nat → Prop} {A B C : World} (h : Sep Z A B) (k : Sep Z B C) : Sep Z A C :=
  ⟨k.os.trans h.os, k.tape.trans h.tape, k.output.trans h.output, Nat.le_trans h.size k.size, fun i hi hz => (k.block i (Nat.lt_of_lt_of_le hi h.size) hz).trans (h.block i hi hz)⟩
theorem Sep.mono {Z Z' : Nat → Prop} {A B : World} (h : Sep Z A B) (hz : ∀ k, Z k → Z' k) : Sep Z' A B :=
  ⟨h.os, h.tape, h.output, h.size, fun k hk hn => h.block k hk (fun e => hn (hz k e))⟩
theorem Sep.alloc (Z : Nat → Prop) (A : World) (o : Obj) : Sep Z A (A.alloc o) := ⟨rfl, rfl, rfl, by simp, fun k hk _ => Below.heap_alloc _ _ _ hk⟩
theorem Sep.setCell {Z : Nat → Prop} (A : World) {b o : Nat} {p : Option Nat} (hz : Z b) (v : Value) : Sep Z A (A.setCell ⟨b, o, p⟩ v) :=
  ⟨rfl, rfl, rfl, by simp [World.setCell], fun k _ hn => Below.heap_setCell _ _ _ _ (fun e => hn (e ▸ hz))⟩
theorem Sep.putObj {Z : Nat → Prop} (A : World) {b : Nat} (hz : Z b) (o : Obj) : Sep Z A (A.putObj b o) :=
  ⟨rfl, rfl, rfl, by simp, fun k _ hn => World.putObj_heap_other (fun e => hn (e ▸ hz))⟩
theorem Sep.drewN (Z : Nat → Prop) (A : World) (m : Nat) : Sep Z A (A.drewN m) := ⟨rfl, rfl, rfl, Nat.le_refl _, fun _ _ _ => rfl⟩
theorem Sep.drew (Z : Nat → Prop) (A : World) : Sep Z A A.drew := ⟨rfl, rfl, rfl, Nat.le_refl _, fun _ _ _ => rfl⟩
theorem Sep.below {Z : Nat → Prop} {A B : World} {m : Nat} (h : Sep Z A B) (hm : m ≤ A.heap.size) (hz : ∀ k, k < m → ¬ Z k) : Below m A B :=
  ⟨h.os, h.tape, h.output, h.size, fun k hk => h.block k (by omega) (hz k hk)⟩
theorem Sep.cell {Z : Nat → Prop} {A B : World} (h : Sep Z A B) {b o : Nat} {p : Option Nat} {v : Value} (hb : ¬ Z b) (hc : A.cell? ⟨b, o, p⟩ = some v) : B.cell? ⟨b, o, p⟩ = some v :=
  (World.cell?_of_block (w := A) (a := ⟨b, o, p⟩) (h.block b (block_lt_of_cell hc) hb)).trans hc

theorem Sep.frozen {Z : Nat → Prop} {A B : World} (h : Sep Z A B) {b o : Nat} {p : Option Nat} (hb : ¬ Z b) (hl : b < A.heap.size) : B.frozen? ⟨b, o, p⟩ = A.frozen? ⟨b, o, p⟩ :=
  World.frozen?_of_block (w := A) (a := ⟨b, o, p⟩) (h.block b hl hb)

theorem Hold.refl (Z : Nat → Prop) (A : World) : Hold Z A A := ⟨Nat.le_refl _, fun _ _ _ => rfl⟩
theorem Hold.trans {Z : Nat → Prop} {A B C : World} (h : Hold Z A B) (k : Hold Z B C) : Hold Z A C :=
  ⟨Nat.le_trans h.size k.size, fun i hi hz => (k.block i (Nat.lt_of_lt_of_le hi h.size) hz).trans (h.block i hi hz)⟩
theorem Hold.mono {Z Z' : Nat → Prop} {A B : World} (h : Hold Z A B) (hz : ∀ k, Z' k → Z k) : Hold Z' A B := ⟨h.size, fun k hk hn => h.block k hk (hz k hn)⟩
theorem Hold.alloc (Z : Nat → Prop) (A : World) (o : Obj) : Hold Z A (A.alloc o) := ⟨by simp, fun k hk _ => Below.heap_alloc _ _ _ hk⟩
theorem Hold.setCell {Z : Nat → Prop} (A : World) {b o : Nat} {p : Option Nat} (hz : ¬ Z b) (v : Value) : Hold Z A (A.setCell ⟨b, o, p⟩ v) :=
  ⟨by simp [World.setCell], fun k _ hn => Below.heap_setCell _ _ _ _ (fun e => by simp at e; subst e; exact hz hn)⟩
theorem Hold.putObj {Z : Nat → Prop} (A : World) {b : Nat} (hz : ¬ Z b) (o : Obj) : Hold Z A (A.putObj b o) :=
  ⟨by simp, fun k _ hn => World.putObj_heap_other (fun e => hz (e ▸ hn))⟩
theorem Hold.grown {Z : Nat → Prop} {A B : World} {row : Option Nat} (hg : A.grownBy B row) (hr : ∀ k, row = some k → ¬ Z k) : Hold Z A B :=
  ⟨hg.size, fun k hk hz => hg.block k hk (fun e => hr k e.symm hz)⟩
theorem Hold.below {Z : Nat → Prop} {A B : World} {m : Nat} (h : Below m A B) (hz : ∀ k, Z k → k < m) : Hold Z A B := ⟨h.size, fun k _ hn => h.block k (hz k hn)⟩
theorem Hold.drewN (Z : Nat → Prop) (A : World) (m : Nat) : Hold Z A (A.drewN m) := ⟨Nat.le_refl _, fun _ _ _ => rfl⟩
theorem Hold.cell {Z : Nat → Prop} {A B : World} (h : Hold Z A B) {b o : Nat} {p : Option Nat} {v : Value} (hb : Z b) (hc : A.cell? ⟨b, o, p⟩ = some v) : B.cell? ⟨b, o, p⟩ = some v :=
  (World.cell?_of_block (w := A) (a := ⟨b, o, p⟩) (h.block b (block_lt_of_cell hc) hb)).trans hc
theorem Hold.frozen {Z : Nat → Prop} {A B : World} (h : Hold Z A B) {b o : Nat} {p : Option Nat} (hb : Z b) (hl : b < A.heap.size) : B.frozen? ⟨b, o, p⟩ = A.frozen? ⟨b, o, p⟩ :=
  World.frozen?_of_block (w := A) (a := ⟨b, o, p⟩) (h.block b hl hb)

/-- WHAT AN ITERATOR OWES: over the blocks Z, which are its own, it hands out xs, one by one, and turns nothing else. -/
def Gives {α : Type} (F : Fence) (n : Nat) (P : Program) (g : Nat) (lb : Array Value) (encs : α → Array Value) (Z : Nat → Prop) (xs : List α) (W0 : World) : Prop :=
  ∀ (l : Nat) (J Jx : List α → World → Prop) (W : World), Hold Z W0 W →
    (∀ s A B, J s A → Sep Z A B → J s B) → (∀ s A B, Jx s A → Sep Z A B → Jx s B) →
    (∀ pre x rest W1, xs = pre ++ x :: rest → J pre W1 → YieldAt F (n - 1) P l (encs x) W1 fun e W' => Hold Z W1 W' ∧
      ((e = .returned (.bool true) ∧ J (pre ++ [x]) W') ∨ (e = .returned (.bool false) ∧ Jx (pre ++ [x]) W'))) →
    J [] W → CallsIn F n P g (#[.func (.yield l) #[] #[]] ++ lb) W fun e W' => (∃ v, e = .returned v) ∧ (J xs W' ∨ ∃ pre, pre <+: xs ∧ Jx pre W')

/-- The same of an iterator that begins behind the loop's own two blocks: Z may hold all blocks that are made from then on; Zs is what of Z it may turn itself. -/
def GivesN {α : Type} (F : Fence) (n : Nat) (P : Program) (g : Nat) (lb : Array Value) (encs : α → Array Value) (Z Zs : Nat → Prop) (xs : List α) (W0 : World) : Prop :=
  ∀ (l : Nat) (J Jx : List α → World → Prop) (W : World), W0.heap.size + 2 ≤ W.heap.size → Hold Z W0 W →
    (∀ s A B, J s A → Sep Zs A B → J s B) → (∀ s A B, Jx s A → Sep Zs A B → Jx s B) →
    (∀ pre x rest W1, xs = pre ++ x :: rest → J pre W1 → YieldAt F (n - 1) P l (encs x) W1 fun e W' => Hold Z W1 W' ∧
      ((e = .returned (.bool true) ∧ J (pre ++ [x]) W') ∨ (e = .returned (.bool false) ∧ Jx (pre ++ [x]) W'))) →
    J [] W → CallsIn F n P g (#[.func (.yield l) #[] #[]] ++ lb) W fun e W' => (∃ v, e = .returned v) ∧ (J xs W' ∨ ∃ pre, pre <+: xs ∧ Jx pre W')
theorem Gives.n {α : Type} {F : Fence} {n : Nat} {P : Program} {g : Nat} {lb : Array Value} {encs : α → Array Value} {Z : Nat → Prop} {xs : List α} {W0 : World} (h : Gives F n P g lb encs Z xs W0) : GivesN F n P g lb encs Z Z xs W0 :=
  fun l J Jx W _ => h l J Jx W

/-- How a round may be left: nothing of the iterator's and of the loop's own has turned. -/
def roundEnd {α : Type} (Z : Nat → Prop) (I : List α → World → Prop) (Ix : Code → List α → World → Prop) (xs : List α) (W : World) : Exit → Act → World → Prop
  | .normal, _, W' => Hold Z W W' ∧ I xs W'
  | .ret, _, W' => Hold Z W W' ∧ Ix .ret xs W'
  | .exit id, _, W' => Hold Z W W' ∧ Ix (.exit id) xs W'
  | .goto t, _, W' => Hold Z W W' ∧ Ix (.goto t) xs W'
  | .panic _, _, _ => False
  | .outgrown, _, _ => False

variable {F : Fence} {n : Nat} {P : Program}

theorem range_ownN {α : Type} {g : Operand} {ps : Array Tmp} {assign body : Code} {Q : Exit → Act → World → Prop} {a : Act} {w : World}
    (hro : F.round = none) (h1 : 1 ≤ n) {gf : Nat} {lb : Array Value} (hg : a.eval g = .func (.func gf) #[] lb) (hFg : F.fn gf) (eg : ∀ args w, (callFunc gf args).run P w = .ok (.enter gf args) w)
    {encs : α → Array Value} {Z Zs : Nat → Prop} {xs : List α} (hseq : GivesN F (n - 1) P gf lb encs Z Zs xs w) (hsub : ∀ k, Zs k → Z k) (nZD : ¬ Z w.heap.size) (nZL : ¬ Z (w.heap.size + 1)) (hps : ∀ x, (encs x).size = ps.size)
    (I : List α → World → Prop) (Ix : Code → List α → World → Prop)
    (hI : ∀ s A B, I s A → Sep (fun k => Zs k ∨ k = w.heap.size ∨ k = w.heap.size + 1) A B → I s B)
    (hIx : ∀ c s A B, Ix c s A → Sep (fun k => Zs k ∨ k = w.heap.size ∨ k = w.heap.size + 1) A B → Ix c s B)
    (h0 : I [] w) (Ax : α → Act → World → Prop) (hAx : ∀ x a' A B, Ax x a' A → Sep (fun k => Zs k ∨ k = w.heap.size ∨ k = w.heap.size + 1) A B → Ax x a' B)
    (hassign : ∀ (l : Nat) (pre : List α) (x : α) (W : World) (K : Act → World → Prop), I pre W → w.heap.size + 1 < W.heap.size →
      (∀ a' W', Hold (fun k => Z k ∨ k = w.heap.size ∨ k = w.heap.size + 1) W W' → I pre W' → Ax x a' W' → K a' W') →
      assign.wpIn (F.inRound l) (n - 1 - 1) P (Exit.then K (fun _ _ _ => False)) { tmps := (ps.zip (encs x)).foldl (fun t (p, v) => t.setIfInBounds p v) a.tmps, defers := [] } W)
    (hbody : ∀ (l : Nat) (pre : List α) (x : α) (rest : List α) (a' : Act) (W : World), xs = pre ++ x :: rest → w.heap.size + 1 < W.heap.size → I pre W → Ax x a' W →
      body.wpIn (F.inRound l) (n - 1 - 1) P (roundEnd (fun k => Z k ∨ k = w.heap.size ∨ k = w.heap.size + 1) I Ix (pre ++ [x]) W) a' W)
    (hdone : ∀ (W : World), I xs W → W.heap[w.heap.size]? = some (.deferred (some [])) → Q .normal { a with defers := { target := .collected w.heap.size, args := #[] } :: a.defers } W)
    (hstop : ∀ (c : Code) (pre : List α) (W : World), pre <+: xs → Ix c pre W → W.heap[w.heap.size]? = some (.deferred (some [])) → c.wpIn F n P Q { a with defers := { target := .collected w.heap.size, args := #[] } :: a.defers } W) :
    (Code.rangeFunc g ps assign body).wpIn F n P Q a w := by
  refine wpIn_rangeFunc fun fn hfn => ?_
  rw [hro]
  -- the loop's record, in a state and with a jump that waits
  obtain ⟨rec, hrec⟩ : ∃ rec : LoopState → Option Code → Loop, rec = fun s j => { state := s, pending := j, fn, tmps := a.tmps, params := ps, assign, body, defers := w.heap.size } := ⟨_, rfl⟩
  have hrs : ∀ s j, (rec s j).state = s := fun s j => by rw [hrec]
  have hrp : ∀ s j, (rec s j).pending = j := fun s j => by rw [hrec]
  have hf1 : (rec .ready none).params = ps := by rw [hrec]
  have hf2 : (rec .ready none).fn = fn := by rw [hrec]
  have hf3 : (rec .ready none).tmps = a.tmps := by rw [hrec]
  have hf4 : (rec .ready none).assign = assign := by rw [hrec]
  have hf5 : (rec .ready none).body = body := by rw [hrec]
  have hset : ∀ s j s' j', ({ rec s j with state := s', pending := j' } : Loop) = rec s' j' := fun s j s' j' => by rw [hrec]
  have hset1 : ∀ s j s', ({ rec s j with state := s' } : Loop) = rec s' j := fun s j s' => by rw [hrec]
  generalize hW1 : (w.alloc (.deferred (some []))).alloc (.loop (rec .ready none)) = W1
  have sz1 : W1.heap.size = w.heap.size + 2 := by rw [← hW1]; simp
  have hL1 : W1.heap[w.heap.size + 1]? = some (.loop (rec .ready none)) := by
    rw [← hW1]; have := World.alloc_heap_new (w.alloc (.deferred (some []))) (.loop (rec .ready none)); rwa [World.size_alloc] at this
  have hD1 : W1.heap[w.heap.size]? = some (.deferred (some [])) := by
    rw [← hW1, Below.heap_alloc _ _ _ (by simp)]; exact World.alloc_heap_new w _
  have hI1 : I [] W1 := by rw [← hW1]; exact hI _ _ _ (hI _ _ _ h0 (.alloc _ _ _)) (.alloc _ _ _)
  have hH1 : Hold Z w W1 := by rw [← hW1]; exact (Hold.alloc Z w _).trans (.alloc Z _ _)
  refine ⟨w.heap.size + 1, [{ target := .collected w.heap.size, args := #[] }], W1, { target := .fn (.func gf) lb, args := #[.func (.yield (w.heap.size + 1)) #[] #[]] }, W1, gf,
    #[.func (.yield (w.heap.size + 1)) #[] #[]] ++ lb, W1, ?_, ?_, ?_, ?_, fun _ => h1, ?_⟩
  · rw [← hW1, hrec]; exact run_enterLoop_outer _ _ _ _ _
  · simp only [resolve, hg]; simp [go_sem]
  · intro f' hf'; simp [Target.leads] at hf'; subst hf'; exact hFg
  · simp [invoke, go_sem, eg]
  -- the iterator, at the caller's invariant and the loop's two blocks
  have keep : ∀ {o : Obj} {A B : World} {k : Nat}, ¬ Zs k → A.heap[k]? = some o → Sep Zs A B → B.heap[k]? = some o := fun hk ho hs => (hs.block _ (Array.getElem?_eq_some_iff.1 ho).1 hk).trans ho
  have wide : ∀ {A B : World}, Sep Zs A B → Sep (fun k => Zs k ∨ k = w.heap.size ∨ k = w.heap.size + 1) A B := fun h => h.mono fun _ e => .inl e
  have iz : ∀ {A : World} (o : Obj), Sep (fun k => Zs k ∨ k = w.heap.size ∨ k = w.heap.size + 1) A (A.putObj (w.heap.size + 1) o) := fun o => .putObj _ (.inr (.inr rfl)) o
  have hold : ∀ {A B : World}, Hold (fun k => Z k ∨ k = w.heap.size ∨ k = w.heap.size + 1) A B → Hold Z A B := fun h => h.mono fun _ e => .inl e
  refine (hseq (w.heap.size + 1)
    (fun pre W => I pre W ∧ W.heap[w.heap.size + 1]? = some (.loop (rec .ready none)) ∧ W.heap[w.heap.size]? = some (.deferred (some [])))
    (fun pre W => ∃ c, Ix c pre W ∧ W.heap[w.heap.size + 1]? = some (.loop (rec .done (some c))) ∧ W.heap[w.heap.size]? = some (.deferred (some [])))
    W1 (by omega) hH1 (fun s A B h hs => ⟨hI s A B h.1 (wide hs), keep (fun e => nZL (hsub _ e)) h.2.1 hs, keep (fun e => nZD (hsub _ e)) h.2.2 hs⟩)
    (fun s A B ⟨c, h, hl, hd⟩ hs => ⟨c, hIx c s A B h (wide hs), keep (fun e => nZL (hsub _ e)) hl hs, keep (fun e => nZD (hsub _ e)) hd hs⟩) ?_ ⟨hI1, hL1, hD1⟩).mono ?_
  · rintro pre x rest W hx ⟨hi, hl, hd⟩
    have hlt := (Array.getElem?_eq_some_iff.1 hl).1
    have hy := run_yield (P := P) (args := encs x) hl (by rw [hf1]; exact hps x)
    rw [hf1, hf2, hf3, hf4, hf5] at hy
    refine ⟨fn, _, assign, body, hy, roundIn_of_wpIn hfn ?_⟩
    refine hassign _ pre x W _ hi hlt fun a' Wa ha hia hax => ?_
    have hla : Wa.heap[w.heap.size + 1]? = some (.loop (rec .ready none)) := (ha.block _ hlt (.inr (.inr rfl))).trans hl
    have hda : Wa.heap[w.heap.size]? = some (.deferred (some [])) := (ha.block _ (by omega) (.inr (.inl rfl))).trans hd
    have hlta : w.heap.size + 1 < Wa.heap.size := (Array.getElem?_eq_some_iff.1 hla).1
    refine ⟨_, run_beginRound hla (hrs _ _), ?_⟩
    rw [hset1]
    generalize hWb : Wa.putObj (w.heap.size + 1) (.loop (rec .busy none)) = Wb
    have hlb : Wb.heap[w.heap.size + 1]? = some (.loop (rec .busy none)) := by rw [← hWb]; exact World.putObj_heap_same hlta
    have hdb : Wb.heap[w.heap.size]? = some (.deferred (some [])) := by rw [← hWb, World.putObj_heap_other (by omega)]; exact hda
    have hib : I pre Wb := by rw [← hWb]; exact hI _ _ _ hia (iz _)
    have hxb : Ax x a' Wb := by rw [← hWb]; exact hAx _ _ _ _ hax (iz _)
    have hWab : Hold Z W Wb := (hold ha).trans (by rw [← hWb]; exact .putObj _ nZL _)
    have hltb : w.heap.size + 1 < Wb.heap.size := (Array.getElem?_eq_some_iff.1 hlb).1
    refine wpIn_mono (hbody _ pre x rest a' Wb hx hltb hib hxb) ?_
    have fin : ∀ (j : Option Code) (W3 : World), Hold (fun k => Z k ∨ k = w.heap.size ∨ k = w.heap.size + 1) Wb W3 →
        ∃ W4, (Instr.endRound (w.heap.size + 1) j).run P W3 = .ok (.bool j.isNone) W4 ∧ Sep (fun k => Zs k ∨ k = w.heap.size ∨ k = w.heap.size + 1) W3 W4 ∧ Hold Z W W4 ∧
          W4.heap[w.heap.size + 1]? = some (.loop (rec (if j.isNone then .ready else .done) j)) ∧ W4.heap[w.heap.size]? = some (.deferred (some [])) := fun j W3 h3 => by
      have hl3 : W3.heap[w.heap.size + 1]? = some (.loop (rec .busy none)) := (h3.block _ hltb (.inr (.inr rfl))).trans hlb
      have hd3 : W3.heap[w.heap.size]? = some (.deferred (some [])) := (h3.block _ (by omega) (.inr (.inl rfl))).trans hdb
      refine ⟨_, run_endRound j hl3, iz _, hWab.trans ((hold h3).trans (.putObj _ nZL _)), ?_, ?_⟩
      · rw [hset]; exact World.putObj_heap_same (Array.getElem?_eq_some_iff.1 hl3).1
      · rw [World.putObj_heap_other (by omega)]; exact hd3
    rintro e a3 W3 hp
    cases e with
    | normal => obtain ⟨h3, hi3⟩ := hp; obtain ⟨W4, hr, hs, hh, hl4, hd4⟩ := fin none W3 h3; exact ⟨_, W4, hr, hh, .inl ⟨rfl, hI _ _ _ hi3 hs, hl4, hd4⟩⟩
    | ret => obtain ⟨h3, hi3⟩ := hp; obtain ⟨W4, hr, hs, hh, hl4, hd4⟩ := fin (some .ret) W3 h3; exact ⟨_, W4, hr, hh, .inr ⟨rfl, _, hIx _ _ _ _ hi3 hs, hl4, hd4⟩⟩
    | exit id => obtain ⟨h3, hi3⟩ := hp; obtain ⟨W4, hr, hs, hh, hl4, hd4⟩ := fin (some (.exit id)) W3 h3; exact ⟨_, W4, hr, hh, .inr ⟨rfl, _, hIx _ _ _ _ hi3 hs, hl4, hd4⟩⟩
    | goto t => obtain ⟨h3, hi3⟩ := hp; obtain ⟨W4, hr, hs, hh, hl4, hd4⟩ := fin (some (.goto t)) W3 h3; exact ⟨_, W4, hr, hh, .inr ⟨rfl, _, hIx _ _ _ _ hi3 hs, hl4, hd4⟩⟩
    | panic ch => exact hp.elim
    | outgrown => exact hp.elim
  · rintro e W2 ⟨⟨v, rfl⟩, hJ⟩
    rcases hJ with ⟨hi, hl, hd⟩ | ⟨pre, hpre, c, hi, hl, hd⟩
    · exact ⟨none, _, by rw [run_endLoop hl (by rw [hrs]; simp), hrp], hdone _ (hI _ _ _ hi (iz _)) (by rw [World.putObj_heap_other (by omega)]; exact hd)⟩
    · exact ⟨some c, _, by rw [run_endLoop hl (by rw [hrs]; simp), hrp], hstop c pre _ hpre (hIx _ _ _ _ hi (iz _)) (by rw [World.putObj_heap_other (by omega)]; exact hd)⟩

theorem range_own {α : Type} {g : Operand} {ps : Array Tmp} {assign body : Code} {Q : Exit → Act → World → Prop} {a : Act} {w : World}
    (hro : F.round = none) (h1 : 1 ≤ n) {gf : Nat} {lb : Array Value} (hg : a.eval g = .func (.func gf) #[] lb) (hFg : F.fn gf) (eg : ∀ args w, (callFunc gf args).run P w = .ok (.enter gf args) w)
    {encs : α → Array Value} {Z : Nat → Prop} {xs : List α} (hseq : Gives F (n - 1) P gf lb encs Z xs w) (hZ : ∀ k, Z k → k < w.heap.size) (hps : ∀ x, (encs x).size = ps.size)
    (I : List α → World → Prop) (Ix : Code → List α → World → Prop)
    (hI : ∀ s A B, I s A → Sep (fun k => Z k ∨ k = w.heap.size ∨ k = w.heap.size + 1) A B → I s B)
    (hIx : ∀ c s A B, Ix c s A → Sep (fun k => Z k ∨ k = w.heap.size ∨ k = w.heap.size + 1) A B → Ix c s B)
    (h0 : I [] w) (Ax : α → Act → World → Prop) (hAx : ∀ x a' A B, Ax x a' A → Sep (fun k => Z k ∨ k = w.heap.size ∨ k = w.heap.size + 1) A B → Ax x a' B)
    (hassign : ∀ (l : Nat) (pre : List α) (x : α) (W : World) (K : Act → World → Prop), I pre W → w.heap.size + 1 < W.heap.size →
      (∀ a' W', Hold (fun k => Z k ∨ k = w.heap.size ∨ k = w.heap.size + 1) W W' → I pre W' → Ax x a' W' → K a' W') →
      assign.wpIn (F.inRound l) (n - 1 - 1) P (Exit.then K (fun _ _ _ => False)) { tmps := (ps.zip (encs x)).foldl (fun t (p, v) => t.setIfInBounds p v) a.tmps, defers := [] } W)
    (hbody : ∀ (l : Nat) (pre : List α) (x : α) (rest : List α) (a' : Act) (W : World), xs = pre ++ x :: rest → w.heap.size + 1 < W.heap.size → I pre W → Ax x a' W →
      body.wpIn (F.inRound l) (n - 1 - 1) P (roundEnd (fun k => Z k ∨ k = w.heap.size ∨ k = w.heap.size + 1) I Ix (pre ++ [x]) W) a' W)
    (hdone : ∀ (W : World), I xs W → W.heap[w.heap.size]? = some (.deferred (some [])) → Q .normal { a with defers := { target := .collected w.heap.size, args := #[] } :: a.defers } W)
    (hstop : ∀ (c : Code) (pre : List α) (W : World), pre <+: xs → Ix c pre W → W.heap[w.heap.size]? = some (.deferred (some [])) → c.wpIn F n P Q { a with defers := { target := .collected w.heap.size, args := #[] } :: a.defers } W) :
    (Code.rangeFunc g ps assign body).wpIn F n P Q a w :=
  range_ownN hro h1 hg hFg eg hseq.n (fun _ e => e) (fun e => by have := hZ _ e; omega) (fun e => by have := hZ _ e; omega) hps I Ix hI hIx h0 Ax hAx hassign hbody hdone hstop

/-- The same where a round's variable lies in a slot: what the assignment leaves is named ahead of the world. -/
theorem range_own1N {α : Type} {g : Operand} {ps : Array Tmp} {assign body : Code} {Q : Exit → Act → World → Prop} {a : Act} {w : World}
    (hro : F.round = none) (h1 : 1 ≤ n) {gf : Nat} {lb : Array Value} (hg : a.eval g = .func (.func gf) #[] lb) (hFg : F.fn gf) (eg : ∀ args w, (callFunc gf args).run P w = .ok (.enter gf args) w)
    {encs : α → Array Value} {Z Zs : Nat → Prop} {xs : List α} (hseq : GivesN F (n - 1) P gf lb encs Z Zs xs w) (hsub : ∀ k, Zs k → Z k) (nZD : ¬ Z w.heap.size) (nZL : ¬ Z (w.heap.size + 1)) (hps : ∀ x, (encs x).size = ps.size)
    (I : List α → World → Prop) (Ix : Code → List α → World → Prop)
    (hI : ∀ s A B, I s A → Sep (fun k => Zs k ∨ k = w.heap.size ∨ k = w.heap.size + 1) A B → I s B)
    (hIx : ∀ c s A B, Ix c s A → Sep (fun k => Zs k ∨ k = w.heap.size ∨ k = w.heap.size + 1) A B → Ix c s B)
    (h0 : I [] w) (a₁ : α → Act)
    (hassign : ∀ (l : Nat) (x : α) (W : World) (K : Act → World → Prop), K (a₁ x) W →
      assign.wpIn (F.inRound l) (n - 1 - 1) P (Exit.then K (fun _ _ _ => False)) { tmps := (ps.zip (encs x)).foldl (fun t (p, v) => t.setIfInBounds p v) a.tmps, defers := [] } W)
    (hbody : ∀ (l : Nat) (pre : List α) (x : α) (rest : List α) (W : World), xs = pre ++ x :: rest → w.heap.size + 1 < W.heap.size → I pre W →
      body.wpIn (F.inRound l) (n - 1 - 1) P (roundEnd (fun k => Z k ∨ k = w.heap.size ∨ k = w.heap.size + 1) I Ix (pre ++ [x]) W) (a₁ x) W)
    (hdone : ∀ (W : World), I xs W → W.heap[w.heap.size]? = some (.deferred (some [])) → Q .normal { a with defers := { target := .collected w.heap.size, args := #[] } :: a.defers } W)
    (hstop : ∀ (c : Code) (pre : List α) (W : World), pre <+: xs → Ix c pre W → W.heap[w.heap.size]? = some (.deferred (some [])) → c.wpIn F n P Q { a with defers := { target := .collected w.heap.size, args := #[] } :: a.defers } W) :
    (Code.rangeFunc g ps assign body).wpIn F n P Q a w :=
  range_ownN hro h1 hg hFg eg hseq hsub nZD nZL hps I Ix hI hIx h0 (fun x a' _ => a' = a₁ x) (fun _ _ _ _ h _ => h)
    (fun l pre x W K hi _ hK => hassign l x W K (hK _ _ (.refl _ _) hi rfl)) (fun l pre x rest a' W hx hlt hi ha => by subst ha; exact hbody l pre x rest W hx hlt hi) hdone hstop

/-- The same in a plain walk. -/
theorem range_wpN {α : Type} {g : Operand} {ps : Array Tmp} {assign body : Code} {Q : Exit → Act → World → Prop} {a : Act} {w : World}
    {gf : Nat} {lb : Array Value} (hg : a.eval g = .func (.func gf) #[] lb) (eg : ∀ args w, (callFunc gf args).run P w = .ok (.enter gf args) w)
    {encs : α → Array Value} {Z Zs : Nat → Prop} {xs : List α} (hseq : GivesN Fence.wide 2 P gf lb encs Z Zs xs w) (hsub : ∀ k, Zs k → Z k) (nZD : ¬ Z w.heap.size) (nZL : ¬ Z (w.heap.size + 1)) (hps : ∀ x, (encs x).size = ps.size)
    (I : List α → World → Prop) (Ix : Code → List α → World → Prop)
    (hI : ∀ s A B, I s A → Sep (fun k => Zs k ∨ k = w.heap.size ∨ k = w.heap.size + 1) A B → I s B)
    (hIx : ∀ c s A B, Ix c s A → Sep (fun k => Zs k ∨ k = w.heap.size ∨ k = w.heap.size + 1) A B → Ix c s B)
    (h0 : I [] w) (a₁ : α → Act)
    (hassign : ∀ (l : Nat) (x : α) (W : World) (K : Act → World → Prop), K (a₁ x) W →
      assign.wpIn (Fence.wide.inRound l) 1 P (Exit.then K (fun _ _ _ => False)) { tmps := (ps.zip (encs x)).foldl (fun t (p, v) => t.setIfInBounds p v) a.tmps, defers := [] } W)
    (hbody : ∀ (l : Nat) (pre : List α) (x : α) (rest : List α) (W : World), xs = pre ++ x :: rest → w.heap.size + 1 < W.heap.size → I pre W →
      body.wpIn (Fence.wide.inRound l) 1 P (roundEnd (fun k => Z k ∨ k = w.heap.size ∨ k = w.heap.size + 1) I Ix (pre ++ [x]) W) (a₁ x) W)
    (hdone : ∀ (W : World), I xs W → W.heap[w.heap.size]? = some (.deferred (some [])) → Q .normal { a with defers := { target := .collected w.heap.size, args := #[] } :: a.defers } W)
    (hstop : ∀ (c : Code) (pre : List α) (W : World), pre <+: xs → Ix c pre W → W.heap[w.heap.size]? = some (.deferred (some [])) → c.wp P Q { a with defers := { target := .collected w.heap.size, args := #[] } :: a.defers } W) :
    (Code.rangeFunc g ps assign body).wp P Q a w :=
  (wpIn_wide (n := 3)).1 (range_own1N rfl (by omega) hg trivial eg hseq hsub nZD nZL hps I Ix hI hIx h0 a₁ hassign hbody hdone (fun c pre W h1 h2 h3 => wpIn_wide.2 (hstop c pre W h1 h2 h3)))

/-- The same where a round's variable lies in a slot: what the assignment leaves is named ahead of the world. -/
theorem range_own1 {α : Type} {g : Operand} {ps : Array Tmp} {assign body : Code} {Q : Exit → Act → World → Prop} {a : Act} {w : World}
    (hro : F.round = none) (h1 : 1 ≤ n) {gf : Nat} {lb : Array Value} (hg : a.eval g = .func (.func gf) #[] lb) (hFg : F.fn gf) (eg : ∀ args w, (callFunc gf args).run P w = .ok (.enter gf args) w)
    {encs : α → Array Value} {Z : Nat → Prop} {xs : List α} (hseq : Gives F (n - 1) P gf lb encs Z xs w) (hZ : ∀ k, Z k → k < w.heap.size) (hps : ∀ x, (encs x).size = ps.size)
    (I : List α → World → Prop) (Ix : Code → List α → World → Prop)
    (hI : ∀ s A B, I s A → Sep (fun k => Z k ∨ k = w.heap.size ∨ k = w.heap.size + 1) A B → I s B)
    (hIx : ∀ c s A B, Ix c s A → Sep (fun k => Z k ∨ k = w.heap.size ∨ k = w.heap.size + 1) A B → Ix c s B)
    (h0 : I [] w) (a₁ : α → Act)
    (hassign : ∀ (l : Nat) (x : α) (W : World) (K : Act → World → Prop), K (a₁ x) W →
      assign.wpIn (F.inRound l) (n - 1 - 1) P (Exit.then K (fun _ _ _ => False)) { tmps := (ps.zip (encs x)).foldl (fun t (p, v) => t.setIfInBounds p v) a.tmps, defers := [] } W)
    (hbody : ∀ (l : Nat) (pre : List α) (x : α) (rest : List α) (W : World), xs = pre ++ x :: rest → w.heap.size + 1 < W.heap.size → I pre W →
      body.wpIn (F.inRound l) (n - 1 - 1) P (roundEnd (fun k => Z k ∨ k = w.heap.size ∨ k = w.heap.size + 1) I Ix (pre ++ [x]) W) (a₁ x) W)
    (hdone : ∀ (W : World), I xs W → W.heap[w.heap.size]? = some (.deferred (some [])) → Q .normal { a with defers := { target := .collected w.heap.size, args := #[] } :: a.defers } W)
    (hstop : ∀ (c : Code) (pre : List α) (W : World), pre <+: xs → Ix c pre W → W.heap[w.heap.size]? = some (.deferred (some [])) → c.wpIn F n P Q { a with defers := { target := .collected w.heap.size, args := #[] } :: a.defers } W) :
    (Code.rangeFunc g ps assign body).wpIn F n P Q a w :=
  range_own hro h1 hg hFg eg hseq hZ hps I Ix hI hIx h0 (fun x a' _ => a' = a₁ x) (fun _ _ _ _ h _ => h)
    (fun l pre x W K hi _ hK => hassign l x W K (hK _ _ (.refl _ _) hi rfl)) (fun l pre x rest a' W hx hlt hi ha => by subst ha; exact hbody l pre x rest W hx hlt hi) hdone hstop

/-- The same in a plain walk. -/
theorem range_wp {α : Type} {g : Operand} {ps : Array Tmp} {assign body : Code} {Q : Exit → Act → World → Prop} {a : Act} {w : World}
    {gf : Nat} {lb : Array Value} (hg : a.eval g = .func (.func gf) #[] lb) (eg : ∀ args w, (callFunc gf args).run P w = .ok (.enter gf args) w)
    {encs : α → Array Value} {Z : Nat → Prop} {xs : List α} (hseq : Gives Fence.wide 2 P gf lb encs Z xs w) (hZ : ∀ k, Z k → k < w.heap.size) (hps : ∀ x, (encs x).size = ps.size)
    (I : List α → World → Prop) (Ix : Code → List α → World → Prop)
    (hI : ∀ s A B, I s A → Sep (fun k => Z k ∨ k = w.heap.size ∨ k = w.heap.size + 1) A B → I s B)
    (hIx : ∀ c s A B, Ix c s A → Sep (fun k => Z k ∨ k = w.heap.size ∨ k = w.heap.size + 1) A B → Ix c s B)
    (h0 : I [] w) (a₁ : α → Act)
    (hassign : ∀ (l : Nat) (x : α) (W : World) (K : Act → World → Prop), K (a₁ x) W →
      assign.wpIn (Fence.wide.inRound l) 1 P (Exit.then K (fun _ _ _ => False)) { tmps := (ps.zip (encs x)).foldl (fun t (p, v) => t.setIfInBounds p v) a.tmps, defers := [] } W)
    (hbody : ∀ (l : Nat) (pre : List α) (x : α) (rest : List α) (W : World), xs = pre ++ x :: rest → w.heap.size + 1 < W.heap.size → I pre W →
      body.wpIn (Fence.wide.inRound l) 1 P (roundEnd (fun k => Z k ∨ k = w.heap.size ∨ k = w.heap.size + 1) I Ix (pre ++ [x]) W) (a₁ x) W)
    (hdone : ∀ (W : World), I xs W → W.heap[w.heap.size]? = some (.deferred (some [])) → Q .normal { a with defers := { target := .collected w.heap.size, args := #[] } :: a.defers } W)
    (hstop : ∀ (c : Code) (pre : List α) (W : World), pre <+: xs → Ix c pre W → W.heap[w.heap.size]? = some (.deferred (some [])) → c.wp P Q { a with defers := { target := .collected w.heap.size, args := #[] } :: a.defers } W) :
    (Code.rangeFunc g ps assign body).wp P Q a w :=
  (wpIn_wide (n := 3)).1 (range_own1 rfl (by omega) hg trivial eg hseq hZ hps I Ix hI hIx h0 a₁ hassign hbody hdone (fun c pre W h1 h2 h3 => wpIn_wide.2 (hstop c pre W h1 h2 h3)))

/-- A function that holds a range over a function, from its body's plain walk. -/
theorem calls_of_marks {f : FuncId} {fn : Func} {c : Code} {args : Array Value} {w : World} {R : Ending → World → Prop} (hf : P.funcs[f]? = some fn) (hb : fn.body = some c)
    (h : c.wp P (bodyPostM Fence.wide 3 P fn R) { tmps := args ++ Array.replicate (fn.ntmps - args.size) undef, defers := [] } w) : Calls P f args w R :=
  (callsIn_wide (n := 3)).1 (callsIn_of_wp_marks hf hb trivial (wpIn_wide.2 h) rfl)

/-- At the function's return: the block for the rounds' deferred calls is shut. -/
theorem ret_mark {fn : Func} {tmps : Array Value} {R : Ending → World → Prop} {D : Nat} {w : World} {v : Value} (hK : w.heap[D]? = some (.deferred (some [])))
    (hres : (results fn tmps).run P (w.putObj D (.deferred none)) = .ok v (w.putObj D (.deferred none))) (hR : R (.returned v) (w.putObj D (.deferred none))) :
    bodyPostM F n P fn R .ret { tmps := tmps, defers := [{ target := .collected D, args := #[] }] } w :=
  ⟨by simp, .inl ⟨D, _, rfl, run_takeDeferred hK, _, hres, hR⟩⟩
theorem Below.putObj {m : Nat} {a w : World} {D : Nat} (h : Below m a w) (hD : m ≤ D) (o : Obj) : Below m a (w.putObj D o) :=
  h.trans ⟨rfl, rfl, rfl, by simp, fun k hk => World.putObj_heap_other (by omega)⟩
end Go.Proofs.Ytmlinoanpcbflaa
