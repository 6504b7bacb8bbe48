/- A range over a function whose iterator reads what the rounds turn: the iterator's contract asks what its caller's invariant tells; the laws that join the two. No condition beyond what is named. -/
import Derived.Test.YtehmbnloplamaaaRng
namespace Go.Proofs.Ytehmbnloplamaaa
open Go.RowKit
/-- What an iterator owes that is told Kp by the invariant. -/
def GivesK {α : Type} (F : Fence) (n : Nat) (P : Program) (g : Nat) (lb : Array Value) (encs : α → Array Value) (Z Zs : Nat → Prop) (xs : List α) (W0 : World) (Kp : List α → World → Prop) : Prop :=
  ∀ (l : Nat) (J Jx : List α → World → Prop) (W : World), W0.heap.size + 2 ≤ W.heap.size → Hold Z W0 W → (∀ s A, J s A → Kp s A) → (∀ s A, Jx s A → Kp s A) →
    (∀ s A B, J s A → Sep Zs A B → J s B) → (∀ s A B, Jx s A → Sep Zs A B → Jx s B) →
    (∀ pre x rest W1, xs = pre ++ x :: rest → J pre W1 → YieldAt F (n - 1) P l (encs x) W1 fun e W' => Hold Z W1 W' ∧
      ((e = .returned (.bool true) ∧ J (pre ++ [x]) W') ∨ (e = .returned (.bool false) ∧ Jx (pre ++ [x]) W'))) →
    J [] W → CallsIn F n P g (#[.func (.yield l) #[] #[]] ++ lb) W fun e W' => (∃ v, e = .returned v) ∧ (J xs W' ∨ ∃ pre, pre <+: xs ∧ Jx pre W')
/-- A round's contract, in a round, however deep. -/
theorem RoundIn.inRoundW {l l' n m : Nat} {P : Program} {f : FuncId} {tmps : Array Value} {assign body : Code} {w : World} {R : Ending → World → Prop} (h : RoundIn Fence.wide n P l f tmps assign body w R) : RoundIn (Fence.wide.inRound l') m P l f tmps assign body w R :=
  ⟨h.1, fun c cs _ => h.2 c cs (room_wide _)⟩
variable {F : Fence} {n : Nat} {P : Program}
theorem range_ownK {α : Type} {g : Operand} {ps : Array Tmp} {assign body : Code} {Q : Exit → Act → World → Prop} {a : Act} {w : World}
    (hro : F.round = none) (h1 : 1 ≤ n) {gf : Nat} {lb : Array Value} (hg : a.eval g = .func (.func gf) #[] lb) (hFg : F.fn gf) (eg : ∀ args w, (callFunc gf args).run P w = .ok (.enter gf args) w)
    {encs : α → Array Value} {Z Zs : Nat → Prop} {xs : List α} {Kp : List α → World → Prop} (hseq : GivesK F (n - 1) P gf lb encs Z Zs xs w Kp) (hsub : ∀ k, Zs k → Z k) (nZD : ¬ Z w.heap.size) (nZL : ¬ Z (w.heap.size + 1)) (hps : ∀ x, (encs x).size = ps.size)
    (I : List α → World → Prop) (Ix : Code → List α → World → Prop) (hIK : ∀ s A, I s A → Kp s A) (hIxK : ∀ c s A, Ix c s A → Kp s A)
    (hI : ∀ s A B, I s A → Sep (fun k => Zs k ∨ k = w.heap.size ∨ k = w.heap.size + 1) A B → I s B)
    (hIx : ∀ c s A B, Ix c s A → Sep (fun k => Zs k ∨ k = w.heap.size ∨ k = w.heap.size + 1) A B → Ix c s B)
    (h0 : I [] w) (Ax : α → Act → World → Prop) (hAx : ∀ x a' A B, Ax x a' A → Sep (fun k => Zs k ∨ k = w.heap.size ∨ k = w.heap.size + 1) A B → Ax x a' B)
    (hassign : ∀ (l : Nat) (pre : List α) (x : α) (W : World) (K : Act → World → Prop), I pre W → w.heap.size + 1 < W.heap.size →
      (∀ a' W', Hold (fun k => Z k ∨ k = w.heap.size ∨ k = w.heap.size + 1) W W' → I pre W' → Ax x a' W' → K a' W') →
      assign.wpIn (F.inRound l) (n - 1 - 1) P (Exit.then K (fun _ _ _ => False)) { tmps := (ps.zip (encs x)).foldl (fun t (p, v) => t.setIfInBounds p v) a.tmps, defers := [] } W)
    (hbody : ∀ (l : Nat) (pre : List α) (x : α) (rest : List α) (a' : Act) (W : World), xs = pre ++ x :: rest → w.heap.size + 1 < W.heap.size → I pre W → Ax x a' W →
      body.wpIn (F.inRound l) (n - 1 - 1) P (roundEnd (fun k => Z k ∨ k = w.heap.size ∨ k = w.heap.size + 1) I Ix (pre ++ [x]) W) a' W)
    (hdone : ∀ (W : World), I xs W → W.heap[w.heap.size]? = some (.deferred (some [])) → Q .normal { a with defers := { target := .collected w.heap.size, args := #[] } :: a.defers } W)
    (hstop : ∀ (c : Code) (pre : List α) (W : World), pre <+: xs → Ix c pre W → W.heap[w.heap.size]? = some (.deferred (some [])) → c.wpIn F n P Q { a with defers := { target := .collected w.heap.size, args := #[] } :: a.defers } W) :
    (Code.rangeFunc g ps assign body).wpIn F n P Q a w := by
  refine wpIn_rangeFunc fun fn hfn => ?_
  rw [hro]
  -- the loop's record, in a state and with a jump that waits
  obtain ⟨rec, hrec⟩ : ∃ rec : LoopState → Option Code → Loop, rec = fun s j => { state := s, pending := j, fn, tmps := a.tmps, params := ps, assign, body, defers := w.heap.size } := ⟨_, rfl⟩
  have hrs : ∀ s j, (rec s j).state = s := fun s j => by rw [hrec]
  have hrp : ∀ s j, (rec s j).pending = j := fun s j => by rw [hrec]
  have hf1 : (rec .ready none).params = ps := by rw [hrec]
  have hf2 : (rec .ready none).fn = fn := by rw [hrec]
  have hf3 : (rec .ready none).tmps = a.tmps := by rw [hrec]
  have hf4 : (rec .ready none).assign = assign := by rw [hrec]
  have hf5 : (rec .ready none).body = body := by rw [hrec]
  have hset : ∀ s j s' j', ({ rec s j with state := s', pending := j' } : Loop) = rec s' j' := fun s j s' j' => by rw [hrec]
  have hset1 : ∀ s j s', ({ rec s j with state := s' } : Loop) = rec s' j := fun s j s' => by rw [hrec]
  generalize hW1 : (w.alloc (.deferred (some []))).alloc (.loop (rec .ready none)) = W1
  have sz1 : W1.heap.size = w.heap.size + 2 := by rw [← hW1]; simp
  have hL1 : W1.heap[w.heap.size + 1]? = some (.loop (rec .ready none)) := by
    rw [← hW1]; have := World.alloc_heap_new (w.alloc (.deferred (some []))) (.loop (rec .ready none)); rwa [World.size_alloc] at this
  have hD1 : W1.heap[w.heap.size]? = some (.deferred (some [])) := by
    rw [← hW1, Below.heap_alloc _ _ _ (by simp)]; exact World.alloc_heap_new w _
  have hI1 : I [] W1 := by rw [← hW1]; exact hI _ _ _ (hI _ _ _ h0 (.alloc _ _ _)) (.alloc _ _ _)
  have hH1 : Hold Z w W1 := by rw [← hW1]; exact (Hold.alloc Z w _).trans (.alloc Z _ _)
  refine ⟨w.heap.size + 1, [{ target := .collected w.heap.size, args := #[] }], W1, { target := .fn (.func gf) lb, args := #[.func (.yield (w.heap.size + 1)) #[] #[]] }, W1, gf,
    #[.func (.yield (w.heap.size + 1)) #[] #[]] ++ lb, W1, ?_, ?_, ?_, ?_, fun _ => h1, ?_⟩
  · rw [← hW1, hrec]; exact run_enterLoop_outer _ _ _ _ _
  · simp only [resolve, hg]; simp [go_sem]
  · intro f' hf'; simp [Target.leads] at hf'; subst hf'; exact hFg
  · simp [invoke, go_sem, eg]
  -- the iterator, at the caller's invariant and the loop's two blocks
  have keep : ∀ {o : Obj} {A B : World} {k : Nat}, ¬ Zs k → A.heap[k]? = some o → Sep Zs A B → B.heap[k]? = some o := fun hk ho hs => (hs.block _ (Array.getElem?_eq_some_iff.1 ho).1 hk).trans ho
  have wide : ∀ {A B : World}, Sep Zs A B → Sep (fun k => Zs k ∨ k = w.heap.size ∨ k = w.heap.size + 1) A B := fun h => h.mono fun _ e => .inl e
  have iz : ∀ {A : World} (o : Obj), Sep (fun k => Zs k ∨ k = w.heap.size ∨ k = w.heap.size + 1) A (A.putObj (w.heap.size + 1) o) := fun o => .putObj _ (.inr (.inr rfl)) o
  have hold : ∀ {A B : World}, Hold (fun k => Z k ∨ k = w.heap.size ∨ k = w.heap.size + 1) A B → Hold Z A B := fun h => h.mono fun _ e => .inl e
  refine (hseq (w.heap.size + 1)
    (fun pre W => I pre W ∧ W.heap[w.heap.size + 1]? = some (.loop (rec .ready none)) ∧ W.heap[w.heap.size]? = some (.deferred (some [])))
    (fun pre W => ∃ c, Ix c pre W ∧ W.heap[w.heap.size + 1]? = some (.loop (rec .done (some c))) ∧ W.heap[w.heap.size]? = some (.deferred (some [])))
    W1 (by omega) hH1 (fun s A h => hIK s A h.1) (fun s A ⟨c, h, _⟩ => hIxK c s A h) (fun s A B h hs => ⟨hI s A B h.1 (wide hs), keep (fun e => nZL (hsub _ e)) h.2.1 hs, keep (fun e => nZD (hsub _ e)) h.2.2 hs⟩)
    (fun s A B ⟨c, h, hl, hd⟩ hs => ⟨c, hIx c s A B h (wide hs), keep (fun e => nZL (hsub _ e)) hl hs, keep (fun e => nZD (hsub _ e)) hd hs⟩) ?_ ⟨hI1, hL1, hD1⟩).mono ?_
  · rintro pre x rest W hx ⟨hi, hl, hd⟩
    have hlt := (Array.getElem?_eq_some_iff.1 hl).1
    have hy := run_yield (P := P) (args := encs x) hl (by rw [hf1]; exact hps x)
    rw [hf1, hf2, hf3, hf4, hf5] at hy
    refine ⟨fn, _, assign, body, hy, roundIn_of_wpIn hfn ?_⟩
    refine hassign _ pre x W _ hi hlt fun a' Wa ha hia hax => ?_
    have hla : Wa.heap[w.heap.size + 1]? = some (.loop (rec .ready none)) := (ha.block _ hlt (.inr (.inr rfl))).trans hl
    have hda : Wa.heap[w.heap.size]? = some (.deferred (some [])) := (ha.block _ (by omega) (.inr (.inl rfl))).trans hd
    have hlta : w.heap.size + 1 < Wa.heap.size := (Array.getElem?_eq_some_iff.1 hla).1
    refine ⟨_, run_beginRound hla (hrs _ _), ?_⟩
    rw [hset1]
    generalize hWb : Wa.putObj (w.heap.size + 1) (.loop (rec .busy none)) = Wb
    have hlb : Wb.heap[w.heap.size + 1]? = some (.loop (rec .busy none)) := by rw [← hWb]; exact World.putObj_heap_same hlta
    have hdb : Wb.heap[w.heap.size]? = some (.deferred (some [])) := by rw [← hWb, World.putObj_heap_other (by omega)]; exact hda
    have hib : I pre Wb := by rw [← hWb]; exact hI _ _ _ hia (iz _)
    have hxb : Ax x a' Wb := by rw [← hWb]; exact hAx _ _ _ _ hax (iz _)
    have hWab : Hold Z W Wb := (hold ha).trans (by rw [← hWb]; exact .putObj _ nZL _)
    have hltb : w.heap.size + 1 < Wb.heap.size := (Array.getElem?_eq_some_iff.1 hlb).1
    refine wpIn_mono (hbody _ pre x rest a' Wb hx hltb hib hxb) ?_
    have fin : ∀ (j : Option Code) (W3 : World), Hold (fun k => Z k ∨ k = w.heap.size ∨ k = w.heap.size + 1) Wb W3 →
        ∃ W4, (Instr.endRound (w.heap.size + 1) j).run P W3 = .ok (.bool j.isNone) W4 ∧ Sep (fun k => Zs k ∨ k = w.heap.size ∨ k = w.heap.size + 1) W3 W4 ∧ Hold Z W W4 ∧
          W4.heap[w.heap.size + 1]? = some (.loop (rec (if j.isNone then .ready else .done) j)) ∧ W4.heap[w.heap.size]? = some (.deferred (some [])) := fun j W3 h3 => by
      have hl3 : W3.heap[w.heap.size + 1]? = some (.loop (rec .busy none)) := (h3.block _ hltb (.inr (.inr rfl))).trans hlb
      have hd3 : W3.heap[w.heap.size]? = some (.deferred (some [])) := (h3.block _ (by omega) (.inr (.inl rfl))).trans hdb
      refine ⟨_, run_endRound j hl3, iz _, hWab.trans ((hold h3).trans (.putObj _ nZL _)), ?_, ?_⟩
      · rw [hset]; exact World.putObj_heap_same (Array.getElem?_eq_some_iff.1 hl3).1
      · rw [World.putObj_heap_other (by omega)]; exact hd3
    rintro e a3 W3 hp
    cases e with
    | normal => obtain ⟨h3, hi3⟩ := hp; obtain ⟨W4, hr, hs, hh, hl4, hd4⟩ := fin none W3 h3; exact ⟨_, W4, hr, hh, .inl ⟨rfl, hI _ _ _ hi3 hs, hl4, hd4⟩⟩
    | ret => obtain ⟨h3, hi3⟩ := hp; obtain ⟨W4, hr, hs, hh, hl4, hd4⟩ := fin (some .ret) W3 h3; exact ⟨_, W4, hr, hh, .inr ⟨rfl, _, hIx _ _ _ _ hi3 hs, hl4, hd4⟩⟩
    | exit id => obtain ⟨h3, hi3⟩ := hp; obtain ⟨W4, hr, hs, hh, hl4, hd4⟩ := fin (some (.exit id)) W3 h3; exact ⟨_, W4, hr, hh, .inr ⟨rfl, _, hIx _ _ _ _ hi3 hs, hl4, hd4⟩⟩
    | goto t => obtain ⟨h3, hi3⟩ := hp; obtain ⟨W4, hr, hs, hh, hl4, hd4⟩ := fin (some (.goto t)) W3 h3; exact ⟨_, W4, hr, hh, .inr ⟨rfl, _, hIx _ _ _ _ hi3 hs, hl4, hd4⟩⟩
    | panic ch => exact hp.elim
    | outgrown => exact hp.elim
  · rintro e W2 ⟨⟨v, rfl⟩, hJ⟩
    rcases hJ with ⟨hi, hl, hd⟩ | ⟨pre, hpre, c, hi, hl, hd⟩
    · exact ⟨none, _, by rw [run_endLoop hl (by rw [hrs]; simp), hrp], hdone _ (hI _ _ _ hi (iz _)) (by rw [World.putObj_heap_other (by omega)]; exact hd)⟩
    · exact ⟨some c, _, by rw [run_endLoop hl (by rw [hrs]; simp), hrp], hstop c pre _ hpre (hIx _ _ _ _ hi (iz _)) (by rw [World.putObj_heap_other (by omega)]; exact hd)⟩

/-- The same where a round's variable lies in a slot: what the assignment leaves is named ahead of the world. -/
theorem range_own1K {α : Type} {g : Operand} {ps : Array Tmp} {assign body : Code} {Q : Exit → Act → World → Prop} {a : Act} {w : World}
    (hro : F.round = none) (h1 : 1 ≤ n) {gf : Nat} {lb : Array Value} (hg : a.eval g = .func (.func gf) #[] lb) (hFg : F.fn gf) (eg : ∀ args w, (callFunc gf args).run P w = .ok (.enter gf args) w)
    {encs : α → Array Value} {Z Zs : Nat → Prop} {xs : List α} {Kp : List α → World → Prop} (hseq : GivesK F (n - 1) P gf lb encs Z Zs xs w Kp) (hsub : ∀ k, Zs k → Z k) (nZD : ¬ Z w.heap.size) (nZL : ¬ Z (w.heap.size + 1)) (hps : ∀ x, (encs x).size = ps.size)
    (I : List α → World → Prop) (Ix : Code → List α → World → Prop) (hIK : ∀ s A, I s A → Kp s A) (hIxK : ∀ c s A, Ix c s A → Kp s A)
    (hI : ∀ s A B, I s A → Sep (fun k => Zs k ∨ k = w.heap.size ∨ k = w.heap.size + 1) A B → I s B)
    (hIx : ∀ c s A B, Ix c s A → Sep (fun k => Zs k ∨ k = w.heap.size ∨ k = w.heap.size + 1) A B → Ix c s B)
    (h0 : I [] w) (a₁ : α → Act)
    (hassign : ∀ (l : Nat) (x : α) (W : World) (K : Act → World → Prop), K (a₁ x) W →
      assign.wpIn (F.inRound l) (n - 1 - 1) P (Exit.then K (fun _ _ _ => False)) { tmps := (ps.zip (encs x)).foldl (fun t (p, v) => t.setIfInBounds p v) a.tmps, defers := [] } W)
    (hbody : ∀ (l : Nat) (pre : List α) (x : α) (rest : List α) (W : World), xs = pre ++ x :: rest → w.heap.size + 1 < W.heap.size → I pre W →
      body.wpIn (F.inRound l) (n - 1 - 1) P (roundEnd (fun k => Z k ∨ k = w.heap.size ∨ k = w.heap.size + 1) I Ix (pre ++ [x]) W) (a₁ x) W)
    (hdone : ∀ (W : World), I xs W → W.heap[w.heap.size]? = some (.deferred (some [])) → Q .normal { a with defers := { target := .collected w.heap.size, args := #[] } :: a.defers } W)
    (hstop : ∀ (c : Code) (pre : List α) (W : World), pre <+: xs → Ix c pre W → W.heap[w.heap.size]? = some (.deferred (some [])) → c.wpIn F n P Q { a with defers := { target := .collected w.heap.size, args := #[] } :: a.defers } W) :
    (Code.rangeFunc g ps assign body).wpIn F n P Q a w :=
  range_ownK hro h1 hg hFg eg hseq hsub nZD nZL hps I Ix hIK hIxK hI hIx h0 (fun x a' _ => a' = a₁ x) (fun _ _ _ _ h _ => h)
    (fun l pre x W K hi _ hK => hassign l x W K (hK _ _ (.refl _ _) hi rfl)) (fun l pre x rest a' W hx hlt hi ha => by subst ha; exact hbody l pre x rest W hx hlt hi) hdone hstop

/-- The same in a plain walk. -/
theorem range_wpK {α : Type} {g : Operand} {ps : Array Tmp} {assign body : Code} {Q : Exit → Act → World → Prop} {a : Act} {w : World}
    {gf : Nat} {lb : Array Value} (hg : a.eval g = .func (.func gf) #[] lb) (eg : ∀ args w, (callFunc gf args).run P w = .ok (.enter gf args) w)
    {encs : α → Array Value} {Z Zs : Nat → Prop} {xs : List α} {Kp : List α → World → Prop} (hseq : GivesK Fence.wide 2 P gf lb encs Z Zs xs w Kp) (hsub : ∀ k, Zs k → Z k) (nZD : ¬ Z w.heap.size) (nZL : ¬ Z (w.heap.size + 1)) (hps : ∀ x, (encs x).size = ps.size)
    (I : List α → World → Prop) (Ix : Code → List α → World → Prop) (hIK : ∀ s A, I s A → Kp s A) (hIxK : ∀ c s A, Ix c s A → Kp s A)
    (hI : ∀ s A B, I s A → Sep (fun k => Zs k ∨ k = w.heap.size ∨ k = w.heap.size + 1) A B → I s B)
    (hIx : ∀ c s A B, Ix c s A → Sep (fun k => Zs k ∨ k = w.heap.size ∨ k = w.heap.size + 1) A B → Ix c s B)
    (h0 : I [] w) (a₁ : α → Act)
    (hassign : ∀ (l : Nat) (x : α) (W : World) (K : Act → World → Prop), K (a₁ x) W →
      assign.wpIn (Fence.wide.inRound l) 1 P (Exit.then K (fun _ _ _ => False)) { tmps := (ps.zip (encs x)).foldl (fun t (p, v) => t.setIfInBounds p v) a.tmps, defers := [] } W)
    (hbody : ∀ (l : Nat) (pre : List α) (x : α) (rest : List α) (W : World), xs = pre ++ x :: rest → w.heap.size + 1 < W.heap.size → I pre W →
      body.wpIn (Fence.wide.inRound l) 1 P (roundEnd (fun k => Z k ∨ k = w.heap.size ∨ k = w.heap.size + 1) I Ix (pre ++ [x]) W) (a₁ x) W)
    (hdone : ∀ (W : World), I xs W → W.heap[w.heap.size]? = some (.deferred (some [])) → Q .normal { a with defers := { target := .collected w.heap.size, args := #[] } :: a.defers } W)
    (hstop : ∀ (c : Code) (pre : List α) (W : World), pre <+: xs → Ix c pre W → W.heap[w.heap.size]? = some (.deferred (some [])) → c.wp P Q { a with defers := { target := .collected w.heap.size, args := #[] } :: a.defers } W) :
    (Code.rangeFunc g ps assign body).wp P Q a w :=
  (wpIn_wide (n := 3)).1 (range_own1K rfl (by omega) hg trivial eg hseq hsub nZD nZL hps I Ix hIK hIxK hI hIx h0 a₁ hassign hbody hdone (fun c pre W h1 h2 h3 => wpIn_wide.2 (hstop c pre W h1 h2 h3)))

end Go.Proofs.Ytehmbnloplamaaa
