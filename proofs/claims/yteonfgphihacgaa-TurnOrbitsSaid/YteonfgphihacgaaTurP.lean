/- The list with a matrix in it, laid by a turn, and its place there: what turn's add comes to, over any memory. Condition: the matrix may be, and be laid so; the list is short, and the call's own. -/
import Derived.Test.YteonfgphihacgaaTurO
import Derived.Test.YteonfgphihacgaaRecU
namespace Go.Proofs.Yteonfgphihacgaa
open Go.RowKit
set_option linter.unusedVariables false

/-- a matrix in a list: how wide and high, the block of its numbers, the numbers -/
def Ent : Type := Nat × Nat × Nat × List Int
def mkEnt (p q g : Nat) (L : List Int) : Ent := (p, q, g, L)
def Ent.cs (n : Nat) (e : Ent) : List Value := [.int .i64 (e.1 : Nat), .int .i64 (e.2.1 : Nat), .slice (some ⟨e.2.2.1, 0, none⟩) n n]
def ents (n : Nat) (es : List Ent) : List Value := es.flatMap (Ent.cs n)
def Ent.key (e : Ent) : Nat × Nat × List Int := (e.1, e.2.1, e.2.2.2)
theorem ents_len (n : Nat) : ∀ es : List Ent, (ents n es).length = es.length * 3
  | [] => rfl
  | e :: es => by
    have := ents_len n es
    simp only [ents, List.flatMap_cons, List.length_append, List.length_cons] at this ⊢
    rw [this]; simp [Ent.cs]; omega
theorem ents_get (n : Nat) : ∀ (es : List Ent) (i : Nat) (e : Ent), es[i]? = some e → (ents n es)[i * 3]? = some (.int .i64 (e.1 : Nat)) ∧ (ents n es)[i * 3 + 1]? = some (.int .i64 (e.2.1 : Nat)) ∧ (ents n es)[i * 3 + 2]? = some (.slice (some ⟨e.2.2.1, 0, none⟩) n n)
  | [], i, e, h => by simp at h
  | x :: es, 0, e, h => by
    simp at h; subst h
    simp [ents, Ent.cs]
  | x :: es, i + 1, e, h => by
    have := ents_get n es i e (by simpa using h)
    simp only [ents, List.flatMap_cons] at this ⊢
    rw [show (i + 1) * 3 = i * 3 + 3 by omega, show i * 3 + 3 + 1 = (i * 3 + 1) + 3 by omega, show i * 3 + 3 + 2 = (i * 3 + 2) + 3 by omega]
    simpa [Ent.cs] using this
/-- the numbers of each lie in memory of the call's own -/
def Lie (n : Nat) (w : World) (es : List Ent) : Prop := ∀ e ∈ es, OwnG 0 w e.2.2.1 e.2.2.2 ∧ e.2.2.2.length = n
theorem Lie.later {n : Nat} {w w' : World} {es : List Ent} (h : Lie n w es) (hb : Below w.heap.size w w') : Lie n w' es := fun e he => ⟨(h e he).1.later hb, (h e he).2⟩
theorem px_ne_mt : 76 ≠ 54 := by decide
theorem OwnG.grown {n base g : Nat} {w w' : World} {L : List Int} {v : Value} {xs : List Value} (h : OwnG 0 w g L) (hrow : w.ownsRow base 54 3 v n xs) (hg : w.grownBy w' v.ownBlock) : OwnG 0 w' g L := by
  refine ⟨Nat.zero_le _, ?_⟩
  rw [hg.block g h.lt ?_]
  · exact h.2
  · intro e
    rcases hrow.2 with ⟨hv, _⟩ | ⟨j, cap, cur, hv, _, hj, _⟩
    · rw [hv] at e; exact absurd e (by simp [Value.ownBlock])
    · rw [hv] at e
      have e' : g = j := by simpa [Value.ownBlock] using e
      rw [← e', h.2] at hj
      injection hj with hj
      injection hj with _ ht _
      exact px_ne_mt ht
theorem Lie.grown {n base k : Nat} {w w' : World} {es : List Ent} {v : Value} {xs : List Value} (h : Lie n w es) (hrow : w.ownsRow base 54 3 v k xs) (hg : w.grownBy w' v.ownBlock) : Lie n w' es := fun e he => ⟨(h e he).1.grown hrow hg, (h e he).2⟩
theorem grown_below {w w' : World} {r : Option Nat} (hb : Below w.heap.size w w') : w.grownBy w' r := ⟨hb.os, hb.tape, hb.output, hb.size, fun j hj _ => hb.block j hj⟩
theorem grown_trans {w w1 w2 : World} {r : Option Nat} (hb : Below w.heap.size w w1) (hg : w1.grownBy w2 r) : w.grownBy w2 r :=
  ⟨hg.os.trans hb.os, hg.tape.trans hb.tape, hg.output.trans hb.output, Nat.le_trans hb.size hg.size, fun j hj hne => (hg.block j (Nat.lt_of_lt_of_le hj hb.size) hne).trans (hb.block j hj)⟩
namespace Tu
def isKey (t e : Nat × Nat × List Int) : Bool := eqM e.1 e.2.1 t.1 t.2.1 e.2.2 t.2.2
def placeK (ks : List (Nat × Nat × List Int)) (t : Nat × Nat × List Int) : Int := firstI (fun i => match ks[i]? with | some e => isKey t e | none => false) ks.length
end Tu
theorem firstI_congr {p q : Nat → Bool} {k : Nat} (h : ∀ i, i < k → p i = q i) : Tu.firstI p k = Tu.firstI q k := by
  unfold Tu.firstI
  have : ∀ l : List Nat, (∀ i ∈ l, i < k) → l.find? p = l.find? q := by
    intro l
    induction l with
    | nil => intro _; rfl
    | cons x l ih =>
      intro hl
      rw [List.find?_cons, List.find?_cons, h x (hl x (List.mem_cons_self ..)), ih (fun i hi => hl i (List.mem_cons_of_mem _ hi))]
  rw [this _ (fun i hi => List.mem_range.1 hi)]
theorem Try.info_mt : (Try.prog.info? 54).map (fun i => (i.zero, i.size, i.bytes)) = some (some (.agg #[.int .i64 0, .int .i64 0, .slice none 0 0]), 3, 40) := by kernel_rfl
theorem three_new (w : World) (t : TypeId) (x y z : Value) : ∀ j u, [x, y, z][j]? = some u → (w.alloc (.cells #[x, y, z] t)).cell? ((⟨w.heap.size, 0, none⟩ : Addr).add j) = some u := by
  intro j u h
  have hj : j < 3 := by have := (List.getElem?_eq_some_iff.1 h).1; simpa using this
  have : j = 0 ∨ j = 1 ∨ j = 2 := by omega
  rcases this with rfl | rfl | rfl <;> (simp at h; subst h; simp [go_sem])
set_option maxHeartbeats 1000000 in
theorem index0_any (ad : Option Addr) (cap : Nat) (f : Value) (w : World) :
    Calls Try.prog 97 #[.slice ad 0 cap, f] w fun e w' => e = .returned (.int .i64 (-1)) ∧ Below w.heap.size w w' := by
  go_enter Try.func97, Try.ntmps97
  go_wp2
  refine wp_loop_rounds 1 ?_
  rw [rounds_succ]
  go_wp2
  go_ret
  exact ⟨rfl, Below.refl _ _⟩
/-- slices.IndexFunc over a list of entries -/
theorem index_ents (es : List Ent) (n lb g2 P2 Q2 base : Nat) (v : Value) (M : List Int) (hk : es.length ≤ 9223372036854775807) (hn : n ≤ 9223372036854775807) (w : World) (hF : Sb w lb 54 (.int .i64 P2) (.int .i64 Q2) (.slice (some ⟨g2, 0, none⟩) n n)) (h2 : SlK .u64 w (some ⟨g2, 0, none⟩) n M)
    (hrow : w.ownsRow base 54 3 v es.length (ents n es)) (hl : Lie n w es) :
    Calls Try.prog 97 #[v, .func (.func 96) #[] #[.pointer (some ⟨lb, 0, none⟩)]] w fun e w' => e = .returned (.int .i64 (Tu.placeK (es.map Ent.key) (P2, Q2, M))) ∧ Below w.heap.size w w' := by
  obtain ⟨ad, cap, rfl⟩ := ownsRow_val hrow
  rcases Nat.eq_zero_or_pos es.length with h0 | h0
  · have e0 : es = [] := List.eq_nil_of_length_eq_zero h0
    subst e0
    exact index0_any ad cap _ w
  · obtain ⟨g, cap', hv⟩ := ownsRow_pos hrow h0
    injection hv with h3 h4 h5
    subst h3 h5
    have hget : ∀ i, i < es.length → ∃ e, es[i]? = some e := fun i hi => ⟨es[i], List.getElem?_eq_getElem hi⟩
    have := index_any es.length g cap n lb g2 P2 Q2 (fun i => ((es[i]?).getD (0, 0, 0, [])).1) (fun i => ((es[i]?).getD (0, 0, 0, [])).2.1) (fun i => ((es[i]?).getD (0, 0, 0, [])).2.2.1) (fun i => ((es[i]?).getD (0, 0, 0, [])).2.2.2) M hk hn w hF h2
      (fun i hi => by
        obtain ⟨e, he⟩ := hget i hi
        obtain ⟨q0, q1, q2⟩ := ents_get n es i e he
        simp only [he]
        exact ⟨by rw [hrow.cellAt _ (by omega), q0]; rfl, by rw [hrow.cellAt _ (by omega), q1]; rfl, by rw [hrow.cellAt _ (by omega), q2]; rfl⟩)
      (fun i hi => by
        obtain ⟨e, he⟩ := hget i hi
        obtain ⟨o1, o2⟩ := hl e (List.mem_of_getElem? he)
        simp only [he]
        exact ownG_len o1 o2)
    refine this.mono fun e w' ⟨h1, h2⟩ => ⟨?_, h2⟩
    rw [h1]
    unfold Tu.placeK
    rw [List.length_map]
    congr 2
    refine firstI_congr fun i hi => ?_
    obtain ⟨e, he⟩ := hget i hi
    simp only [List.getElem?_map, he, Option.map_some]
    rfl
end Go.Proofs.Yteonfgphihacgaa
