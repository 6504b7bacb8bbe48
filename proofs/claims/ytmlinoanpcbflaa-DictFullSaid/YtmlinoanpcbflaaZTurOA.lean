/- A list of the document's matrices that grows, beside other rows: what lies on. No run of a program. Condition: the rows are of other types. -/
import Derived.Test.YtmlinoanpcbflaaZTurZ
import Derived.Test.YtmlinoanpcbflaaZTurT
import Derived.Test.YtmlinoanpcbflaaZgAD
import Derived.Test.YtmlinoanpcbflaaZgAB
namespace Go.Proofs.Ytmlinoanpcbflaa
open Go.RowKit
set_option linter.unusedVariables false

/-- a matrix in a list of the document's: how wide and high, where its numbers lie, the numbers -/
def Fnt : Type := Nat × Nat × Option Addr × Nat × List Int
def mkFnt (p q : Nat) (a : Option Addr) (c : Nat) (L : List Int) : Fnt := (p, q, a, c, L)
def Fnt.cs (n : Nat) (e : Fnt) : List Value := [.int .i64 (e.1 : Nat), .int .i64 (e.2.1 : Nat), .slice e.2.2.1 n e.2.2.2.1]
def fnts (n : Nat) (es : List Fnt) : List Value := es.flatMap (Fnt.cs n)
def Fnt.key (e : Fnt) : Nat × Nat × List Int := (e.1, e.2.1, e.2.2.2.2)
theorem fnts_len (n : Nat) : ∀ es : List Fnt, (fnts n es).length = es.length * 3
  | [] => rfl
  | e :: es => by
    have := fnts_len n es
    simp only [fnts, List.flatMap_cons, List.length_append, List.length_cons] at this ⊢
    rw [this]; simp [Fnt.cs]; omega
theorem fnts_get (n : Nat) : ∀ (es : List Fnt) (i : Nat) (e : Fnt), es[i]? = some e → (fnts n es)[i * 3]? = some (.int .i64 (e.1 : Nat)) ∧ (fnts n es)[i * 3 + 1]? = some (.int .i64 (e.2.1 : Nat)) ∧ (fnts n es)[i * 3 + 2]? = some (.slice e.2.2.1 n e.2.2.2.1)
  | [], i, e, h => by simp at h
  | x :: es, 0, e, h => by
    simp at h; subst h
    simp [fnts, Fnt.cs]
  | x :: es, i + 1, e, h => by
    have := fnts_get n es i e (by simpa using h)
    simp only [fnts, List.flatMap_cons] at this ⊢
    rw [show (i + 1) * 3 = i * 3 + 3 by omega, show i * 3 + 3 + 1 = (i * 3 + 1) + 3 by omega, show i * 3 + 3 + 2 = (i * 3 + 2) + 3 by omega]
    simpa [Fnt.cs] using this
def Fie (n s : Nat) (w : World) (es : List Fnt) : Prop := ∀ e ∈ es, SlK .u64 w e.2.2.1 n e.2.2.2.2 ∧ Old s w e.2.2.1
theorem Fie.later {n s : Nat} {w w' : World} {es : List Fnt} (h : Fie n s w es) (hb : Below w.heap.size w w') : Fie n s w' es := fun e he => ⟨(h e he).1.below hb, (h e he).2.later hb⟩
theorem old_ne {s base k size : Nat} {w : World} {ad : Option Addr} {e0 : TypeId} {v : Value} {xs : List Value} (ho : Old s w ad) (hrow : w.ownsRow base e0 size v k xs) (he : 23 ≠ e0) (hbs : s ≤ base) : ∀ b off, ad = some ⟨b, off, none⟩ → some b ≠ v.ownBlock := fun b off e e' => by
  have hlt := (hrow.lt b e'.symm).1
  rcases ho b off e with h1 | ⟨cs, hc⟩
  · omega
  · rcases hrow.2 with ⟨hv, _⟩ | ⟨j, cap, cur, hv, _, hj, _⟩
    · rw [hv] at e'; exact absurd e' (by simp [Value.ownBlock])
    · rw [hv] at e'
      have e2 : b = j := by simpa [Value.ownBlock] using e'
      rw [← e2, hc] at hj
      injection hj with hj
      injection hj with _ ht _
      exact he ht
theorem slk_grown {s base k size n : Nat} {w w' : World} {ad : Option Addr} {e0 : TypeId} {v : Value} {xs : List Value} {L : List Int} (hs : SlK .u64 w ad n L) (ho : Old s w ad) (hrow : w.ownsRow base e0 size v k xs) (he : 23 ≠ e0) (hbs : s ≤ base) (hg : w.grownBy w' v.ownBlock) : SlK .u64 w' ad n L ∧ Old s w' ad := by
  have hne := old_ne ho hrow he hbs
  refine ⟨⟨hs.1, ?_⟩, fun b off e => ?_⟩
  · rcases hs.2 with h | ⟨b, off, e, hc⟩
    · exact .inl h
    · exact .inr ⟨b, off, e, fun i hi => hg.cell (hc i hi) (hne b off e)⟩
  · rcases ho b off e with h | ⟨cs, hc⟩
    · exact .inl h
    · exact .inr ⟨cs, by rw [hg.block b (Array.getElem?_eq_some_iff.1 hc).1 (hne b off e)]; exact hc⟩
theorem Fie.grown {n s base k size : Nat} {w w' : World} {es : List Fnt} {e0 : TypeId} {v : Value} {xs : List Value} (h : Fie n s w es) (hrow : w.ownsRow base e0 size v k xs) (he : 23 ≠ e0) (hbs : s ≤ base) (hg : w.grownBy w' v.ownBlock) : Fie n s w' es := fun e hm => slk_grown (h e hm).1 (h e hm).2 hrow he hbs hg
/-- two rows of other types are two blocks -/
theorem row_ne {w : World} {b1 b2 n1 n2 s1 s2 : Nat} {t1 t2 : TypeId} {v1 v2 : Value} {x1 x2 : List Value} (h1 : w.ownsRow b1 t1 s1 v1 n1 x1) (h2 : w.ownsRow b2 t2 s2 v2 n2 x2) (ht : t1 ≠ t2) : v1.ownBlock = none ∨ v1.ownBlock ≠ v2.ownBlock := by
  rcases h1.2 with ⟨hv, _⟩ | ⟨j, cap, cur, hv, _, hj, _⟩
  · exact .inl (by rw [hv]; rfl)
  · refine .inr fun e => ?_
    rcases h2.2 with ⟨hv2, _⟩ | ⟨j2, cap2, cur2, hv2, _, hj2, _⟩
    · rw [hv, hv2] at e; exact absurd e (by simp [Value.ownBlock])
    · rw [hv, hv2] at e
      have e2 : j = j2 := by simpa [Value.ownBlock] using e
      rw [e2, hj2] at hj
      injection hj with hj
      injection hj with _ h3 _
      exact ht h3.symm
namespace Tu
theorem firstI_step (p : Nat → Bool) (k : Nat) : firstI p (k + 1) = if firstI p k < 0 then (if p k = true then (k : Int) else -1) else firstI p k := by
  by_cases h : firstI p k < 0
  · rw [if_pos h]
    have h1 := firstI_neg h
    cases e : p k with
    | true => rw [if_pos rfl]; exact firstI_hit (Nat.lt_succ_self _) h1 e
    | false =>
      rw [if_neg Bool.false_ne_true]
      exact firstI_miss fun i hi => by
        rcases Nat.lt_or_ge i k with h2 | h2
        · exact h1 i h2
        · obtain rfl : i = k := by omega
          exact e
  · rw [if_neg h]
    obtain ⟨m, h1, h2, h3, h4⟩ := firstI_some (rfl : firstI p k = _) (by omega)
    rw [h1]
    exact firstI_hit (by omega) h4 h3
theorem firstI_ge (p : Nat → Bool) (k : Nat) : firstI p k = -1 ∨ (0 ≤ firstI p k ∧ firstI p k < k) := by
  by_cases h : firstI p k < 0
  · exact .inl (firstI_miss (firstI_neg h))
  · obtain ⟨m, h1, h2, _⟩ := firstI_some (rfl : firstI p k = _) (by omega)
    exact .inr ⟨by omega, by omega⟩
end Tu
theorem Try.info_md : (Try.prog.info? 45).map (fun i => (i.zero, i.size, i.bytes)) = some (some (.agg #[.int .i64 0, .int .i64 0, .slice none 0 0]), 3, 40) := by kernel_rfl
end Go.Proofs.Ytmlinoanpcbflaa
