/- Two readers of digits beside one another, the program's and the document's. No condition. -/
import Derived.Test.YtldhhhmihfcalaaPlO
namespace Go.Proofs.Ytldhhhmihfcalaa
open Go.RowKit
set_option linter.unusedVariables false

/-- a slice that is known, in memory that is neither the block k nor the reader's -/
def SlP (q : IntKind) (w : World) (a : Option Addr) (n : Nat) (l : List Int) (k b : Nat) (sv rv : Value) : Prop :=
  l.length = n ∧ (n = 0 ∨ ∃ g o, a = some ⟨g, o, none⟩ ∧ g ≠ k ∧ ¬ PlZ b sv rv g ∧ ∀ i, i < n → w.cell? ⟨g, o + i, none⟩ = some (.int q (l.getD i 0)))
section
variable {q : IntKind} {w w' wr : World} {a A : Option Addr} {n m k b : Nat} {l O : List Int} {sv rv sv' rv' : Value}
theorem SlP.sl (h : SlP q w a n l k b sv rv) : SlK q w a n l := by
  refine ⟨h.1, ?_⟩
  rcases h.2 with h | ⟨g, o, ha, _, _, hc⟩
  · exact .inl h
  · exact .inr ⟨g, o, ha, hc⟩
theorem slp_nil : SlP q w a ([] : List Int).length [] k b sv rv := ⟨rfl, .inl rfl⟩
theorem SlP.put (h : SlP q w a n l k b sv rv) (hg : w.grownBy w' (some k)) : SlP q w' a n l k b sv rv := by
  refine ⟨h.1, ?_⟩
  rcases h.2 with h | ⟨g, o, ha, h1, h2, hc⟩
  · exact .inl h
  · exact .inr ⟨g, o, ha, h1, h2, fun i hi => hg.cell (hc i hi) (by intro e; injection e with e; exact h1 e)⟩
theorem SlP.later (h : SlP q w a n l k b sv rv) (hb : Below w.heap.size w w') : SlP q w' a n l k b sv rv := by
  refine ⟨h.1, ?_⟩
  rcases h.2 with h | ⟨g, o, ha, h1, h2, hc⟩
  · exact .inl h
  · exact .inr ⟨g, o, ha, h1, h2, fun i hi => cell_later hb (hc i hi)⟩
theorem z_new {g : Nat} (hg : g < w.heap.size) (hz : ¬ PlZ b sv rv g) (h1 : PlNew w sv sv') (h2 : PlNew w rv rv') : ¬ PlZ b sv' rv' g := by
  rintro (rfl | h | h)
  · exact hz (.inl rfl)
  · rcases h1 with e | e
    · exact hz (.inr (.inl (by rw [← e]; exact h)))
    · have := e g h; omega
  · rcases h2 with e | e
    · exact hz (.inr (.inr (by rw [← e]; exact h)))
    · have := e g h; omega
theorem SlP.sep (h : SlP q w a n l k b sv rv) (hs : Sep (PlZ b sv rv) w w') (h1 : PlNew w sv sv') (h2 : PlNew w rv rv') : SlP q w' a n l k b sv' rv' := by
  refine ⟨h.1, ?_⟩
  by_cases hn : n = 0
  · exact .inl hn
  rcases h.2 with h | ⟨g, o, ha, hk, hz, hc⟩
  · exact .inl h
  · have hlt : g < w.heap.size := block_lt_of_cell (hc 0 (by omega))
    exact .inr ⟨g, o, ha, hk, z_new hlt hz h1 h2, fun i hi => hs.cell hz (hc i hi)⟩
theorem SlP.of (h : SlK q w a n l) (hf : (a = A ∧ l = O) ∨ Nw wr a) (hA : SlP q wr A m O k b sv rv) (hk : k < wr.heap.size) (hz : ∀ j, PlZ b sv rv j → b ≤ j ∧ j < wr.heap.size) : SlP q w a n l k b sv rv := by
  refine ⟨h.1, ?_⟩
  rcases h.2 with h0 | ⟨g, o, ha, hc⟩
  · exact .inl h0
  · by_cases hn : n = 0
    · exact .inl hn
    rcases hf with ⟨rfl, rfl⟩ | hf
    · rcases hA.2 with h0 | ⟨g', o', ha', h1, h2, _⟩
      · exact absurd (h.1.symm.trans (hA.1.trans h0)) hn
      · rw [ha] at ha'; cases ha'; exact .inr ⟨g, o, ha, h1, h2, hc⟩
    · have h3 : wr.heap.size ≤ g := hf _ ha
      exact .inr ⟨g, o, ha, by omega, fun hz' => by have := (hz g hz').2; omega, hc⟩
end
theorem PlX.put {w w' : World} {b k : Nat} {sv rv : Value} {s : Pl.S} (X : PlX w b sv rv s) (hk : ¬ PlZ b sv rv k) (hg : w.grownBy w' (some k)) : PlX w' b sv rv s :=
  PlX.kept (v := .slice (some ⟨k, 0, none⟩) 0 0) X (fun j hj => by cases hj; exact hk) hg
/-- what is looked at behind both were told -/
structure StQ (b : Nat) (sv rv : Value) (q : Pl.S × List Int) (m : Nat) (a1 a2 : Option Addr) (k : Nat) (b1 b2 : Option Addr) (h2 : Hd.H) (N2 : Int) (m1 m2 : Nat) (e1 e2 : Nat) (rows2 last2 er2 : Int) (w4 w : World) : Prop where
  x : PlX w b sv rv q.1
  s1 : SlK .u64 w a1 m q.2
  s2 : SlK .u64 w a2 m q.2
  kc : RbC w k h2 N2 (.slice b1 m1 e1) (.slice b2 m2 e2) rows2 last2 er2
  p1 : SlP .i64 w b1 q.1.one.length q.1.one k b sv rv
  p2 : SlP .u64 w b2 q.1.row.length q.1.row k b sv rv
  z : ¬ PlZ b sv rv k
  bel : Below w4.heap.size w4 w
section
variable {b : Nat} {sv rv : Value} {q : Pl.S × List Int} {m : Nat} {a1 a2 : Option Addr} {k : Nat} {b1 b2 : Option Addr} {h2 : Hd.H} {N2 : Int} {m1 m2 e1 e2 : Nat} {rows2 last2 er2 : Int} {w4 w w' : World}
theorem StQ.later (Q : StQ b sv rv q m a1 a2 k b1 b2 h2 N2 m1 m2 e1 e2 rows2 last2 er2 w4 w) (hb : Below w.heap.size w w') : StQ b sv rv q m a1 a2 k b1 b2 h2 N2 m1 m2 e1 e2 rows2 last2 er2 w4 w' :=
  ⟨Q.x.later hb, Q.s1.below hb, Q.s2.below hb, Q.kc.later hb, Q.p1.later hb, Q.p2.later hb, Q.z, Q.bel.trans (hb.mono Q.bel.size)⟩
theorem StQ.drew (Q : StQ b sv rv q m a1 a2 k b1 b2 h2 N2 m1 m2 e1 e2 rows2 last2 er2 w4 w) : StQ b sv rv q m a1 a2 k b1 b2 h2 N2 m1 m2 e1 e2 rows2 last2 er2 w4 w.drew :=
  Q.later ⟨rfl, rfl, rfl, Nat.le_refl _, fun _ _ => rfl⟩
theorem StQ.same (Q : StQ b sv rv q m a1 a2 k b1 b2 h2 N2 m1 m2 e1 e2 rows2 last2 er2 w4 w) (hm : m ≤ 9223372036854775807) (c1 c2 : Nat) :
    Calls Try.prog 40 #[.slice a1 m c1, .slice a2 m c2] w fun e w' => e = .returned (.bool true) ∧ StQ b sv rv q m a1 a2 k b1 b2 h2 N2 m1 m2 e1 e2 rows2 last2 er2 w4 w' :=
  (same_yes a1 a2 m c1 c2 q.2 w hm Q.s1 Q.s2).mono fun e w' h => ⟨h.1, Q.later h.2⟩
theorem StQ.rows (Q : StQ b sv rv q m a1 a2 k b1 b2 h2 N2 m1 m2 e1 e2 rows2 last2 er2 w4 w) (hr : q.1.rows = rows2) :
    Calls Try.prog 46 #[.pointer (some ⟨b, 0, none⟩)] w fun e w' => e = .returned (.int .i64 rows2) ∧ w = w' := by
  have h := plRows_x Q.x; rw [hr] at h; exact h
theorem StQ.err (Q : StQ b sv rv q m a1 a2 k b1 b2 h2 N2 m1 m2 e1 e2 rows2 last2 er2 w4 w) (hr : q.1.e = er2) :
    Calls Try.prog 47 #[.pointer (some ⟨b, 0, none⟩)] w fun e w' => e = .returned (.int .i64 er2) ∧ w = w' := by
  have h := plError_x Q.x; rw [hr] at h; exact h
end
end Go.Proofs.Ytldhhhmihfcalaa
