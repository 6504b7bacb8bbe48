/- What begin's walk asks of a tree of words, by the code and by the document. Condition: as each theorem says. -/
import Derived.Test.YtehmbnloplamaaaTrS
import Derived.Test.YtehmbnloplamaaaTrK
namespace Go.Proofs.Ytehmbnloplamaaa
open Go.RowKit
set_option linter.unusedVariables false
open Tr
theorem ret_tc {P : Program} {fn : Func} {p u : Tmp} {ty : TypeId} (h : fn.results = #[.tmp u, .cell p ty]) (tmps : Array Value) (w : World) (b : Nat) (val : Value) (hp : tmps.getD p undef = .pointer (some ⟨b, 0, none⟩)) (hl : (loadVar ty ⟨b, 0, none⟩).run P w = .ok val w) :
    (results fn tmps).run P w = .ok (.tuple #[tmps.getD u undef, val]) w := by
  have hp' : tmps[p]?.getD undef = .pointer (some ⟨b, 0, none⟩) := by simpa using hp
  simp only [results, h]
  simp [hp', asAddr, hl, Result.andThen]
/-- blocks, and two more -/
def Gp (F : Nat → Prop) (x y : Nat) (g : Nat) : Prop := F g ∨ g = x ∨ g = y
theorem Turn.plus {F F' : Nat → Prop} {w w' : World} (h : Turn w F w' F') (x y : Nat) : Turn w (Gp F x y) w' (Gp F' x y) := by
  refine ⟨h.sep.mono fun k e => .inl e, fun g hg => ?_⟩
  rcases hg with e | e | e
  · rcases h.foot g e with e | e
    · exact .inl (.inl e)
    · exact .inr e
  · exact .inl (.inr (.inl e))
  · exact .inl (.inr (.inr e))
theorem RvS.sep {F : Nat → Prop} {w w' : World} {a : Option Addr} {n : Nat} {vs : List Value} {R : LL} (h : RvS F w a n vs R) (hs : Sep F w w') : RvS F w' a n vs R := fun w'' k => h w'' (hs.trans k)
theorem RvS.less {F : Nat → Prop} {w : World} {a : Option Addr} {n : Nat} {vs : List Value} {R : LL} {x y : Nat} (h : RvS (Gp F x y) w a n vs R) : RvS F w a n vs R := fun w'' k => h w'' (k.mono fun _ e => .inl e)
theorem treeOf_take {own : LL} {k : Nat} (hk : k < own.length) : treeOf (own.take (k + 1)) = Tr.stepT (treeOf (own.take k)) (own.getD k []) := by
  rw [List.take_succ_eq_append_getElem hk, treeOf_snoc, gD hk]
theorem rvs_ok1 {F : Nat → Prop} {w : World} {a : Option Addr} {n : Nat} {vs : List Value} {R : LL} (h : RvS F w a n vs R) {i : Nat} (hi : i < n) : ∃ ai ci, vs.getD i (.bool false) = .slice ai (R.getD i []).length ci ∧ (R.getD i []).length ≤ ci ∧ ci ≤ 9223372036854775807 ∧ ∀ w', Sep F w w' → SlK .u64 w' ai (R.getD i []).length (R.getD i []) := by
  obtain ⟨ai, ci, e, _, h2, h3⟩ := h.now.each i hi
  refine ⟨ai, ci, e, h2, h3, fun w' hs => ?_⟩
  obtain ⟨aj, cj, e', k1, _, _⟩ := (h w' hs).each i hi
  rw [e] at e'
  injection e' with e1 e2 e3
  subst e1
  exact k1
def rawVs (A : Nat → Option Addr) (N C : Nat → Nat) (k : Nat) : List Value := (List.range k).map fun i => Value.slice (A i) (min (N i) 5) (C i)
theorem rawVs_succ (A : Nat → Option Addr) (N C : Nat → Nat) (k : Nat) : rawVs A N C (k + 1) = rawVs A N C k ++ [.slice (A k) (min (N k) 5) (C k)] := by
  unfold rawVs; rw [List.range_succ, List.map_append, List.map_singleton]
theorem IsRow.later {k : IntKind} {w w' : World} {a : Option Addr} {len cap : Nat} {zs : List Int} (h : IsRow k w a len cap zs) (hb : Below w.heap.size w w') : IsRow k w' a len cap zs := by
  rcases h with h | ⟨x, e, h1, h2, h3, h4, h5⟩
  · exact .inl h
  · exact .inr ⟨x, e, h1, h2, h3, fun i hi => cell_later hb (h4 i hi), h5⟩
/-- what a word put into the tree of the code leaves of all the rest -/
theorem begin_move {w wr w9 : World} {B tb nb1 nc1 nb2 nc2 b7 b5 : Nat} {rv1 rv2 : Nat → Value} {L Wd own : LL} {x : List Int} {b o k m : Nat} {b2 o2 xl ci : Nat} {ovs vs us : List Value} {la wa : Option Addr} {lc wc1 : Nat}
    (hT : TrP wr B tb nb1 nc1 rv1 L Wd) (hT2 : TrP w9 B tb nb2 nc2 rv2 (putL L x) (Wd ++ [x])) (hne : b7 ≠ b5) (hwb : w.heap.size ≤ b7) (ht : Turn wr (Fp tb nb1 L.length rv1) w9 (Fp tb nb2 (putL L x).length rv2))
    (hov : RvS (Gp (Fp tb nb1 L.length rv1) b7 b5) wr (some ⟨b, o, none⟩) m ovs own) (hrl : RvS (Gp (Fp tb nb1 L.length rv1) b7 b5) wr la L.length vs L) (hrw : RvS (Gp (Fp tb nb1 L.length rv1) b7 b5) wr wa Wd.length us Wd)
    (h7 : Tv wr b7 (.slice la L.length lc) (.slice wa Wd.length wc1)) (h5 : Tv wr b5 (.slice none 0 0) (.slice none 0 0)) (hn7 : ¬ Fp tb nb1 L.length rv1 b7) (hn5 : ¬ Fp tb nb1 L.length rv1 b5) (hb : Below w.heap.size w wr) (hBw : w.heap.size ≤ B)
    (hev : ovs.getD k (.bool false) = .slice (some ⟨b2, o2, none⟩) x.length ci) (hsl : ∀ w', Sep (Gp (Fp tb nb1 L.length rv1) b7 b5) wr w' → SlK .u64 w' (some ⟨b2, o2, none⟩) xl x) (hk : k < m) (hI : Inv L) (hL9 : L.length ≤ 1000) (hW9 : Wd.length ≤ 1000) (hc1 : xl ≤ ci) (hc2 : ci ≤ 9223372036854775807) (hxl : x.length = xl) (hx5 : xl ≤ 100) :
    TrP w9 B tb nb2 nc2 rv2 (putL L x) (Wd ++ [x]) ∧ w9.cell? ⟨b, o + k, none⟩ = some (.slice (some ⟨b2, o2, none⟩) xl ci) ∧ (w9.alloc (.cells #[] 0)).heap.size = w9.heap.size + 1 ∧ Tv w9 b7 (.slice la L.length lc) (.slice wa Wd.length wc1) ∧ Tv w9 b5 (.slice none 0 0) (.slice none 0 0) ∧
    (∀ W', W' = w9.drew → Calls Try.prog 33 #[.agg #[.slice la L.length lc, .slice wa Wd.length wc1], .slice (some ⟨b2, o2, none⟩) xl ci] W' fun e w' => ∃ la' lc' vs' wa' wc', e = .returned (.agg #[.slice la' (putL L x).length lc', .slice wa' (Wd.length + 1) wc']) ∧ RvS (Gp (Fp tb nb2 (putL L x).length rv2) b7 b5) w' la' (putL L x).length vs' (putL L x) ∧ RvS (Gp (Fp tb nb2 (putL L x).length rv2) b7 b5) w' wa' (Wd.length + 1) (us ++ [.slice (some ⟨b2, o2, none⟩) xl ci]) (Wd ++ [x]) ∧ Below w9.heap.size w9 w') ∧
    (∀ (w10 : World) (la' : Option Addr) (lc' : Nat) (vs' : List Value) (wa' : Option Addr) (wc' n' : Nat), Below w9.heap.size w9 w10 → RvS (Gp (Fp tb nb2 (putL L x).length rv2) b7 b5) w10 la' (putL L x).length vs' (putL L x) → RvS (Gp (Fp tb nb2 (putL L x).length rv2) b7 b5) w10 wa' (Wd ++ [x]).length (us ++ [.slice (some ⟨b2, o2, none⟩) xl ci]) (Wd ++ [x]) → Tv w10 b7 (.slice la L.length lc) (.slice wa Wd.length wc1) → n' = (Wd ++ [x]).length →
      TrP ((w10.setCell ⟨b7, 0, none⟩ (.slice la' (putL L x).length lc')).setCell ⟨b7, 1, none⟩ (.slice wa' n' wc')) B tb nb2 nc2 rv2 (putL L x) (Wd ++ [x]) ∧
      RvS (Gp (Fp tb nb2 (putL L x).length rv2) b7 b5) ((w10.setCell ⟨b7, 0, none⟩ (.slice la' (putL L x).length lc')).setCell ⟨b7, 1, none⟩ (.slice wa' n' wc')) (some ⟨b, o, none⟩) m ovs own ∧
      RvS (Gp (Fp tb nb2 (putL L x).length rv2) b7 b5) ((w10.setCell ⟨b7, 0, none⟩ (.slice la' (putL L x).length lc')).setCell ⟨b7, 1, none⟩ (.slice wa' n' wc')) la' (putL L x).length vs' (putL L x) ∧
      RvS (Gp (Fp tb nb2 (putL L x).length rv2) b7 b5) ((w10.setCell ⟨b7, 0, none⟩ (.slice la' (putL L x).length lc')).setCell ⟨b7, 1, none⟩ (.slice wa' n' wc')) wa' (Wd ++ [x]).length (us ++ [.slice (some ⟨b2, o2, none⟩) xl ci]) (Wd ++ [x]) ∧
      Tv ((w10.setCell ⟨b7, 0, none⟩ (.slice la' (putL L x).length lc')).setCell ⟨b7, 1, none⟩ (.slice wa' n' wc')) b7 (.slice la' (putL L x).length lc') (.slice wa' (Wd ++ [x]).length wc') ∧
      Tv ((w10.setCell ⟨b7, 0, none⟩ (.slice la' (putL L x).length lc')).setCell ⟨b7, 1, none⟩ (.slice wa' n' wc')) b5 (.slice none 0 0) (.slice none 0 0) ∧ ¬ Fp tb nb2 (putL L x).length rv2 b7 ∧ ¬ Fp tb nb2 (putL L x).length rv2 b5 ∧ Below w.heap.size w ((w10.setCell ⟨b7, 0, none⟩ (.slice la' (putL L x).length lc')).setCell ⟨b7, 1, none⟩ (.slice wa' n' wc'))) := by
  have htG := ht.plus b7 b5
  obtain ⟨s7, n7⟩ := h7.turn ht hn7
  obtain ⟨s5, n5⟩ := h5.turn ht hn5
  have hov9 := hov.turn htG
  have hrl9 := hrl.turn htG
  have hrw9 := hrw.turn htG
  have hF9 : ∀ g, Gp (Fp tb nb2 (putL L x).length rv2) b7 b5 g → g < w9.heap.size := fun g hg => by
    rcases hg with e | e | e
    · exact (TrX.lt hT2 e).2
    · rw [e]; exact s7.lt
    · rw [e]; exact s5.lt
  have hb9 : Below w.heap.size w w9 := hb.trans (ht.sep.below hb.size fun g hg e => by have := (TrX.lt hT e).1; omega)
  have hov9n := hov9.now
  have hvl : ∀ w', Sep (Gp (Fp tb nb2 (putL L x).length rv2) b7 b5) w9 w' → Ok1 w' (.slice (some ⟨b2, o2, none⟩) xl ci) x := fun w' hs =>
    ⟨some ⟨b2, o2, none⟩, ci, by rw [hxl], by rw [hxl]; exact hsl w' (htG.sepAll hs), by omega, hc2⟩
  refine ⟨hT2, ?_, by simp, s7, s5, ?_, ?_⟩
  · rcases hov9n.cells with h0 | ⟨b', o', e, hc⟩
    · omega
    · cases e
      rw [hc k hk, hev, hxl]
  · rintro W' rfl
    have hbd : Below w9.heap.size w9 w9.drew := (Below.refl _ _).drew
    have hok : ∀ w', Sep (Gp (Fp tb nb2 (putL L x).length rv2) b7 b5) w9.drew w' → Ok1 w' (.slice (some ⟨b2, o2, none⟩) xl ci) x := fun w' hs => hvl w' ((sep_of hbd).trans hs)
    refine (refPut_tr (hrl9.now.later hbd) (hrw9.now.later hbd) hI hL9 hW9 (hok _ (Sep.refl _ _)) hxl hx5).mono ?_
    intro e w' h
    obtain ⟨la', lc', vs', wa', wc', e1, h1, h2, h3⟩ := RPutR.stands (wc := wc1) (hrl9.below hbd) (hrw9.below hbd) hok hF9 h
    exact ⟨la', lc', vs', wa', wc', e1, h1, h2, bel_und h3⟩
  · rintro w10 la' lc' vs' wa' wc' n' hb10 hr1 hr2 ht10 rfl
    have hsp : Sep (Gp (Fp tb nb2 (putL L x).length rv2) b7 b5) w10 ((w10.setCell ⟨b7, 0, none⟩ (.slice la' (putL L x).length lc')).setCell ⟨b7, 1, none⟩ (.slice wa' (Wd ++ [x]).length wc')) := (Sep.setCell _ (.inr (.inl rfl)) _).trans (Sep.setCell _ (.inr (.inl rfl)) _)
    refine ⟨TrX.of_blocks (hT2.later hb10) fun g hg => ?_, (hov9.below hb10).sep hsp, hr1.sep hsp, hr2.sep hsp, (ht10.set0 _).set1 _, ?_, n7, n5, ?_⟩
    · have hgn : g ≠ b7 := fun e => n7 (e ▸ hg)
      rw [Below.heap_setCell _ _ _ _ (by simpa using hgn), Below.heap_setCell _ _ _ _ (by simpa using hgn)]
    · exact ((Below.heap_setCell _ _ _ _ (by simpa using hne.symm)).trans (Below.heap_setCell _ _ _ _ (by simpa using hne.symm))).trans (s5.later hb10)
    · exact ((hb9.trans (hb10.mono hb9.size)).setCell (by simpa using hwb) _).setCell (by simpa using hwb) _
end Go.Proofs.Ytehmbnloplamaaa
