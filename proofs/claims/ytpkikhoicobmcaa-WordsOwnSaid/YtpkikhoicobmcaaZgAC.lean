/- A tree of words, by the code and by the document, both made of rows that came in. No condition. -/
import Derived.Test.YtpkikhoicobmcaaZgAB
import Derived.Test.YtpkikhoicobmcaaZTrL
import Derived.Test.YtpkikhoicobmcaaZgAA
import Derived.Test.YtpkikhoicobmcaaZTrK
namespace Go.Proofs.Ytpkikhoicobmcaa
open Go.RowKit
set_option linter.unusedVariables false
open Tr
/-- a list of slices that stands whatever a tree of these blocks does -/
def RvS (F : Nat → Prop) (w : World) (a : Option Addr) (n : Nat) (vs : List Value) (R : LL) : Prop := ∀ w', Sep F w w' → Rv w' a n vs R
theorem RvS.now {F : Nat → Prop} {w : World} {a : Option Addr} {n : Nat} {vs : List Value} {R : LL} (h : RvS F w a n vs R) : Rv w a n vs R := h w (Sep.refl _ _)
theorem sep_of {F : Nat → Prop} {w w' : World} (hb : Below w.heap.size w w') : Sep F w w' := ⟨hb.os, hb.tape, hb.output, hb.size, fun k hk _ => hb.block k hk⟩
theorem RvS.below {F : Nat → Prop} {w w' : World} {a : Option Addr} {n : Nat} {vs : List Value} {R : LL} (h : RvS F w a n vs R) (hb : Below w.heap.size w w') : RvS F w' a n vs R := fun w'' hs => h w'' ((sep_of hb).trans hs)
theorem Turn.sepAll {a b c : World} {Fa Fb : Nat → Prop} (h : Turn a Fa b Fb) (k : Sep Fb b c) : Sep Fa a c := (h.trans ⟨k, fun g hg => .inl hg⟩ : Turn a Fa c Fb).sep
theorem RvS.turn {F F' : Nat → Prop} {w w' : World} {a : Option Addr} {n : Nat} {vs : List Value} {R : LL} (h : RvS F w a n vs R) (ht : Turn w F w' F') : RvS F' w' a n vs R := fun w'' hs => h w'' (ht.sepAll hs)
theorem RvS.of_fr {F : Nat → Prop} {B : Nat} {w3 W : World} {a : Option Addr} {n : Nat} {vs : List Value} {R : LL} (h : ∀ w'', Fr B w3 w'' → Rv w'' a n vs R) (hF : ∀ g, F g → g < B) (hb : Below w3.heap.size w3 W) : RvS F W a n vs R := fun w'' hs =>
  h w'' fun g h1 h2 => (hs.block g (Nat.lt_of_lt_of_le h2 hb.size) (fun e => by have := hF g e; omega)).trans (hb.block g h2)
/-- what the document's tree with a word more is, whatever a tree does -/
theorem RPutR.stands {F : Nat → Prop} {w w' : World} {la : Option Addr} {ln lc : Nat} {vs : List Value} {wa : Option Addr} {wn wc : Nat} {us : List Value} {word : Value} {L W : LL} {l : List Int} {e : Ending} (hL : RvS F w la ln vs L) (hW : RvS F w wa wn us W) (hw : ∀ w', Sep F w w' → Ok1 w' word l) (hF : ∀ g, F g → g < w.heap.size)
    (h : RPutR w la ln lc vs wa wn us word L W l e w') : ∃ la' lc' vs' wa' wc', e = .returned (.agg #[.slice la' (putL L l).length lc', .slice wa' (W.length + 1) wc']) ∧ RvS F w' la' (putL L l).length vs' (putL L l) ∧ RvS F w' wa' (W.length + 1) (us ++ [word]) (W ++ [l]) ∧ Below w.heap.size w w' := by
  obtain ⟨v1, v2, vs', rfl, hon, h2, hok, hb⟩ := h
  have hwn : wn = W.length := hW.now.rl.symm
  subst hwn
  have hrow : ∀ {v : Value} {n : Nat} {xs : List Value} {w'' : World}, w'.ownsRow w.heap.size 27 1 v n xs → Sep F w' w'' → w''.ownsRow w.heap.size 27 1 v n xs := fun h hs =>
    own_of_block h fun g hg => hs.block g (h.lt g hg).2 (fun e => by have := hF g e; have := (h.lt g hg).1; omega)
  have hall : ∀ w'', Sep F w' w'' → OkV w'' vs' (putL L l) := fun w'' hs => hok w'' (hL w'' ((sep_of hb).trans hs)).ok (hw w'' ((sep_of hb).trans hs))
  have hlen := (hall w' (Sep.refl _ _)).1
  obtain ⟨wa', wc', e2⟩ := Tr.own_form h2
  subst e2
  have hW2 : RvS F w' wa' (W.length + 1) (us ++ [word]) (W ++ [l]) := fun w'' hs => rv_own (hrow h2 hs) ((hW w'' ((sep_of hb).trans hs)).ok.snoc (hw w'' ((sep_of hb).trans hs))) (by simp)
  rcases hon with ⟨rfl, rfl⟩ | h1
  · have hln : ln = (putL L l).length := by rw [← hlen]; exact hL.now.vl.symm
    refine ⟨la, lc, vs', wa', wc', by rw [← hln], fun w'' hs => ?_, hW2, hb⟩
    have h3 := hL w'' ((sep_of hb).trans hs)
    rw [← hln]
    exact ⟨h3.vl, hln.symm, h3.cells, fun i hi => (hall w'' hs).2 i (by rw [← hln]; exact hi)⟩
  · obtain ⟨la', lc', e1⟩ := Tr.own_form h1
    subst e1
    refine ⟨la', lc', vs', wa', wc', by rw [hlen], fun w'' hs => ?_, hW2, hb⟩
    have := rv_own (hrow h1 hs) (hall w'' hs) hlen.symm
    rwa [hlen] at this
/-- the rows of which the trees are made -/
def ownV (raw : Bool) (N : Nat → Nat) (Z : Nat → List Int) (q : Nat) : LL := if raw = true then (List.range q).map (fun i => (Z i).take (min (N i) 5)) else smallV (rowsIn N Z q)
def BegR (own : LL) (w : World) (e : Ending) (w' : World) : Prop := ∃ B tb nb nc rv la lc vs wa wc us, e = .returned (.tuple #[.pointer (some ⟨tb, 0, none⟩), .agg #[.slice la (treeOf own).1.length lc, .slice wa (treeOf own).2.length wc]]) ∧ TrP w' B tb nb nc rv (treeOf own).1 (treeOf own).2 ∧ RvS (Fp tb nb (treeOf own).1.length rv) w' la (treeOf own).1.length vs (treeOf own).1 ∧ RvS (Fp tb nb (treeOf own).1.length rv) w' wa (treeOf own).2.length us (treeOf own).2 ∧ w.heap.size ≤ B ∧ Below w.heap.size w w'
theorem smallV_len (R : LL) : (smallV R).length ≤ R.length := by
  unfold smallV; exact Nat.le_trans (List.length_filter_le _ _) (by simp)
theorem smallV_short (R : LL) : ∀ r ∈ smallV R, r.length ≤ 5 := fun r hr => by
  unfold smallV at hr
  obtain ⟨x, _, rfl⟩ := List.mem_map.1 (List.mem_filter.1 hr).1
  rw [rowV_len]; omega
theorem ownV_len (raw : Bool) (N : Nat → Nat) (Z : Nat → List Int) (q : Nat) : (ownV raw N Z q).length ≤ q := by
  unfold ownV; split
  · simp
  · exact Nat.le_trans (smallV_len _) (by rw [rowsIn_len]; exact Nat.le_refl _)
theorem ownV_short (raw : Bool) (N : Nat → Nat) (Z : Nat → List Int) (q : Nat) : ∀ r ∈ ownV raw N Z q, r.length ≤ 5 := fun r hr => by
  unfold ownV at hr; split at hr
  · obtain ⟨i, _, rfl⟩ := List.mem_map.1 hr
    rw [List.length_take]; omega
  · exact smallV_short _ r hr
theorem paths_short {own : LL} (h : ∀ r ∈ own, r.length ≤ 5) : ∀ p ∈ (treeOf own).1, p.length ≤ 5 := fun p hp => by
  rcases (foldl_mem own ([[]], [])).1 hp with e | ⟨v, hv, j, _, _, rfl⟩
  · simp at e; subst e; simp
  · have := h v hv; rw [List.length_take]; omega
end Go.Proofs.Ytpkikhoicobmcaa

/- What begin's walk asks of a tree of words, by the code and by the document. Condition: as each theorem says. -/
namespace Go.Proofs.Ytpkikhoicobmcaa
open Go.RowKit
set_option linter.unusedVariables false
open Tr
theorem ret_tc {P : Program} {fn : Func} {p u : Tmp} {ty : TypeId} (h : fn.results = #[.tmp u, .cell p ty]) (tmps : Array Value) (w : World) (b : Nat) (val : Value) (hp : tmps.getD p undef = .pointer (some ⟨b, 0, none⟩)) (hl : (loadVar ty ⟨b, 0, none⟩).run P w = .ok val w) :
    (results fn tmps).run P w = .ok (.tuple #[tmps.getD u undef, val]) w := by
  have hp' : tmps[p]?.getD undef = .pointer (some ⟨b, 0, none⟩) := by simpa using hp
  simp only [results, h]
  simp [hp', asAddr, hl, Result.andThen]
/-- blocks, and two more -/
def Gp (F : Nat → Prop) (x y : Nat) (g : Nat) : Prop := F g ∨ g = x ∨ g = y
theorem Turn.plus {F F' : Nat → Prop} {w w' : World} (h : Turn w F w' F') (x y : Nat) : Turn w (Gp F x y) w' (Gp F' x y) := by
  refine ⟨h.sep.mono fun k e => .inl e, fun g hg => ?_⟩
  rcases hg with e | e | e
  · rcases h.foot g e with e | e
    · exact .inl (.inl e)
    · exact .inr e
  · exact .inl (.inr (.inl e))
  · exact .inl (.inr (.inr e))
theorem RvS.sep {F : Nat → Prop} {w w' : World} {a : Option Addr} {n : Nat} {vs : List Value} {R : LL} (h : RvS F w a n vs R) (hs : Sep F w w') : RvS F w' a n vs R := fun w'' k => h w'' (hs.trans k)
theorem RvS.less {F : Nat → Prop} {w : World} {a : Option Addr} {n : Nat} {vs : List Value} {R : LL} {x y : Nat} (h : RvS (Gp F x y) w a n vs R) : RvS F w a n vs R := fun w'' k => h w'' (k.mono fun _ e => .inl e)
theorem treeOf_take {own : LL} {k : Nat} (hk : k < own.length) : treeOf (own.take (k + 1)) = Tr.stepT (treeOf (own.take k)) (own.getD k []) := by
  rw [List.take_succ_eq_append_getElem hk, treeOf_snoc, gD hk]
theorem rvs_ok1 {F : Nat → Prop} {w : World} {a : Option Addr} {n : Nat} {vs : List Value} {R : LL} (h : RvS F w a n vs R) {i : Nat} (hi : i < n) : ∃ ai ci, vs.getD i (.bool false) = .slice ai (R.getD i []).length ci ∧ (R.getD i []).length ≤ ci ∧ ci ≤ 9223372036854775807 ∧ ∀ w', Sep F w w' → SlK .u64 w' ai (R.getD i []).length (R.getD i []) := by
  obtain ⟨ai, ci, e, _, h2, h3⟩ := h.now.each i hi
  refine ⟨ai, ci, e, h2, h3, fun w' hs => ?_⟩
  obtain ⟨aj, cj, e', k1, _, _⟩ := (h w' hs).each i hi
  rw [e] at e'
  injection e' with e1 e2 e3
  subst e1
  exact k1
def rawVs (A : Nat → Option Addr) (N C : Nat → Nat) (k : Nat) : List Value := (List.range k).map fun i => Value.slice (A i) (min (N i) 5) (C i)
theorem rawVs_succ (A : Nat → Option Addr) (N C : Nat → Nat) (k : Nat) : rawVs A N C (k + 1) = rawVs A N C k ++ [.slice (A k) (min (N k) 5) (C k)] := by
  unfold rawVs; rw [List.range_succ, List.map_append, List.map_singleton]
theorem IsRow.later {k : IntKind} {w w' : World} {a : Option Addr} {len cap : Nat} {zs : List Int} (h : IsRow k w a len cap zs) (hb : Below w.heap.size w w') : IsRow k w' a len cap zs := by
  rcases h with h | ⟨x, e, h1, h2, h3, h4, h5⟩
  · exact .inl h
  · exact .inr ⟨x, e, h1, h2, h3, fun i hi => cell_later hb (h4 i hi), h5⟩
end Go.Proofs.Ytpkikhoicobmcaa
