/- A dictionary's templates, variants, owners and formats, as plain lists; what a template more makes of them. No run of a program. No condition. -/
import Derived.Test.YtmlinoanpcbflaaZTurOC
import Derived.Test.YtmlinoanpcbflaaZgAC
import Derived.Test.YtmlinoanpcbflaaZRng
import Derived.Maps.OwnSet
import Derived.Maps.RangeWalk
import Derived.Laws.OwnMore
import Derived.Deep.AppendLies
import Derived.Deep.RegionHeld3
import Derived.Deep.LoopGhost
import Derived.LoopN
import Derived.Deep.CutRange
import Derived.Deep.CutBlock
import Derived.Deep.RegionLaw
import Derived.RegionTactic
import Derived.BigQuiet
namespace Go.Proofs.Ytmlinoanpcbflaa
open Go.RowKit
set_option linter.unusedVariables false
namespace Dc
section
variable {α : Type} [DecidableEq α]
/-- a list with one more, if it lacks it -/
def ins (l : List α) (x : α) : List α := if x ∈ l then l else l ++ [x]
def insAll (l xs : List α) : List α := xs.foldl ins l
/-- where it stands, or -1 -/
def plc (l : List α) (x : α) : Int := if x ∈ l then (l.idxOf x : Nat) else -1
theorem ins_mem {l : List α} {x y : α} : y ∈ ins l x ↔ y ∈ l ∨ y = x := by
  unfold ins; split
  · next h => exact ⟨.inl, fun e => e.elim id fun e => e ▸ h⟩
  · simp
theorem insAll_cons (l : List α) (x : α) (xs : List α) : insAll l (x :: xs) = insAll (ins l x) xs := rfl
theorem insAll_append (l xs ys : List α) : insAll l (xs ++ ys) = insAll (insAll l xs) ys := by unfold insAll; rw [List.foldl_append]
theorem insAll_more (l xs : List α) (x : α) : insAll l (xs ++ [x]) = ins (insAll l xs) x := by rw [insAll_append]; rfl
theorem insAll_mem {xs : List α} : ∀ {l : List α} {y : α}, y ∈ insAll l xs ↔ y ∈ l ∨ y ∈ xs := by
  induction xs with
  | nil => intro l y; simp [insAll]
  | cons x xs ih => intro l y; rw [insAll_cons, ih, ins_mem]; simp [or_assoc]
theorem ins_nodup {l : List α} {x : α} (h : l.Nodup) : (ins l x).Nodup := by
  unfold ins; split
  · exact h
  · next hx => exact List.nodup_append.2 ⟨h, by simp, fun a ha b hb => by simp at hb; subst hb; exact fun e => hx (e ▸ ha)⟩
theorem insAll_nodup {xs : List α} : ∀ {l : List α}, l.Nodup → (insAll l xs).Nodup := by
  induction xs with
  | nil => intro l h; exact h
  | cons x xs ih => intro l h; rw [insAll_cons]; exact ih (ins_nodup h)
theorem ins_pre (l : List α) (x : α) : ∃ t, ins l x = l ++ t := by
  unfold ins; split
  · exact ⟨[], by simp⟩
  · exact ⟨[x], rfl⟩
theorem insAll_pre (xs : List α) : ∀ l : List α, ∃ t, insAll l xs = l ++ t := by
  induction xs with
  | nil => intro l; exact ⟨[], by simp [insAll]⟩
  | cons x xs ih =>
    intro l
    obtain ⟨t, ht⟩ := ins_pre l x
    obtain ⟨u, hu⟩ := ih (ins l x)
    exact ⟨t ++ u, by rw [insAll_cons, hu, ht, List.append_assoc]⟩
theorem insAll_old {xs : List α} : ∀ {l : List α}, (∀ x ∈ xs, x ∈ l) → insAll l xs = l := by
  induction xs with
  | nil => intro l _; rfl
  | cons x xs ih =>
    intro l h
    have e : ins l x = l := by unfold ins; rw [if_pos (h x (by simp))]
    rw [insAll_cons, e]; exact ih fun y hy => h y (by simp [hy])
theorem insAll_dedup (l : List α) : ∀ xs : List α, insAll l (insAll [] xs) = insAll l xs := by
  intro xs
  induction hn : xs.length generalizing xs with
  | zero => have : xs = [] := List.eq_nil_of_length_eq_zero hn; subst this; rfl
  | succ n ih =>
    obtain ⟨ys, y, rfl⟩ : ∃ ys y, xs = ys ++ [y] := ⟨xs.dropLast, xs.getLast (by intro e; subst e; cases hn), (List.dropLast_concat_getLast _).symm⟩
    have hy : ys.length = n := by simpa using hn
    rw [insAll_more, insAll_more, ← ih ys hy]
    by_cases h : y ∈ insAll [] ys
    · have e : ins (insAll [] ys) y = insAll [] ys := by unfold ins; rw [if_pos h]
      rw [e]
      unfold ins
      rw [if_pos (insAll_mem.2 (.inr h))]
    · have e : ins (insAll [] ys) y = insAll [] ys ++ [y] := by unfold ins; rw [if_neg h]
      rw [e, insAll_more]
theorem plc_pre {l : List α} {x : α} (h : x ∈ l) (t : List α) : plc (l ++ t) x = plc l x := by
  unfold plc
  rw [if_pos (List.mem_append.2 (.inl h)), if_pos h, List.idxOf_append, if_pos h]
theorem plc_at {l : List α} {x : α} (h : x ∈ l) : ∃ i : Nat, plc l x = i ∧ i < l.length ∧ l[i]? = some x := by
  refine ⟨l.idxOf x, by unfold plc; rw [if_pos h], List.idxOf_lt_length_of_mem h, ?_⟩
  rw [List.getElem?_eq_getElem (List.idxOf_lt_length_of_mem h), List.getElem_idxOf]
theorem plc_nodup {l : List α} (hl : l.Nodup) {i : Nat} {x : α} (h : l[i]? = some x) : plc l x = i := by
  have hx := List.mem_of_getElem? h
  obtain ⟨j, h1, h2, h3⟩ := plc_at hx
  rw [h1]
  obtain ⟨hi, e1⟩ := List.getElem?_eq_some_iff.1 h
  obtain ⟨hj, e2⟩ := List.getElem?_eq_some_iff.1 h3
  have := (List.getElem_inj hl).1 (e2.trans e1.symm)
  omega
theorem plc_neg {l : List α} {x : α} : plc l x < 0 ↔ x ∉ l := by
  unfold plc; split
  · next h => exact ⟨fun e => by omega, fun e => absurd h e⟩
  · next h => exact ⟨fun _ => h, fun _ => by omega⟩
theorem plc_ins (l : List α) (x : α) : plc (ins l x) x = if x ∈ l then plc l x else (l.length : Nat) := by
  unfold ins; split
  · rfl
  · next h =>
    unfold plc
    rw [if_pos (by simp), List.idxOf_append, if_neg h]
    simp
theorem first_plc {p : Nat → Bool} {l : List α} {x : α} (hp : ∀ i (y : α), l[i]? = some y → p i = decide (y = x)) : Tu.firstI p l.length = plc l x := by
  by_cases h : x ∈ l
  · have hlt := List.idxOf_lt_length_of_mem h
    have hat : l[l.idxOf x]? = some x := by rw [List.getElem?_eq_getElem hlt, List.getElem_idxOf]
    have h1 : ∀ i, i < l.idxOf x → p i = false := fun i hi => by
      have hil : i < l.length := by omega
      rw [hp i l[i] (List.getElem?_eq_getElem hil)]
      exact decide_eq_false fun e => by
        have := List.not_of_lt_findIdx (p := (· == x)) (xs := l) (i := i) hi
        simp [e] at this
    have h2 : p (l.idxOf x) = true := by rw [hp _ x hat]; simp
    rw [Tu.firstI_hit hlt h1 h2]
    unfold plc; rw [if_pos h]
  · have h1 : ∀ i, i < l.length → p i = false := fun i hi => by
      rw [hp i l[i] (List.getElem?_eq_getElem hi)]
      exact decide_eq_false fun e => h (e ▸ List.getElem_mem hi)
    rw [Tu.firstI_miss h1]
    unfold plc; rw [if_neg h]
end
/-- an image: channels, greatest sample, width, height, pixels -/
abbrev Im := Int × Int × Nat × Nat × List Int
abbrev Ow := Int × Int
/-- a template: its image, its turns -/
abbrev Tp := Im × List Int
/-- a variant: its image, its owners -/
abbrev Va := Im × List Ow
def key (x : Im) (g : Int) : Nat × Nat × List Int := (Tu.sw g.toNat x.2.2.1 x.2.2.2.1, Tu.sw g.toNat x.2.2.2.1 x.2.2.1, Tu.layL g.toNat x.2.2.1 x.2.2.2.1 x.2.2.2.2)
def mk (x : Im) (k : Nat × Nat × List Int) : Im := (x.1, x.2.1, k)
def lay (x : Im) (g : Int) : Im := mk x (key x g)
def prs (t : Nat) (p : Tp) : List (Ow × Im) := p.2.map fun g => (((t : Int), g), lay p.1 g)
def pairs (ts : List Tp) : List (Ow × Im) := ts.zipIdx.flatMap fun pt => prs pt.2 pt.1
def imgs (ts : List Tp) : List Im := insAll [] ((pairs ts).map (·.2))
def own (ts : List Tp) (x : Im) : List Ow := ((pairs ts).filter fun q => decide (q.2 = x)).map (·.1)
def vars (ts : List Tp) : List Va := (imgs ts).map fun x => (x, own ts x)
def area (l : List Im) : Nat := (l.map fun x => x.2.2.2.2.length).sum
def fmt (x : Im) : Int × Int := (x.1, x.2.1)
def fmts (ts : List Tp) : List (Int × Int) := insAll [] (ts.map fun p => fmt p.1)
theorem pairs_more (ts : List Tp) (p : Tp) : pairs (ts ++ [p]) = pairs ts ++ prs ts.length p := by
  unfold pairs
  rw [List.zipIdx_append, List.flatMap_append]
  simp
theorem prs_imgs (t : Nat) (p : Tp) : (prs t p).map (·.2) = p.2.map (lay p.1) := by unfold prs; simp
theorem imgs_more (ts : List Tp) (p : Tp) : imgs (ts ++ [p]) = insAll (imgs ts) (p.2.map (lay p.1)) := by
  unfold imgs; rw [pairs_more, List.map_append, prs_imgs, insAll_append]
theorem imgs_nodup (ts : List Tp) : (imgs ts).Nodup := insAll_nodup List.nodup_nil
theorem mem_imgs {ts : List Tp} {x : Im} : x ∈ imgs ts ↔ ∃ o, (o, x) ∈ pairs ts := by
  unfold imgs; rw [insAll_mem]; simp
theorem own_none {ts : List Tp} {x : Im} (h : x ∉ imgs ts) : own ts x = [] := by
  unfold own
  rw [List.map_eq_nil_iff, List.filter_eq_nil_iff]
  intro q hq e
  refine h (mem_imgs.2 ⟨q.1, ?_⟩)
  rw [← of_decide_eq_true e]; exact hq
/-- the owners that the first k turns of one more template make -/
def adds (t : Nat) (p : Tp) (k : Nat) (x : Im) : List Ow := ((p.2.take k).filter fun g => decide (lay p.1 g = x)).map fun g => ((t : Int), g)
theorem own_more (ts : List Tp) (p : Tp) (x : Im) : own (ts ++ [p]) x = own ts x ++ adds ts.length p p.2.length x := by
  unfold own adds
  rw [pairs_more, List.filter_append, List.map_append, List.take_length]
  congr 1
  unfold prs
  rw [List.filter_map, List.map_map]
  rfl
theorem adds_zero (t : Nat) (p : Tp) (x : Im) : adds t p 0 x = [] := by simp [adds]
theorem adds_succ (t : Nat) (p : Tp) {k : Nat} (hk : k < p.2.length) (x : Im) : adds t p (k + 1) x = adds t p k x ++ if lay p.1 (p.2.getD k 0) = x then [((t : Int), p.2.getD k 0)] else [] := by
  unfold adds
  have e : p.2.getD k 0 = p.2[k] := by rw [List.getD_eq_getElem?_getD, List.getElem?_eq_getElem hk]; rfl
  rw [List.take_succ_eq_append_getElem hk, List.filter_append, List.map_append, e]
  congr 1
  by_cases h : lay p.1 p.2[k] = x <;> simp [h]
/-- the variants, the images behind the first ones having come, and the first k owners of the template behind the last one -/
def rowsK (ts : List Tp) (p : Tp) (k : Nat) (l : List Im) : List Va := l.map fun x => (x, own ts x ++ adds ts.length p k x)
theorem rowsK_all (ts : List Tp) (p : Tp) : rowsK ts p p.2.length (imgs (ts ++ [p])) = vars (ts ++ [p]) := by
  unfold rowsK vars
  exact List.map_congr_left fun x _ => by rw [own_more]
theorem rowsK_zero (ts : List Tp) (p : Tp) (l : List Im) : rowsK ts p 0 l = l.map fun x => (x, own ts x) := by
  unfold rowsK
  exact List.map_congr_left fun x _ => by rw [adds_zero, List.append_nil]
theorem rowsK_succ (ts : List Tp) (p : Tp) {k i : Nat} (hk : k < p.2.length) {l : List Im} (hl : l.Nodup) {x : Im} (hx : l[i]? = some x) (hlay : lay p.1 (p.2.getD k 0) = x) :
    rowsK ts p (k + 1) l = (rowsK ts p k l).set i (x, (own ts x ++ adds ts.length p k x) ++ [((ts.length : Int), p.2.getD k 0)]) := by
  apply List.ext_getElem?
  intro j
  unfold rowsK
  by_cases hj : j = i
  · subst hj
    have hlt := (List.getElem?_eq_some_iff.1 hx).1
    rw [List.getElem?_set_self (by simpa using hlt), List.getElem?_map, hx]
    simp only [Option.map_some]
    rw [adds_succ _ _ hk, if_pos hlay, List.append_assoc]
  · rw [List.getElem?_set_ne (fun e => hj e.symm), List.getElem?_map, List.getElem?_map]
    cases hy : l[j]? with
    | none => rfl
    | some y =>
      have hne : ¬ lay p.1 (p.2.getD k 0) = y := by
        rw [hlay]
        intro e
        subst e
        obtain ⟨hi1, e1⟩ := List.getElem?_eq_some_iff.1 hx
        obtain ⟨hj1, e2⟩ := List.getElem?_eq_some_iff.1 hy
        exact hj ((List.getElem_inj hl).1 (e2.trans e1.symm))
      simp only [Option.map_some]
      rw [adds_succ _ _ hk, if_neg hne, List.append_nil]
/-- the ways to lay, and the plc of each among them -/
theorem orb_all (W H : Nat) (L : List Int) (c m : Int) : ∀ ts : List Int, (∀ t ∈ ts, Tu.isT t = true ∧ Tu.keyOf W H L t.toNat = some (key (c, m, W, H, L) t)) →
    (Tu.orbO W H L ts).1 = insAll [] (ts.map (key (c, m, W, H, L))) ∧ (Tu.orbO W H L ts).2 = ts.map fun t => plc (insAll [] (ts.map (key (c, m, W, H, L)))) (key (c, m, W, H, L) t) := by
  intro ts
  induction hn : ts.length generalizing ts with
  | zero => intro _; have : ts = [] := List.eq_nil_of_length_eq_zero hn; subst this; exact ⟨rfl, rfl⟩
  | succ n ih =>
    intro h
    obtain ⟨ys, y, rfl⟩ : ∃ ys y, ts = ys ++ [y] := ⟨ts.dropLast, ts.getLast (by intro e; subst e; cases hn), (List.dropLast_concat_getLast _).symm⟩
    obtain ⟨i1, i2⟩ := ih ys (by simpa using hn) (fun t ht => h t (by simp [ht]))
    obtain ⟨hy1, hy2⟩ := h y (by simp)
    have hpl : ∀ (ks : List (Nat × Nat × List Int)) (t : Nat × Nat × List Int), Tu.placeK ks t = plc ks t := fun ks t => by
      unfold Tu.placeK
      refine first_plc fun i z hz => ?_
      rw [hz]
      unfold Tu.isKey Tu.eqM
      obtain ⟨z1, z2, z3⟩ := z
      obtain ⟨t1, t2, t3⟩ := t
      rw [Bool.eq_iff_iff]
      simp only [Bool.and_eq_true, decide_eq_true_eq, Prod.mk.injEq]
      constructor <;> rintro ⟨h1, h2, h3⟩ <;> refine ⟨by omega, by omega, h3⟩
    have hst : Tu.stepO W H L (Tu.orbO W H L ys).1 y = (ins (Tu.orbO W H L ys).1 (key (c, m, W, H, L) y), plc (ins (Tu.orbO W H L ys).1 (key (c, m, W, H, L) y)) (key (c, m, W, H, L) y)) := by
      unfold Tu.stepO
      rw [if_pos hy1, hy2]
      show (if Tu.placeK _ _ < 0 then _ else _) = _
      rw [hpl, plc_ins]
      by_cases hk : key (c, m, W, H, L) y ∈ (Tu.orbO W H L ys).1
      · rw [if_neg (fun e => plc_neg.1 e hk), if_pos hk]
        unfold ins; rw [if_pos hk]
      · rw [if_pos (plc_neg.2 hk), if_neg hk]
        unfold ins; rw [if_neg hk]
    rw [Tu.orb_more, hst, i1, i2, List.map_append, List.map_singleton, insAll_more]
    refine ⟨rfl, ?_⟩
    rw [List.map_append, List.map_singleton]
    obtain ⟨u, hu⟩ := ins_pre (insAll [] (ys.map (key (c, m, W, H, L)))) (key (c, m, W, H, L) y)
    have e : (ys.map fun t => plc (insAll [] (ys.map (key (c, m, W, H, L)))) (key (c, m, W, H, L) t)) = ys.map fun t => plc (ins (insAll [] (ys.map (key (c, m, W, H, L)))) (key (c, m, W, H, L) y)) (key (c, m, W, H, L) t) :=
      List.map_congr_left fun t ht => by rw [hu, plc_pre (insAll_mem.2 (.inr (List.mem_map.2 ⟨t, ht, rfl⟩)))]
    rw [← e]
/-- the images of the ways are those of the turns -/
theorem ways_imgs (l : List Im) (x : Im) (ts : List Int) : insAll l ((insAll [] (ts.map (key x))).map (mk x)) = insAll l (ts.map (lay x)) := by
  have hinj : ∀ a b, mk x a = mk x b → a = b := fun a b e => by unfold mk at e; injection e with _ e; injection e
  have : ∀ (ks k0 : List (Nat × Nat × List Int)), (insAll k0 ks).map (mk x) = insAll (k0.map (mk x)) (ks.map (mk x)) := by
    intro ks
    induction ks with
    | nil => intro k0; rfl
    | cons k ks ih =>
      intro k0
      rw [insAll_cons, ih, List.map_cons, insAll_cons]
      congr 1
      unfold ins
      have : mk x k ∈ k0.map (mk x) ↔ k ∈ k0 := by
        rw [List.mem_map]
        exact ⟨fun ⟨a, ha, e⟩ => hinj _ _ e ▸ ha, fun h => ⟨k, h, rfl⟩⟩
      by_cases hk : k ∈ k0
      · rw [if_pos hk, if_pos (this.2 hk)]
      · rw [if_neg hk, if_neg (fun e => hk (this.1 e)), List.map_append, List.map_singleton]
  rw [this, List.map_nil, insAll_dedup, List.map_map]
  rfl
theorem area_append (a b : List Im) : area (a ++ b) = area a + area b := by simp [area]
end Dc
end Go.Proofs.Ytmlinoanpcbflaa

/- A dictionary in memory: its box, its templates, its variants and their owners, its map of formats; the blocks that it lies in. No condition. -/
namespace Go.Proofs.Ytmlinoanpcbflaa
open Go.RowKit
set_option linter.unusedVariables false
namespace Dc
section
variable {α : Type} {k : Nat} {f : α → List Value}
theorem flat_len (hf : ∀ a, (f a).length = k) : ∀ l : List α, (l.flatMap f).length = l.length * k
  | [] => by simp
  | a :: l => by rw [List.flatMap_cons, List.length_append, hf, flat_len hf l, List.length_cons, Nat.succ_mul]; omega
theorem flat_get (hf : ∀ a, (f a).length = k) : ∀ {l : List α} {i : Nat} {a : α} {j : Nat}, l[i]? = some a → j < k → (l.flatMap f)[i * k + j]? = (f a)[j]?
  | [], i, a, j, h, _ => by simp at h
  | x :: l, 0, a, j, h, hj => by
    simp at h; subst h
    rw [List.flatMap_cons, Nat.zero_mul, Nat.zero_add, List.getElem?_append_left (by rw [hf]; exact hj)]
  | x :: l, i + 1, a, j, h, hj => by
    have := flat_get hf (l := l) (i := i) (a := a) (j := j) (by simpa using h) hj
    rw [List.flatMap_cons, List.getElem?_append_right (by rw [hf, Nat.succ_mul]; omega), hf, ← this]
    congr 1
    rw [Nat.succ_mul]; omega
theorem flat_set (hf : ∀ a, (f a).length = k) {l : List α} {i : Nat} {a a' : α} {j : Nat} {v : Value} (h : l[i]? = some a) (hj : j < k) (he : f a' = (f a).set j v) : (l.flatMap f).set (i * k + j) v = (l.set i a').flatMap f := by
  induction l generalizing i with
  | nil => simp at h
  | cons x l ih =>
    cases i with
    | zero =>
      simp at h; subst h
      rw [List.set_cons_zero, List.flatMap_cons, List.flatMap_cons, he, Nat.zero_mul, Nat.zero_add, List.set_append_left _ _ (by rw [hf]; exact hj)]
    | succ i =>
      rw [List.set_cons_succ, List.flatMap_cons, List.flatMap_cons, List.set_append_right _ _ (by rw [hf, Nat.succ_mul]; omega), hf, show (i + 1) * k + j - k = i * k + j by rw [Nat.succ_mul]; omega, ih (by simpa using h)]
end
theorem own_type {w : World} {B : Nat} {e : TypeId} {size : Nat} {v : Value} {n : Nat} {xs : List Value} {g : Nat} (h : w.ownsRow B e size v n xs) (hg : v.ownBlock = some g) : ∃ cur, w.heap[g]? = some (.cells cur e (0, 0)) := by
  rcases h.2 with ⟨rfl, _⟩ | ⟨j, cap, cur, rfl, _, hj, _⟩
  · simp [Value.ownBlock] at hg
  · simp [Value.ownBlock] at hg; subst hg; exact ⟨cur, hj⟩
theorem own_of_block {w w' : World} {B : Nat} {e : TypeId} {size : Nat} {v : Value} {n : Nat} {xs : List Value} (h : w.ownsRow B e size v n xs) (hb : ∀ g, v.ownBlock = some g → w'.heap[g]? = w.heap[g]?) : w'.ownsRow B e size v n xs := by
  refine ⟨h.1, ?_⟩
  rcases h.2 with hn | ⟨j, cap, cur, rfl, h1, hj, r⟩
  · exact .inl hn
  · exact .inr ⟨j, cap, cur, rfl, h1, (hb j rfl).trans hj, r⟩
/-- a slice's block is one of F -/
def In (F : Nat → Prop) (v : Value) : Prop := ∀ g, v.ownBlock = some g → F g
/-- a variant in memory: its image, its numbers' block, its owners' slice, its owners -/
abbrev Vr := Im × Nat × (Option Addr × Nat) × List Ow
/-- its owners' slice -/
def Vr.ov (r : Vr) : Value := .slice r.2.2.1.1 r.2.2.2.length r.2.2.1.2
def Vr.key (r : Vr) : Va := (r.1, r.2.2.2)
def vcs (r : Vr) : List Value := [.int .i64 r.1.1, .int .i64 r.1.2.1, .int .i64 (r.1.2.2.1 : Nat), .int .i64 (r.1.2.2.2.1 : Nat), .slice (some ⟨r.2.1, 0, none⟩) r.1.2.2.2.2.length r.1.2.2.2.2.length, .slice r.2.2.1.1 r.2.2.2.length r.2.2.1.2]
def ocs (o : Ow) : List Value := [.int .i64 o.1, .int .i64 o.2]
/-- a template in memory: its image, its numbers' slice, its turns' slice, its turns -/
abbrev Te := Im × (Option Addr × Nat) × (Option Addr × Nat) × List Int
/-- its numbers' slice, its turns' slice -/
def Te.pv (r : Te) : Value := .slice r.2.1.1 r.1.2.2.2.2.length r.2.1.2
def Te.tv (r : Te) : Value := .slice r.2.2.1.1 r.2.2.2.length r.2.2.1.2
def Te.key (r : Te) : Tp := (r.1, r.2.2.2)
def tcs (r : Te) : List Value := [.int .i64 r.1.1, .int .i64 r.1.2.1, .int .i64 (r.1.2.2.1 : Nat), .int .i64 (r.1.2.2.2.1 : Nat), .slice r.2.1.1 r.1.2.2.2.2.length r.2.1.2, .slice r.2.2.1.1 r.2.2.2.length r.2.2.1.2]
theorem vcs_len (r : Vr) : (vcs r).length = 6 := rfl
theorem ocs_len (o : Ow) : (ocs o).length = 2 := rfl
theorem tcs_len (r : Te) : (tcs r).length = 6 := rfl
/-- a slice that lies in memory, its room perhaps cut -/
def Lies (w : World) (v : Value) (l : List Vr) : Prop :=
  (v = .slice none 0 0 ∧ l = []) ∨ ∃ g cap cur, v = .slice (some ⟨g, 0, none⟩) l.length cap ∧ w.heap[g]? = some (.cells cur 69 (0, 0)) ∧ l.length ≤ cap ∧ cap ≤ maxLen ∧ cap * 6 ≤ cur.size ∧ cur.toList.take (l.length * 6) = l.flatMap vcs
structure VarX (w : World) (F : Nat → Prop) (v : Value) (l : List Vr) : Prop where
  lies : Lies w v l
  here : In F v
  pix : ∀ r ∈ l, OwnG 0 w r.2.1 r.1.2.2.2.2 ∧ F r.2.1
  own : ∀ r ∈ l, w.ownsRow 0 71 2 (Vr.ov r) r.2.2.2.length (r.2.2.2.flatMap ocs) ∧ In F (Vr.ov r)
  apart : ∀ (i j : Nat) (a b : Vr), l[i]? = some a → l[j]? = some b → i ≠ j → (Vr.ov a).ownBlock = none ∨ (Vr.ov a).ownBlock ≠ (Vr.ov b).ownBlock
structure TplX (w : World) (F : Nat → Prop) (v : Value) (l : List Te) : Prop where
  row : w.ownsRow 0 74 6 v l.length (l.flatMap tcs)
  here : In F v
  img : ∀ r ∈ l, w.ownsRow 0 23 1 (Te.pv r) r.1.2.2.2.2.length (r.1.2.2.2.2.map (Value.int .u64)) ∧ In F (Te.pv r)
  trn : ∀ r ∈ l, w.ownsRow 0 3 1 (Te.tv r) r.2.2.2.length (r.2.2.2.map (Value.int .i64)) ∧ In F (Te.tv r)
/-- what a format is told as, as a key -/
def fv (f : Int × Int) : Value := .agg #[.int .i64 f.1, .int .i64 f.2]
def FmtX (w : World) (F : Nat → Prop) (mb : Nat) (fs : List (Int × Int)) : Prop := F mb ∧ ∃ D : DataW Unit, w.ownsMap Try.prog 25 (plainElem Try.prog 3) mb fs.length D ∧ Maps.size D = fs.length ∧ (∀ kl, Maps.has D kl = true → ∃ f ∈ fs, keyOf Try.prog 25 (fv f) = some kl) ∧
  ∀ (i : Nat) (f : Int × Int), fs[i]? = some f → ∃ kl, keyOf Try.prog 25 (fv f) = some kl ∧ ∀ zd, D.atKey kl zd = .lit (.int .i64 i)
structure DctX (w : World) (F : Nat → Prop) (sb : Nat) (ts : List Tp) (tv vv : Value) (mb : Nat) (tl : List Te) (vl : List Vr) : Prop where
  lt : ∀ g, F g → g < w.heap.size
  here : F sb
  box : w.heap[sb]? = some (.cells #[tv, vv, .map (some mb)] 61 (0, 0))
  tpl : TplX w F tv tl
  tkey : tl.map Te.key = ts
  var : VarX w F vv vl
  vkey : vl.map Vr.key = vars ts
  fmt : FmtX w F mb (fmts ts)
/-- a dictionary of these templates lies there, in the blocks F -/
def DctP (w : World) (F : Nat → Prop) (sb : Nat) (ts : List Tp) : Prop := ∃ tv vv mb tl vl, DctX w F sb ts tv vv mb tl vl
section
variable {w w' : World} {F G : Nat → Prop} {sb mb : Nat} {ts : List Tp} {tv vv v : Value} {tl : List Te} {vl l : List Vr} {fs : List (Int × Int)}
theorem In.mono (h : In F v) (hf : ∀ g, F g → G g) : In G v := fun g hg => hf g (h g hg)
theorem Lies.of_block (h : Lies w v l) (hb : ∀ g, v.ownBlock = some g → w'.heap[g]? = w.heap[g]?) : Lies w' v l := by
  rcases h with h | ⟨g, cap, cur, rfl, h1, r⟩
  · exact .inl h
  · exact .inr ⟨g, cap, cur, rfl, (hb g rfl).trans h1, r⟩
theorem VarX.mono (h : VarX w F v l) (hf : ∀ g, F g → G g) : VarX w G v l := ⟨h.lies, h.here.mono hf, fun r hr => ⟨(h.pix r hr).1, hf _ (h.pix r hr).2⟩, fun r hr => ⟨(h.own r hr).1, (h.own r hr).2.mono hf⟩, h.apart⟩
theorem TplX.mono {l : List Te} (h : TplX w F v l) (hf : ∀ g, F g → G g) : TplX w G v l := ⟨h.row, h.here.mono hf, fun r hr => ⟨(h.img r hr).1, (h.img r hr).2.mono hf⟩, fun r hr => ⟨(h.trn r hr).1, (h.trn r hr).2.mono hf⟩⟩
theorem FmtX.mono (h : FmtX w F mb fs) (hf : ∀ g, F g → G g) : FmtX w G mb fs := ⟨hf _ h.1, h.2⟩
theorem VarX.of_blocks (h : VarX w F v l) (hb : ∀ g, F g → w'.heap[g]? = w.heap[g]?) : VarX w' F v l :=
  ⟨h.lies.of_block fun g hg => hb g (h.here g hg), h.here, fun r hr => ⟨⟨Nat.zero_le _, (hb _ (h.pix r hr).2).trans (h.pix r hr).1.2⟩, (h.pix r hr).2⟩, fun r hr => ⟨own_of_block (h.own r hr).1 fun g hg => hb g ((h.own r hr).2 g hg), (h.own r hr).2⟩, h.apart⟩
theorem TplX.of_blocks {l : List Te} (h : TplX w F v l) (hb : ∀ g, F g → w'.heap[g]? = w.heap[g]?) : TplX w' F v l :=
  ⟨own_of_block h.row fun g hg => hb g (h.here g hg), h.here, fun r hr => ⟨own_of_block (h.img r hr).1 fun g hg => hb g ((h.img r hr).2 g hg), (h.img r hr).2⟩, fun r hr => ⟨own_of_block (h.trn r hr).1 fun g hg => hb g ((h.trn r hr).2 g hg), (h.trn r hr).2⟩⟩
theorem owns_block {b n : Nat} {D : DataW Unit} {k : TypeId} {R : Value → Option (DataW Unit × List MemPlace)} (h : w.ownsMap Try.prog k R b n D) (hb : w'.heap[b]? = w.heap[b]?) : w'.ownsMap Try.prog k R b n D := by
  obtain ⟨es, clock, h1, r⟩ := h
  exact ⟨es, clock, hb.trans h1, r⟩
theorem FmtX.of_block (h : FmtX w F mb fs) (hb : w'.heap[mb]? = w.heap[mb]?) : FmtX w' F mb fs := by
  obtain ⟨h0, D, h1, r⟩ := h
  exact ⟨h0, D, owns_block h1 hb, r⟩
theorem DctX.of_blocks (h : DctX w F sb ts tv vv mb tl vl) (hb : ∀ g, F g → w'.heap[g]? = w.heap[g]?) : DctX w' F sb ts tv vv mb tl vl := by
  refine ⟨fun g hg => ?_, h.here, (hb _ h.here).trans h.box, h.tpl.of_blocks hb, h.tkey, h.var.of_blocks hb, h.vkey, h.fmt.of_block (hb _ h.fmt.1)⟩
  have h1 := hb g hg
  have h2 := h.lt g hg
  rw [Array.getElem?_eq_getElem h2] at h1
  exact (Array.getElem?_eq_some_iff.1 h1).1
theorem DctX.later (h : DctX w F sb ts tv vv mb tl vl) (hb : Below w.heap.size w w') : DctX w' F sb ts tv vv mb tl vl := h.of_blocks fun g hg => hb.block g (h.lt g hg)
theorem DctP.of_blocks (h : DctP w F sb ts) (hb : ∀ g, F g → w'.heap[g]? = w.heap[g]?) : DctP w' F sb ts := by
  obtain ⟨tv, vv, mb, tl, vl, h⟩ := h
  exact ⟨tv, vv, mb, tl, vl, h.of_blocks hb⟩
theorem DctP.later (h : DctP w F sb ts) (hb : Below w.heap.size w w') : DctP w' F sb ts := by
  obtain ⟨tv, vv, mb, tl, vl, h⟩ := h
  exact ⟨tv, vv, mb, tl, vl, h.later hb⟩
theorem DctP.lt (h : DctP w F sb ts) {g : Nat} (hg : F g) : g < w.heap.size := by
  obtain ⟨tv, vv, mb, tl, vl, h⟩ := h
  exact h.lt g hg
theorem DctX.cells (h : DctX w F sb ts tv vv mb tl vl) : w.cell? ⟨sb, 0, none⟩ = some tv ∧ w.cell? ⟨sb, 1, none⟩ = some vv ∧ w.cell? ⟨sb, 2, none⟩ = some (.map (some mb)) := by
  have hb := h.box
  refine ⟨?_, ?_, ?_⟩ <;> simp [World.cell?, hb]
theorem DctX.fr (h : DctX w F sb ts tv vv mb tl vl) (i : Nat) : w.frozen? ⟨sb, i, none⟩ = false := by
  have hb := h.box
  simp [World.frozen?, hb]
theorem DctX.tlen (h : DctX w F sb ts tv vv mb tl vl) : tl.length = ts.length := by rw [← h.tkey, List.length_map]
theorem DctX.vlen (h : DctX w F sb ts tv vv mb tl vl) : vl.length = (imgs ts).length := by
  have := congrArg List.length h.vkey
  rw [List.length_map] at this
  rw [this]; simp [vars]
theorem Lies.form (h : Lies w v l) : ∃ a cap, v = .slice a l.length cap ∧ l.length ≤ cap ∧ cap ≤ maxLen := by
  rcases h with ⟨rfl, rfl⟩ | ⟨g, cap, cur, rfl, _, h1, h2, _⟩
  · exact ⟨none, 0, rfl, Nat.zero_le _, Nat.zero_le _⟩
  · exact ⟨_, cap, rfl, h1, h2⟩
theorem Lies.cell (h : Lies w v l) {i j : Nat} {r : Vr} {y : Value} (hr : l[i]? = some r) (hy : (vcs r)[j]? = some y) : ∃ g cap, v = .slice (some ⟨g, 0, none⟩) l.length cap ∧ w.cell? ⟨g, i * 6 + j, none⟩ = some y := by
  have hil := (List.getElem?_eq_some_iff.1 hr).1
  have hj : j < 6 := by have := (List.getElem?_eq_some_iff.1 hy).1; simpa [vcs] using this
  rcases h with ⟨_, rfl⟩ | ⟨g, cap, cur, rfl, h1, h2, h3, h4, h5⟩
  · simp at hr
  · refine ⟨g, cap, rfl, ?_⟩
    have e := flat_get vcs_len hr hj
    rw [hy, ← h5, List.getElem?_take_of_lt (by omega)] at e
    simp [World.cell?, h1]
    simpa using e
theorem ownsRow_lies (h : w.ownsRow 0 69 6 v l.length (l.flatMap vcs)) : Lies w v l := by
  rcases h.2 with ⟨rfl, h0⟩ | ⟨g, cap, cur, rfl, _, h1, h2, h3, h4, h5⟩
  · exact .inl ⟨rfl, List.eq_nil_of_length_eq_zero h0⟩
  · exact .inr ⟨g, cap, cur, rfl, h1, h2, h3, by omega, h5⟩
end
end Dc
end Go.Proofs.Ytmlinoanpcbflaa

/- A new dictionary; how many templates and variants there are, how many pixels. No condition but that the numbers fit. -/
namespace Go.Proofs.Ytmlinoanpcbflaa
open Go.RowKit
set_option linter.unusedVariables false
open Dc
theorem dc_box (w : World) (o : Obj) : Below w.heap.size w (w.alloc o) := (Below.refl _ _).alloc (Nat.le_refl _) o
theorem dNew_any (w : World) : Calls Try.prog 6 #[] w fun e w' => ∃ sb F, e = .returned (.pointer (some ⟨sb, 0, none⟩)) ∧ DctP w' F sb [] ∧ (∀ g, F g → w.heap.size ≤ g) ∧ Below w.heap.size w w' := by
  have hmm := @run_makeMap Try.prog
  go_enter Try.func6, Try.ntmps6
  go_wp2
  go_ret
  have b1 := dc_box w (.map #[] 0)
  have b2 := dc_box (w.alloc (.map #[] 0)) (.cells #[.slice none 0 0, .slice none 0 0, .map (some w.heap.size)] 61)
  refine ⟨_, fun g => w.heap.size ≤ g ∧ g < w.heap.size + 2, by first | rfl | simp, ⟨.slice none 0 0, .slice none 0 0, w.heap.size, [], [], fun g hg => by simp; omega, by simp, ?_, ⟨World.ownsRow_nil _ _ _ _, fun g hg => by simp [Value.ownBlock] at hg, fun r hr => absurd hr (by simp), fun r hr => absurd hr (by simp)⟩, rfl, ⟨.inl ⟨rfl, rfl⟩, fun g hg => by simp [Value.ownBlock] at hg, fun r hr => absurd hr (by simp), fun r hr => absurd hr (by simp), fun i j a b h => by simp at h⟩, rfl, ⟨by omega, .map [], ?_, rfl, fun kl hk => ?_, fun i f h => ?_⟩⟩, fun g hg => hg.1, bel_step b1 b2⟩
  · simpa using World.alloc_heap_new (w.alloc (.map #[] 0)) (.cells #[.slice none 0 0, .slice none 0 0, .map (some w.heap.size)] 61)
  · exact (World.ownsMap_made w Try.prog 25 (plainElem Try.prog 3)).alloc _
  · cases hk
  · simp [fmts, insAll] at h
section
variable {w : World} {F : Nat → Prop} {sb : Nat} {ts : List Tp}
theorem dTemplates_any (h : DctP w F sb ts) : Calls Try.prog 11 #[.pointer (some ⟨sb, 0, none⟩)] w fun e w' => e = .returned (.int .i64 ts.length) ∧ w = w' := by
  obtain ⟨tv, vv, mb, tl, vl, h⟩ := h
  obtain ⟨c0, c1, c2⟩ := h.cells
  obtain ⟨ad, cap, rfl⟩ := ownsRow_val h.tpl.row
  rw [h.tlen] at c0
  clear h c1 c2
  go_enter Try.func11, Try.ntmps11
  go_wp2
  go_ret
  exact ⟨rfl, rfl⟩
theorem dVariants_any (h : DctP w F sb ts) : Calls Try.prog 9 #[.pointer (some ⟨sb, 0, none⟩)] w fun e w' => e = .returned (.int .i64 (imgs ts).length) ∧ w = w' := by
  obtain ⟨tv, vv, mb, tl, vl, h⟩ := h
  obtain ⟨c0, c1, c2⟩ := h.cells
  obtain ⟨ad, cap, rfl, _, _⟩ := h.var.lies.form
  rw [h.vlen] at c1
  clear h c0 c2
  go_enter Try.func9, Try.ntmps9
  go_wp2
  go_ret
  exact ⟨rfl, rfl⟩
/-- is there such a variant? -/
def Dc.hasV (ts : List Tp) (v : Int) : Bool := decide (0 ≤ v) && decide (v < (imgs ts).length)
theorem dHas_any (h : DctP w F sb ts) (v : Int) : Calls Try.prog 24 #[.pointer (some ⟨sb, 0, none⟩), .int .i64 v] w fun e w' => e = .returned (.bool (hasV ts v)) ∧ w = w' := by
  obtain ⟨tv, vv, mb, tl, vl, h⟩ := h
  obtain ⟨c0, c1, c2⟩ := h.cells
  obtain ⟨ad, cap, rfl, _, _⟩ := h.var.lies.form
  rw [h.vlen] at c1
  clear h c0 c2
  unfold hasV
  obtain ⟨n, hn⟩ : ∃ n, (imgs ts).length = n := ⟨_, rfl⟩
  rw [hn] at c1 ⊢
  clear hn
  go_enter Try.func24, Try.ntmps24
  by_cases h1 : 0 ≤ v
  · by_cases h2 : v < (n : Int)
    · go_wp2
      go_ret
      exact ⟨by simp [h1, h2], rfl⟩
    · go_wp2
      go_ret
      exact ⟨by simp [h2], rfl⟩
  · go_wp2
    go_ret
    exact ⟨by rw [decide_eq_false (Int.not_le.2 h1)]; rfl, rfl⟩
end
namespace Dc
theorem area_take (l : List Vr) {j : Nat} {r : Vr} (h : l[j]? = some r) : area ((l.take (j + 1)).map (·.1)) = area ((l.take j).map (·.1)) + r.1.2.2.2.2.length := by
  obtain ⟨hj, rfl⟩ := List.getElem?_eq_some_iff.1 h
  rw [List.take_succ_eq_append_getElem hj, List.map_append, area_append]
  simp [area]
theorem area_le (l : List Vr) (j : Nat) : area ((l.take j).map (·.1)) ≤ area (l.map (·.1)) := by
  conv => rhs; rw [← List.take_append_drop j l, List.map_append, area_append]
  omega
end Dc
set_option maxHeartbeats 1000000 in
theorem area_any (v : Value) (l : List Vr) (w : World) (hl : Lies w v l) (h9 : area (l.map (·.1)) ≤ 9000000000000000000) :
    Calls Try.prog 22 #[v] w fun e w' => e = .returned (.int .i64 (area (l.map (·.1)))) ∧ Below w.heap.size w w' := by
  obtain ⟨ad, cap, rfl, _, hm⟩ := hl.form
  have hk9 : l.length ≤ 9223372036854775807 := by unfold maxLen at hm; omega
  obtain ⟨k, hk⟩ : ∃ k, l.length = k := ⟨_, rfl⟩
  have HC : Hid (∀ (i j : Nat) (r : Vr) (y : Value), l[i]? = some r → (vcs r)[j]? = some y → ∃ g, ad = some ⟨g, 0, none⟩ ∧ w.cell? ⟨g, i * 6 + j, none⟩ = some y) := Lib.hid fun i j r y h1 h2 => by
    obtain ⟨g, cap', e, hc⟩ := hl.cell h1 h2
    injection e with e1 _ _
    exact ⟨g, e1, hc⟩
  have HK := Lib.hid hk
  have H9 := Lib.hid h9
  rw [hk] at hk9 ⊢
  clear hl hk hm h9
  go_enter Try.func22, Try.ntmps22
  go_wp2
  go_loopg [3, 8] k (fun gg s3 s8 wr => ∃ j : Nat, j + gg = k ∧ s8 = .int .i64 j ∧ s3 = .int .i64 (area ((l.take j).map (·.1)) : Nat) ∧ Below w.heap.size w wr)
  case atStart => exact ⟨0, by omega, rfl, by simp [area], Below.refl _ _⟩
  case round =>
    obtain ⟨j, hj, rfl, rfl, hB⟩ := hrel
    cases gk with
    | zero =>
      obtain rfl : j = k := by omega
      have hlt : ¬ (j : Int) < j := by omega
      have he : l.take j = l := List.take_of_length_le (by rw [HK.out]; exact Nat.le_refl _)
      rw [he]
      clear he
      go_wp2
      go_ret
      exact ⟨rfl, hB⟩
    | succ gg =>
      have hlt : (j : Int) < (k : Int) := by omega
      have hjk : j < k := by omega
      obtain ⟨r, hr⟩ : ∃ r, l[j]? = some r := ⟨_, List.getElem?_eq_getElem (by rw [HK.out]; exact hjk)⟩
      obtain ⟨g, rfl, q0⟩ := HC.out j 0 r _ hr rfl
      have cc : ∀ (i : Nat) (y : Value), (vcs r)[i]? = some y → wr.cell? ⟨g, j * 6 + i, none⟩ = some y := fun i y hy => by
        obtain ⟨g', e, hc⟩ := HC.out j i r y hr hy
        cases e
        exact cell_later hB hc
      have q0 := cell_later hB q0
      have q1 := cc 1 _ rfl
      have q2 := cc 2 _ rfl
      have q3 := cc 3 _ rfl
      have q4 := cc 4 _ rfl
      have q5 := cc 5 _ rfl
      have HR := Lib.hid (area_take l hr)
      have HL := Lib.hid (area_le l (j + 1))
      obtain ⟨⟨rc, rm, rW, rH, rL⟩, rg, ⟨ra, rc2⟩, ros⟩ := r
      dsimp only [vcs, Nat.add_zero] at q0 q1 q2 q3 q4 q5
      obtain ⟨a, ha⟩ : ∃ a, area ((l.take j).map (·.1)) = a := ⟨_, rfl⟩
      obtain ⟨n, hn⟩ : ∃ n, rL.length = n := ⟨_, rfl⟩
      rw [hn] at q4
      have HN := Lib.hid hn
      have HA := Lib.hid ha
      have h9 : (a : Int) + n ≤ 9000000000000000000 := by
        have h1 := HR.out
        have h2 := HL.out
        have h3 := H9.out
        dsimp only at h1
        rw [ha, hn] at h1
        omega
      rw [ha]
      clear ha hn hr cc
      go_wp2
      go_roundg gg
      case measure => omega
      case rel =>
        refine ⟨j + 1, by omega, by go_num, ?_, by go_grown; exact hB.size⟩
        have h1 := HR.out
        simp only [HA.out, HN.out] at h1
        rw [h1]; simp
theorem dArea_any {w : World} {F : Nat → Prop} {sb : Nat} {ts : List Tp} (h : DctP w F sb ts) (h9 : area (imgs ts) ≤ 9000000000000000000) : Calls Try.prog 17 #[.pointer (some ⟨sb, 0, none⟩)] w fun e w' => e = .returned (.int .i64 (area (imgs ts))) ∧ Below w.heap.size w w' := by
  obtain ⟨tv, vv, mb, tl, vl, h⟩ := h
  obtain ⟨c0, c1, c2⟩ := h.cells
  have e : vl.map (·.1) = imgs ts := by
    have := congrArg (List.map (·.1)) h.vkey
    rw [List.map_map] at this
    rw [show (fun r : Vr => r.1) = (·.1) ∘ Vr.key from rfl, this]
    unfold vars; rw [List.map_map]; exact List.map_id _
  have HA := Lib.hid (area_any vv vl w h.var.lies (by rw [e]; exact h9))
  rw [e] at HA
  clear h c0 c2 e h9
  go_enter Try.func17, Try.ntmps17
  go_wp2_with (go_at_call 22; refine HA.out.mono ?_; rintro e w1 ⟨rfl, hb⟩)
  go_ret
  exact ⟨rfl, hb⟩
end Go.Proofs.Ytmlinoanpcbflaa

/- A slice that is cloned; an image that is cloned. Condition: it is not empty, and not too long. -/
namespace Go.Proofs.Ytmlinoanpcbflaa
open Go.RowKit
set_option linter.unusedVariables false
open Dc
theorem isnot_px (ad : Addr) (n c : Nat) (w : World) : (binOp .eql 32 (.slice (some ad) n c) (.slice none 0 0)).run Try.prog w = .ok (.bool false) w := by kernel_rfl
theorem Try.info_dpx : (Try.prog.info? 23).map (fun i => (i.zero, i.size, i.bytes)) = some (some (.int .u64 0), 1, 8) := by kernel_rfl
namespace Dc
theorem slk_news {q : IntKind} {w : World} {b o n : Nat} {xs : List Int} (h : SlK q w (some ⟨b, o, none⟩) n xs) : ∀ j u, (xs.map (Value.int q))[j]? = some u → w.cell? ((⟨b, o, none⟩ : Addr).add j) = some u := fun j u hj => by
  obtain ⟨hl, h0 | ⟨b', o', e, hc⟩⟩ := h
  · subst h0
    have := List.eq_nil_of_length_eq_zero hl
    subst this
    simp at hj
  · cases e
    rw [List.getElem?_map] at hj
    cases hx : xs[j]? with
    | none => rw [hx] at hj; cases hj
    | some x =>
      rw [hx] at hj
      cases hj
      have hjl := (List.getElem?_eq_some_iff.1 hx).1
      have := hc j (by omega)
      rw [List.getD_eq_getElem?_getD, hx] at this
      have e : (⟨b, o, none⟩ : Addr).add j = ⟨b, o + j, none⟩ := by cases j <;> simp [Addr.add]
      rw [e]; exact this
theorem int_one {q : IntKind} {xs : List Int} : ∀ u ∈ xs.map (Value.int q), u.oneCell' = true := fun u hu => by
  obtain ⟨x, _, rfl⟩ := List.mem_map.1 hu; rfl
end Dc
set_option maxRecDepth 100000 in
set_option maxHeartbeats 1000000 in
theorem clonePx_any (a : Option Addr) (n c : Nat) (L : List Int) (hn : 0 < n) (h9 : n ≤ 100000000) (w : World) (hs : SlK .u64 w a n L) :
    Calls Try.prog 40 #[.slice a n c] w fun e w' => ∃ g cap, e = .returned (.slice (some ⟨g, 0, none⟩) n cap) ∧ w.heap.size ≤ g ∧ w'.ownsRow 0 23 1 (.slice (some ⟨g, 0, none⟩) n cap) n (L.map (Value.int .u64)) ∧ Below w.heap.size w w' := by
  obtain ⟨b, o, rfl⟩ : ∃ b o, a = some ⟨b, o, none⟩ := by
    obtain ⟨_, h0 | ⟨b, o, rfl, _⟩⟩ := hs
    · omega
    · exact ⟨b, o, rfl⟩
  obtain ⟨i0, hi, hz0, hz1, hz2⟩ := info_parts Try.info_dpx
  have hLn := hs.1
  have B0 := dc_box w (.cells #[] 23)
  have HS := Lib.hid (hs.below B0)
  have HL : Hid ((L.map (Value.int .u64)).length = n * 1) := Lib.hid (by rw [List.length_map, hLn]; omega)
  have HR0 : Hid ((w.alloc (.cells #[] 23)).ownsRow w.heap.size 23 1 (.slice (some ⟨w.heap.size, 0, none⟩) 0 0) 0 []) := Lib.hid ⟨rfl, .inr ⟨_, 0, #[], rfl, Nat.le_refl _, World.alloc_heap_new w _, Nat.le_refl _, Nat.zero_le _, rfl, rfl⟩⟩
  have E := isnot_px ⟨b, o, none⟩ n c w
  clear hs hLn
  go_enter Try.func40, Try.ntmps40
  go_wp2_with (at_builtin; refine wpList_append_lies _ rfl _ _ 32 rfl w.heap.size 23 i0 (.int .u64 0) 1 8 Try.underlying32 hi hz0 hz1 hz2 rfl (by decide) _ 0 _ rfl HR0.out ⟨b, o, none⟩ n c (L.map (Value.int .u64)) rfl HL.out (slk_news HS.out) int_one hn (by unfold maxLen; omega) (by omega) (by simp) _ rfl ?_; intro gg cc w5 hown hgrow hat _; have HOWN := Lib.hid hown; have HG := Lib.hid hgrow; have HA := Lib.hid hat; clear hown hgrow hat)
  go_ret
  have h1 := HOWN.out
  have h2 := HG.out
  refine ⟨gg, cc, by simp, (HOWN.out.lt gg rfl).1, by have := ownsRow_base h1 (Nat.zero_le _); simpa using this, B0.grown h2 (by simp) fun j e => ?_⟩
  cases e; exact Nat.le_refl _
namespace Dc
theorem row_slk {q : IntKind} {w : World} {B : Nat} {e : TypeId} {a : Option Addr} {n c : Nat} {xs : List Int} (h : w.ownsRow B e 1 (.slice a n c) n (xs.map (Value.int q))) : SlK q w a n xs := by
  have hl := h.1
  rw [List.length_map, Nat.mul_one] at hl
  refine ⟨hl, ?_⟩
  rcases Nat.eq_zero_or_pos n with h0 | h0
  · exact .inl h0
  · obtain ⟨g, cap, hv⟩ := ownsRow_pos h h0
    cases hv
    refine .inr ⟨g, 0, rfl, fun i hi => ?_⟩
    rw [Nat.zero_add, h.cellAt _ (by omega), List.getElem?_map, List.getD_eq_getElem?_getD, List.getElem?_eq_getElem (by omega)]
    rfl
theorem row_cap {w : World} {B : Nat} {e : TypeId} {size : Nat} {a : Option Addr} {n c : Nat} {xs : List Value} (h : w.ownsRow B e size (.slice a n c) n xs) : n ≤ c ∧ c ≤ 9223372036854775807 := by
  rcases h.2 with ⟨h1, h2⟩ | ⟨g, cap, cur, h1, _, _, h2, h3, _⟩
  · cases h1; omega
  · cases h1; unfold maxLen at h3; omega
end Dc
set_option maxHeartbeats 1000000 in
/-- dict's clone of an image -/
theorem dclone_any (x : Im) (a : Option Addr) (c : Nat) (hn : 0 < x.2.2.2.2.length) (h9 : x.2.2.2.2.length ≤ 100000000) (w : World) (hs : SlK .u64 w a x.2.2.2.2.length x.2.2.2.2) :
    Calls Try.prog 23 #[agI x.1 x.2.1 (x.2.2.1 : Nat) (x.2.2.2.1 : Nat) (.slice a x.2.2.2.2.length c)] w fun e w' => ∃ g cap, e = .returned (agI x.1 x.2.1 (x.2.2.1 : Nat) (x.2.2.2.1 : Nat) (.slice (some ⟨g, 0, none⟩) x.2.2.2.2.length cap)) ∧ w.heap.size ≤ g ∧ w'.ownsRow 0 23 1 (.slice (some ⟨g, 0, none⟩) x.2.2.2.2.length cap) x.2.2.2.2.length (x.2.2.2.2.map (Value.int .u64)) ∧ Below w.heap.size w w' := by
  obtain ⟨x1, x2, x3, x4, L⟩ := x
  dsimp only at hn h9 hs ⊢
  unfold agI
  have E1 := Lib.hid (Ib.new w 36 x1 x2 x3 x4 (.slice a L.length c))
  have B1 := dc_box w (.cells #[.int .i64 x1, .int .i64 x2, .int .i64 x3, .int .i64 x4, .slice a L.length c] 36)
  obtain ⟨W1, hW1⟩ : ∃ W1, w.alloc (.cells #[.int .i64 x1, .int .i64 x2, .int .i64 x3, .int .i64 x4, .slice a L.length c] 36) = W1 := ⟨_, rfl⟩
  rw [hW1] at E1 B1
  have E2 := Lib.hid (Ib.new W1 36 0 0 0 0 (.slice none 0 0))
  have B2 := dc_box W1 (.cells #[.int .i64 0, .int .i64 0, .int .i64 0, .int .i64 0, .slice none 0 0] 36)
  have hz1 : W1.heap.size = w.heap.size + 1 := by rw [← hW1]; simp
  obtain ⟨W2, hW2⟩ : ∃ W2, W1.alloc (.cells #[.int .i64 0, .int .i64 0, .int .i64 0, .int .i64 0, .slice none 0 0] 36) = W2 := ⟨_, rfl⟩
  rw [hW2] at E2 B2
  have hz2 : W2.heap.size = w.heap.size + 2 := by rw [← hW2]; simp [hz1]
  have E1' := E1.out.later B2
  have HB := Lib.hid (bel_step B1 B2)
  have hc := Lib.hid (clonePx_any a L.length c L hn h9 W2 (hs.below HB.out))
  obtain ⟨n, hn5⟩ : ∃ n, L.length = n := ⟨_, rfl⟩
  rw [hn5] at hc E1' hW1 hn ⊢
  rw [hz1] at E2
  obtain ⟨c0, c1, c2, c3, c4⟩ := E1'.cells
  have hlt := E1'.lt
  obtain ⟨f0, f1, f2, f3, f4⟩ := E1'.fr
  have HE1 := Lib.hid E1'
  have HW1 := Lib.hid hW1
  have HW2 := Lib.hid hW2
  clear E1' hs hn5
  go_enter Try.func23, Try.ntmps23
  go_upto_region 1 with fail
  try rw [hW1]
  try rw [hW2]
  clear hW1 hW2
  go_wp2_with (go_at_call 40; refine hc.out.mono ?_; rintro e w3 ⟨g, cap, rfl, hg, hrow, hb3⟩; have HG := Lib.hid hg; have HROW := Lib.hid hrow; have HB3 := Lib.hid hb3; have D1 := HE1.out.later hb3; have D2 := E2.out.later hb3; obtain ⟨d0, d1, d2, d3, d4⟩ := D1.cells; obtain ⟨e0, e1, e2, e3, e4⟩ := D2.cells; obtain ⟨k0, k1, k2, k3, k4⟩ := D1.fr; obtain ⟨l0, l1, l2, l3, l4⟩ := D2.fr; have hl1 := D1.lt; have hl2 := D2.lt; have HD1 := Lib.hid D1; have HD2 := Lib.hid D2; clear hg hrow hb3 D1 D2)
  have hD2 := HD2.out

  have hne : w.heap.size + 1 ≠ w.heap.size := by omega
  have HX := Ib.put (show Ib (w3.setCell ⟨w.heap.size, 4, none⟩ (.slice (some ⟨g, 0, none⟩) n cap)) (w.heap.size + 1) 36 0 0 0 0 (.slice none 0 0) from (Below.heap_setCell w3 ⟨w.heap.size, 4, none⟩ _ _ hne).trans hD2) x1 x2 x3 x4 (.slice (some ⟨g, 0, none⟩) n cap)
  refine bodyPost_ret (ret_cell1 rfl _ _ _ _ rfl (load_im HX)) rfl ?_
  have hg := HG.out
  rw [hz2] at hg
  refine ⟨g, cap, rfl, by omega, own_of_block HROW.out fun j ej => ?_, ?_⟩
  · cases ej
    have e1 : ∀ (A : World) (o : Nat) (y : Value), (A.setCell ⟨w.heap.size + 1, o, none⟩ y).heap[g]? = A.heap[g]? := fun A o y => Below.heap_setCell A _ y g (by show g ≠ w.heap.size + 1; omega)
    rw [e1, e1, e1, e1, e1]
    exact Below.heap_setCell _ _ _ g (by show g ≠ w.heap.size; omega)
  · have hb := bel_step HB.out HB3.out
    have h1 : w.heap.size ≤ w.heap.size := Nat.le_refl _
    have h2 : w.heap.size ≤ w.heap.size + 1 := by omega
    exact (((((hb.setCell (p := ⟨w.heap.size, 4, none⟩) h1 _).setCell (p := ⟨w.heap.size + 1, 0, none⟩) h2 _).setCell (p := ⟨w.heap.size + 1, 1, none⟩) h2 _).setCell (p := ⟨w.heap.size + 1, 2, none⟩) h2 _).setCell (p := ⟨w.heap.size + 1, 3, none⟩) h2 _).setCell (p := ⟨w.heap.size + 1, 4, none⟩) h2 _
end Go.Proofs.Ytmlinoanpcbflaa

/- May an image be laid by turns, as its size tells. Condition: the turns may be, the image may be. -/
namespace Go.Proofs.Ytmlinoanpcbflaa
open Go.RowKit
set_option linter.unusedVariables false
open Dc
namespace Dc
def fitB (x : Im) (g : Int) : Bool := decide ((Tu.sw g.toNat x.2.2.1 x.2.2.2.1 : Int) ≤ 4096) && decide ((Tu.sw g.toNat x.2.2.2.1 x.2.2.1 : Int) ≤ 65536)
def fitsB (x : Im) (l : List Int) : Bool := l.all (fitB x)
theorem fits_cut {x : Im} {l : List Int} {k : Nat} (hk : k < l.length) (h : fitsB x (l.take k) = true) (e : fitB x (l.getD k 0) = true) : fitsB x (l.take (k + 1)) = true := by
  unfold fitsB at *
  rw [List.take_succ_eq_append_getElem hk, List.all_append, h]
  rw [List.getD_eq_getElem?_getD, List.getElem?_eq_getElem hk] at e
  simpa using e
theorem fits_no {x : Im} {l : List Int} {k : Nat} (hk : k < l.length) (e : fitB x (l.getD k 0) = false) : fitsB x l = false := by
  unfold fitsB
  rw [List.getD_eq_getElem?_getD, List.getElem?_eq_getElem hk] at e
  rw [List.all_eq_false]
  exact ⟨l[k], List.getElem_mem hk, by simpa using e⟩
end Dc
set_option maxRecDepth 100000 in
set_option maxHeartbeats 4000000 in
theorem dfits_any (x : Im) (pa : Option Addr) (pn pc : Nat) (a : Option Addr) (n c : Nat) (l : List Int) (hn : n ≤ 1000) (ht : ∀ t ∈ l, Tu.isT t = true) (w : World) (hs : SlK .i64 w a n l) :
    Calls Try.prog 20 #[agI x.1 x.2.1 (x.2.2.1 : Nat) (x.2.2.2.1 : Nat) (.slice pa pn pc), .slice a n c] w fun e w' => e = .returned (.bool (fitsB x l)) ∧ Below w.heap.size w w' := by
  obtain ⟨x1, x2, W, H, L⟩ := x
  dsimp only
  unfold agI
  have HL := Lib.hid hs.1
  have HC : Hid (∀ i, i < n → ∃ b o, a = some ⟨b, o, none⟩ ∧ w.cell? ⟨b, o + i, none⟩ = some (.int .i64 (l.getD i 0))) := Lib.hid fun i hi => by
    obtain ⟨_, h0 | ⟨b, o, e, hc⟩⟩ := hs
    · omega
    · exact ⟨b, o, e, hc i hi⟩
  have HT := Lib.hid ht
  have E1 := Lib.hid (Ib.new w 36 x1 x2 W H (.slice pa pn pc))
  have B1 := Lib.hid (dc_box w (.cells #[.int .i64 x1, .int .i64 x2, .int .i64 W, .int .i64 H, .slice pa pn pc] 36))
  obtain ⟨W1, hW1⟩ : ∃ W1, w.alloc (.cells #[.int .i64 x1, .int .i64 x2, .int .i64 W, .int .i64 H, .slice pa pn pc] 36) = W1 := ⟨_, rfl⟩
  rw [hW1] at E1 B1
  have hfx : Hid (∀ b, fitsB (x1, x2, W, H, L) l = b → fitsB (x1, x2, W, H, L) l = b) := Lib.hid fun _ h => h
  clear hs ht
  go_enter Try.func20, Try.ntmps20
  go_wp2
  try rw [hW1]
  clear hW1
  go_loopg [11] n (fun gg s wr => ∃ j : Nat, j + gg = n ∧ s = .int .i64 j ∧ Below w.heap.size w wr ∧ Ib wr w.heap.size 36 x1 x2 W H (.slice pa pn pc) ∧ Hid (fitsB (x1, x2, W, H, L) (l.take j) = true))
  case atStart => exact ⟨0, by omega, rfl, B1.out, E1.out, rfl⟩
  case round =>
    obtain ⟨j, hj, rfl, hB, hE, hA⟩ := hrel
    have HE := Lib.hid hE
    have HB := Lib.hid hB
    obtain ⟨c0, c1, c2, c3, c4⟩ := hE.cells
    clear hE hB
    cases gk with
    | zero =>
      obtain rfl : j = n := by omega
      have hlt : ¬ (j : Int) < j := by omega
      have HR := hA.out
      rw [List.take_of_length_le (by rw [HL.out]; exact Nat.le_refl _)] at HR
      have HR2 := Lib.hid HR
      clear HR
      go_wp2
      go_ret
      exact ⟨by rw [HR2.out]; rfl, HB.out⟩
    | succ gg =>
      have hlt : (j : Int) < (n : Int) := by omega
      have hjn : j < n := by omega
      obtain ⟨b, o, rfl, hc⟩ := HC.out j hjn
      have hc' := cell_later HB.out hc
      have hg := HT.out (l.getD j 0) (by rw [List.getD_eq_getElem?_getD, List.getElem?_eq_getElem (by rw [HL.out]; exact hjn)]; exact List.getElem_mem _)
      obtain ⟨g, hg8, hge⟩ := Tu.isT_nat hg
      have HFB : Hid (fitB (x1, x2, W, H, L) (l.getD j 0) = (decide ((Tu.sw g W H : Int) ≤ 4096) && decide ((Tu.sw g H W : Int) ≤ 65536))) := Lib.hid (by rw [hge]; rfl)
      rw [hge] at hc'
      have HSZ := Lib.hid (fun w => size_any W H g hg8 w)
      obtain ⟨P, hP⟩ : ∃ P, Tu.sw g W H = P := ⟨_, rfl⟩
      obtain ⟨Q, hQ⟩ : ∃ Q, Tu.sw g H W = Q := ⟨_, rfl⟩
      rw [hP, hQ] at HFB HSZ
      clear hc hg hge hP hQ
      by_cases h1 : (P : Int) ≤ 4096
      · have h1' : ¬ (P : Int) > 4096 := by omega
        by_cases h2 : (Q : Int) ≤ 65536
        · have h2' : ¬ (Q : Int) > 65536 := by omega
          have HT1 : Hid (fitB (x1, x2, W, H, L) (l.getD j 0) = true) := Lib.hid (by rw [HFB.out, decide_eq_true h1, decide_eq_true h2]; rfl)
          go_wp2_with (go_at_call 34; refine (HSZ.out _).mono ?_; rintro e w9 ⟨rfl, rfl⟩)
          go_roundg gg
          case measure => omega
          case rel => exact ⟨j + 1, by omega, by go_num, HB.out, HE.out, fits_cut (by rw [HL.out]; exact hjn) hA.out HT1.out⟩
        · have HT1 : Hid (fitsB (x1, x2, W, H, L) l = false) := Lib.hid (fits_no (k := j) (by rw [HL.out]; exact hjn) (by rw [HFB.out, decide_eq_false h2, Bool.and_false]))
          have h2' : (Q : Int) > 65536 := by omega
          go_wp2_with (go_at_call 34; refine (HSZ.out _).mono ?_; rintro e w9 ⟨rfl, rfl⟩)
          go_ret
          exact ⟨by rw [HT1.out]; rfl, HB.out⟩
      · have HT1 : Hid (fitsB (x1, x2, W, H, L) l = false) := Lib.hid (fits_no (k := j) (by rw [HL.out]; exact hjn) (by rw [HFB.out, decide_eq_false h1, Bool.false_and]))
        have h1' : (P : Int) > 4096 := by omega
        go_wp2_with (go_at_call 34; refine (HSZ.out _).mono ?_; rintro e w9 ⟨rfl, rfl⟩)
        go_ret
        exact ⟨by rw [HT1.out]; rfl, HB.out⟩
end Go.Proofs.Ytmlinoanpcbflaa
