/- A tree's nodes, sorted by their depth, and the iterator that tells them. Condition: a tree of at most 1000 nodes that stands. -/
import Derived.Test.YtehmbnloplamaaaTrLd
import Derived.Test.YtehmbnloplamaaaTrLaz
import Derived.Test.YtehmbnloplamaaaTrF
import Derived.Test.YtehmbnloplamaaaTrO

namespace Go.Proofs.Ytehmbnloplamaaa
open Go.RowKit Go.Shelf Go.Sort
set_option linter.unusedVariables false
open Tr
theorem sortFunc_any (cf : Int → Int → Int) (hO : SWO (ltOf cf)) (g : Nat) (cb : Array Value) (blk off cap : Nat) (d : Array Int) (w : World)
    (eg : ∀ args w, (callFunc g args).run Try.prog w = .ok (.enter g args) w) (hcmp : CmpLays1 Try.prog g cb (Value.int .i64) cf blk off d.size w) (hH : Holds (Value.int .i64) w blk off d) (hblk : blk < w.heap.size) (hsz : d.size < 4611686018427387904) :
    Calls Try.prog 66 #[.slice (some ⟨blk, off, none⟩) d.size cap, .func (.func g) #[] cb] w fun e w' =>
      e = .returned (.tuple #[]) ∧ ∃ d' n os, PermIn 0 d.size d d' ∧ SortedIn (ltOf cf) 0 d.size d' ∧ w' = sortWorld (Value.int .i64) w blk off n d' os :=
  Any.slices_SortFunc Ly.sortF (Value.int .i64) (fun _ => rfl) cf hO g cb blk off cap d w eg hcmp hH hblk hsz
theorem sw_block {w : World} {blk off m : Nat} {d : Array Int} {os : Array Obj} {g : Nat} (h1 : g < w.heap.size) (h2 : g ≠ blk) : (sortWorld (Value.int .i64) w blk off m d os).heap[g]? = w.heap[g]? := by
  unfold sortWorld grow putRow mapBlock Go.Sort.ahead
  simp only
  rw [Array.getElem?_append_left (by simpa using h1), Array.getElem?_modify, if_neg (fun e => h2 e.symm)]
theorem sw_size (w : World) (blk off m : Nat) (d : Array Int) (os : Array Obj) : w.heap.size ≤ (sortWorld (Value.int .i64) w blk off m d os).heap.size := by
  unfold sortWorld grow putRow mapBlock Go.Sort.ahead
  simp
theorem sw_frozen {w : World} {blk m : Nat} {d : Array Int} {os : Array Obj} (h : blk < w.heap.size) (i : Nat) : (sortWorld (Value.int .i64) w blk 0 m d os).frozen? ⟨blk, i, none⟩ = w.frozen? ⟨blk, i, none⟩ := by
  unfold World.frozen? sortWorld grow putRow mapBlock Go.Sort.ahead
  simp only
  rw [Array.getElem?_append_left (by simpa using h), Array.getElem?_modify, if_pos rfl]
  cases w.heap[blk]? with
  | none => rfl
  | some o => cases o <;> rfl
theorem sw_below {w0 w : World} {blk off m : Nat} {d : Array Int} {os : Array Obj} (h : Below w0.heap.size w0 w) (hb : w0.heap.size ≤ blk) : Below w0.heap.size w0 (sortWorld (Value.int .i64) w blk off m d os) :=
  ⟨h.os, h.tape, h.output, Nat.le_trans h.size (sw_size _ _ _ _ _ _), fun k hk => (sw_block (Nat.lt_of_lt_of_le hk h.size) (by omega)).trans (h.block k hk)⟩
theorem sort_nodes {w : World} {B tb nb nc p g : Nat} {rv : Nat → Value} {L W : LL} (h : TrP w B tb nb nc rv L W) (hI : Inv L) (cp : w.cell? ⟨p, 0, none⟩ = some (.pointer (some ⟨tb, 0, none⟩))) (hp : p ≠ g) (hF : ¬ Fp tb nb L.length rv g)
    {l : List Int} {n : Nat} (cap : Nat) (hl : l.Perm ((List.range (L.length - 1)).map fun i => ((i + 1 : Nat) : Int))) (hln : l.length = n) (hg : g < w.heap.size) (hn : n ≤ 1000) (hc : ∀ i, i < n → w.cell? ⟨g, i, none⟩ = some (.int .i64 (l.getD i 0))) (hf : ∀ i, w.frozen? ⟨g, i, none⟩ = false) :
    Calls Try.prog 66 #[.slice (some ⟨g, 0, none⟩) n cap, .func (.func 67) #[] #[.pointer (some ⟨p, 0, none⟩)]] w fun e w' =>
      e = .returned (.tuple #[]) ∧ ∃ m d' os, w' = sortWorld (Value.int .i64) w g 0 m d' os ∧ (∀ i, i < n → w'.cell? ⟨g, i, none⟩ = some (.int .i64 ((Au.ints (Au.order L)).getD i 0))) ∧ (∀ i, w'.frozen? ⟨g, i, none⟩ = false) := by
  obtain ⟨d, hd⟩ : ∃ d : Array Int, d = l.toArray := ⟨_, rfl⟩
  have hds : d.size = n := by rw [hd]; simpa using hln
  have hH : Holds (Value.int .i64) w g 0 d := fun j hj => by
    have e : d[j]! = l.getD j 0 := by
      rw [getElem!_pos d j hj, gD (by rw [hln]; omega)]; subst hd; simp
    rw [e, Nat.zero_add]
    exact ⟨hc j (by omega), hf j⟩
  have hcmp : CmpLays1 Try.prog 67 #[.pointer (some ⟨p, 0, none⟩)] (Value.int .i64) (Au.cmpV L) g 0 d.size w := fun m os dk _ x y => by
    have hT : TrP (sortWorld (Value.int .i64) w g 0 m dk os) B tb nb nc rv L W := TrX.of_blocks h fun k hk => sw_block (TrX.lt h hk).2 (fun e => hF (e ▸ hk))
    have cp' : (sortWorld (Value.int .i64) w g 0 m dk os).cell? ⟨p, 0, none⟩ = some (.pointer (some ⟨tb, 0, none⟩)) := by
      rw [← cp]
      unfold World.cell?
      rw [sw_block (block_lt_of_cell cp) hp]
    exact (byCmp_tr hT cp' x y).mono fun e w' ⟨he, hb⟩ => ⟨he, hb.grown⟩
  have := sortFunc_any (Au.cmpV L) (Au.cmpV_swo L) 67 #[.pointer (some ⟨p, 0, none⟩)] g 0 cap d w (enters_of Try.func67 (by kernel_rfl) rfl) hcmp hH hg (by omega)
  rw [hds] at this
  refine this.mono ?_
  rintro e w' ⟨he, d', m, os, hp', hs', hw⟩
  have hsz : d'.size = n := by have := hp'.1; omega
  have hlist : d'.toList = Au.ints (Au.order L) := by
    refine Au.order_sorted hI ?_ ?_
    · have hq := hp'.2.2
      have e1 : d'.extract 0 n = d' := by rw [← hsz]; simp
      have e2 : d.extract 0 n = d := by rw [← hds]; simp
      rw [e1, e2, hd] at hq
      exact hq.trans hl
    · rw [List.pairwise_iff_getElem]
      intro i j hi hj hij
      have hi' : i < d'.size := by simpa using hi
      have hj' : j < d'.size := by simpa using hj
      have := hs' i j (Nat.zero_le _) hij (by omega)
      rw [getElem!_pos d' i hi', getElem!_pos d' j hj'] at this
      unfold ltOf at this
      rw [decide_eq_false_iff_not] at this
      simpa using this
  have hSW : SW (Value.int .i64) w g 0 d' w' := ⟨m, os, hw⟩
  have hR := fun i (hi : i < n) => hSW.holds hg hH (by omega) i (by omega)
  refine ⟨he, m, d', os, hw, fun i hi => ?_, fun i => ?_⟩
  · have := (hR i hi).1
    rw [Nat.zero_add] at this
    rw [this, getElem!_pos d' i (by omega), ← hlist, gD (by simpa using (show i < d'.size by omega))]
    simp
  · rw [hw, sw_frozen hg]; exact hf i
end Go.Proofs.Ytehmbnloplamaaa
