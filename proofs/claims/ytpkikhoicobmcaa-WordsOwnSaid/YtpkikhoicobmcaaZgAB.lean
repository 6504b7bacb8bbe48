/- A number put into a row of the call's own, by slices.Insert. No condition but the model's bounds. -/
import Derived.Test.YtpkikhoicobmcaaZgAA
import Derived.Deep.RegionLaw
import Derived.Deep.CutBlock
import Derived.RegionTactic
import Derived.Sort.Statements
import Derived.Lib.Small
import Derived.Shelf.SlicesG.Cmp
import Derived.Test.YtpkikhoicobmcaaProg
import Derived.Sort.Grow
import Derived.Shelf.SlSortCmp.Whole1
import Derived.Shelf.SlSortCmp.NoneTotal
import Derived.OrdersHeld
import Derived.OrdersIn
import Derived.Shelf.Sort.Plain
import Derived.Shelf.Slices.In.SortNone
import Derived.BigQuiet
import Derived.Deep.QuietTactic
import Derived.LoopN
namespace Go.Proofs.Ytpkikhoicobmcaa
open Go.RowKit Go.Shelf
set_option linter.unusedVariables false
open Tr
theorem heapNewT (w : World) (o : Obj) : (w.alloc o).heap[w.heap.size]? = some o := World.alloc_heap_new w o
namespace Tr
def writeL (l : List Value) (o : Nat) : List Value → List Value
  | [] => l
  | v :: vs => writeL (l.set o v) (o + 1) vs
theorem writeL_len : ∀ (vs l : List Value) (o : Nat), (writeL l o vs).length = l.length
  | [], l, o => rfl
  | v :: vs, l, o => by unfold writeL; rw [writeL_len vs, List.length_set]
theorem writeL_eq : ∀ (vs l : List Value) (o : Nat), o + vs.length ≤ l.length → writeL l o vs = l.take o ++ vs ++ l.drop (o + vs.length)
  | [], l, o, h => by simp [writeL]
  | v :: vs, l, o, h => by
    rw [List.length_cons] at h
    unfold writeL
    rw [writeL_eq vs _ _ (by rw [List.length_set]; omega), List.length_cons, show o + 1 + vs.length = o + (vs.length + 1) by omega]
    rw [List.drop_set_of_lt (by omega), List.set_eq_take_append_cons_drop, if_pos (by omega)]
    rw [show l.take o ++ v :: l.drop (o + 1) = (l.take o ++ [v]) ++ l.drop (o + 1) by simp]
    have e : (l.take o ++ [v]).length = o + 1 := by rw [List.length_append, List.length_take, List.length_singleton]; omega
    rw [List.take_append_of_le_length (by omega), List.take_of_length_le (by omega)]
    simp
theorem heap_setCells {b : Nat} {t : TypeId} : ∀ (vs : List Value) (o : Nat) (w : World) (cur : Array Value), w.heap[b]? = some (.cells cur t (0, 0)) → (w.setCells b o vs).heap[b]? = some (.cells (writeL cur.toList o vs).toArray t (0, 0))
  | [], o, w, cur, h => by simpa [writeL, World.setCells] using h
  | v :: vs, o, w, cur, h => by
    unfold World.setCells writeL
    have h1 := set_same o v h
    have := heap_setCells vs (o + 1) _ _ h1
    rwa [Array.toList_setIfInBounds] at this
theorem heap_setCells_far {b : Nat} : ∀ (vs : List Value) (o : Nat) (w : World) (k : Nat), k ≠ b → (w.setCells b o vs).heap[k]? = w.heap[k]? ∧ (w.setCells b o vs).heap.size = w.heap.size ∧ (w.setCells b o vs).os = w.os ∧ (w.setCells b o vs).tape = w.tape ∧ (w.setCells b o vs).output = w.output
  | [], o, w, k, h => ⟨rfl, rfl, rfl, rfl, rfl⟩
  | v :: vs, o, w, k, h => by
    unfold World.setCells
    obtain ⟨h1, h2, h3, h4, h5⟩ := heap_setCells_far vs (o + 1) (w.setCell ⟨b, o, none⟩ v) k h
    exact ⟨h1.trans (Below.heap_setCell _ _ _ _ h), by rw [h2]; simp, h3, h4, h5⟩
/-- a block is turned, or blocks are made: the rest lies on -/
theorem grown_cells {w : World} {b : Nat} (o : Nat) (vs : List Value) {row : Option Nat} (hr : row = some b) : w.grownBy (w.setCells b o vs) row := by
  have hs := heap_setCells_far (b := b) vs o w (b + 1) (by omega)
  refine ⟨hs.2.2.1, hs.2.2.2.1, hs.2.2.2.2, Nat.le_of_eq hs.2.1.symm, fun k hk hne => ?_⟩
  refine (heap_setCells_far vs o w k (fun e => hne ?_)).1
  rw [hr, e]
theorem grown_trans' {a b c : World} {row : Option Nat} (h : a.grownBy b row) (k : b.grownBy c row) : a.grownBy c row :=
  ⟨k.os.trans h.os, k.tape.trans h.tape, k.output.trans h.output, Nat.le_trans h.size k.size, fun j hj hne => (k.block j (Nat.lt_of_lt_of_le hj h.size) hne).trans (h.block j hj hne)⟩
theorem grown_drew (w : World) (row : Option Nat) : w.grownBy w.drew row := ⟨rfl, rfl, rfl, Nat.le_refl _, fun _ _ _ => rfl⟩
theorem grown_new (w : World) (o : Obj) (i j : Nat) (vs us : List Value) (row : Option Nat) : w.grownBy ((((w.alloc o).drew.setCells w.heap.size i vs).drew).setCells w.heap.size j us) row := by
  have h1 := fun k hk => heap_setCells_far (b := w.heap.size) vs i (w.alloc o).drew k hk
  have h2 := fun k hk => heap_setCells_far (b := w.heap.size) us j ((w.alloc o).drew.setCells w.heap.size i vs).drew k hk
  have a := h1 (w.heap.size + 1) (by omega)
  have b := h2 (w.heap.size + 1) (by omega)
  refine ⟨b.2.2.1.trans a.2.2.1, b.2.2.2.1.trans a.2.2.2.1, b.2.2.2.2.trans a.2.2.2.2, ?_, fun k hk _ => ?_⟩
  · rw [b.2.1]
    show w.heap.size ≤ ((w.alloc o).drew.setCells w.heap.size i vs).heap.size
    rw [a.2.1]
    show w.heap.size ≤ (w.alloc o).heap.size
    simp
  · exact ((h2 k (by omega)).1.trans (h1 k (by omega)).1).trans (heap_alloc_old w o k hk)
theorem ins_list {cs L : List Value} {n i : Nat} {x : Value} (hL : L.take n = cs) (hn : n + 1 ≤ L.length) (hi : i ≤ n) (hc : cs.length = n) :
    (writeL (writeL L (i + 1) (cs.drop i)) i [x]).take (n + 1) = cs.take i ++ x :: cs.drop i := by
  have hd : (cs.drop i).length = n - i := by rw [List.length_drop, hc]
  have e1 : writeL L (i + 1) (cs.drop i) = L.take (i + 1) ++ cs.drop i ++ L.drop (i + 1 + (n - i)) := by rw [writeL_eq _ _ _ (by rw [hd]; omega), hd]
  have l1 : (writeL L (i + 1) (cs.drop i)).length = L.length := writeL_len _ _ _
  rw [writeL_eq _ _ _ (by rw [l1]; simp; omega), List.length_singleton, e1]
  have t1 : (L.take (i + 1)).length = i + 1 := by rw [List.length_take]; omega
  have e2 : (L.take (i + 1) ++ cs.drop i ++ L.drop (i + 1 + (n - i))).take i = cs.take i := by
    rw [List.append_assoc, List.take_append_of_le_length (by omega), List.take_take, Nat.min_eq_left (by omega), ← hL, List.take_take, Nat.min_eq_left hi]
  have e3 : (L.take (i + 1) ++ cs.drop i ++ L.drop (i + 1 + (n - i))).drop (i + 1) = cs.drop i ++ L.drop (i + 1 + (n - i)) := by
    rw [List.append_assoc, List.drop_append_of_le_length (by omega), List.drop_of_length_le (by omega), List.nil_append]
  rw [e2, e3]
  rw [show cs.take i ++ [x] ++ (cs.drop i ++ L.drop (i + 1 + (n - i))) = (cs.take i ++ x :: cs.drop i) ++ L.drop (i + 1 + (n - i)) by simp]
  have e4 : (cs.take i ++ x :: cs.drop i).length = n + 1 := by rw [List.length_append, List.length_take, List.length_cons, hd]; omega
  rw [List.take_append_of_le_length (by omega), List.take_of_length_le (by omega)]
end Tr
theorem ints_one1 (q : IntKind) (l : List Int) : ∀ v ∈ l.map (Value.int q), v.oneCell' = true := by
  intro u hu; obtain ⟨x, _, rfl⟩ := List.mem_map.1 hu; rfl
set_option maxHeartbeats 1000000 in
theorem insert_tr (B : Nat) (v : Value) (n i : Nat) (zs : List Int) (x : Int) (vb : Nat) (w : World) (h : w.ownsRow B 3 1 v n (zs.map (Value.int .i64))) (hi : i ≤ n) (hn : n ≤ 1000000) (hB : B ≤ w.heap.size) (hvb : w.heap[vb]? = some (.cells #[.int .i64 x] 3 (0, 0))) (hne : v.ownBlock ≠ some vb) :
    Calls Try.prog 79 #[v, .int .i64 i, .slice (some ⟨vb, 0, none⟩) 1 1] w fun e w' => ∃ g c, e = .returned (.slice (some ⟨g, 0, none⟩) (n + 1) c) ∧ w'.ownsRow B 3 1 (.slice (some ⟨g, 0, none⟩) (n + 1) c) (n + 1) ((zs.take i ++ x :: zs.drop i).map (Value.int .i64)) ∧ w.grownBy w' v.ownBlock ∧ (v.ownBlock = some g ∨ g = w.heap.size) := by
  have hl : zs.length = n := by have := h.1; rw [List.length_map] at this; omega
  have hvs : ∀ j u, [Value.int .i64 x][j]? = some u → w.cell? ⟨vb, 0 + j, none⟩ = some u := fun j u hu => by
    have hj : j < 1 := by have := (List.getElem?_eq_some_iff.1 hu).1; simpa using this
    obtain rfl : j = 0 := by omega
    simp at hu; subst hu
    simp [World.cell?, hvb]
  have h1v : ∀ u ∈ [Value.int .i64 x], u.oneCell' = true := fun u hu => by simp at hu; subst hu; rfl
  have hm : (zs.take i ++ x :: zs.drop i).map (Value.int .i64) = (zs.map (Value.int .i64)).take i ++ .int .i64 x :: (zs.map (Value.int .i64)).drop i := by
    rw [List.map_append, List.map_cons, List.map_take, List.map_drop]
  rw [hm]
  have hc : (zs.map (Value.int .i64)).length = n := by rw [List.length_map, hl]
  have h1c := ints_one1 .i64 zs
  generalize zs.map (Value.int .i64) = cs at h hc h1c
  have hL := Ly.lays21
  have hz1 : (Value.int IntKind.i64 0).cells.size = 1 := rfl
  rcases h.2 with ⟨rfl, rfl⟩ | ⟨g, cap, cur, rfl, hbg, hg, hle, hmx, hsz, htk⟩
  · obtain rfl : i = 0 := by omega
    have e0 : cs = [] := List.length_eq_zero_iff.1 hc
    subst e0
    refine (Any2.slices_Insert_int_end_grow hL none 0 0 vb 0 1 1 [] [.int .i64 x] w (by omega) (by omega) (by omega) (by omega) rfl rfl (fun _ => rfl) (fun a h => by cases h) hvs h1v).mono ?_
    rintro e w' ⟨rfl, rfl⟩
    refine ⟨_, _, rfl, ⟨by simp, .inr ⟨_, _, _, rfl, hB, heapNewT w.drew _, ?_, ?_, ?_, ?_⟩⟩, ?_, .inr rfl⟩
    · exact grownCap_ge _ _ _ _
    · exact grownCap_le_maxLen _ _ _ _ (by unfold maxLen; omega)
    · rw [Array.size_append, size_zeroCells, hz1]
      have := grownCap_ge w (0 + 1) 0 (Ly.lays21_ren.t 3)
      generalize grownCap w (0 + 1) 0 (Ly.lays21_ren.t 3) = C at *
      simp; omega
    · rw [Array.toList_append]; simp
    · exact grown_trans' (grown_drew w _) (World.grownBy_alloc _ _ _)
  · rw [Nat.mul_one] at hsz htk
    have hcell : ∀ j, j < cap → w.cell? ⟨g, j, none⟩ = cur[j]? := fun j hj => by simp [World.cell?, hg]
    have hsome : ∀ j, j < cap → (w.cell? ⟨g, j, none⟩).isSome = true := fun j hj => by rw [hcell j hj, Array.getElem?_eq_getElem (by omega)]; rfl
    have hfz : ∀ j, w.frozen? ⟨g, j, none⟩ = false := fun j => by simp [World.frozen?, hg]
    have hcs : ∀ j u, cs[j]? = some u → w.cell? ⟨g, 0 + j, none⟩ = some u := fun j u hu => by
      have hj : j < n := by have := (List.getElem?_eq_some_iff.1 hu).1; omega
      rw [Nat.zero_add, h.cellAt j (by omega)]; exact hu
    have hgl : g < w.heap.size := (Array.getElem?_eq_some_iff.1 hg).1
    have hgvb : vb ≠ g := fun e => hne (by rw [e]; rfl)
    have hcl : cur.toList.length = cap := by simpa using hsz
    have hmx' : cap ≤ 9223372036854775807 := by unfold maxLen at hmx; omega
    by_cases hroom : n + 1 ≤ cap
    · have hfin := ins_list (x := .int .i64 x) htk (by rw [hcl]; omega) hi hc
      by_cases hin : i < n
      · refine (Any2.slices_Insert_int_shift hL g 0 n cap i vb 0 1 1 cs [.int .i64 x] w hin (by omega) hroom hmx' hgvb hc rfl hcs (fun j hj => by rw [Nat.zero_add]; exact hsome j (by omega)) (fun j hj => by rw [Nat.zero_add]; exact hfz j) hvs h1c h1v 3 3 1 cap (by simp [World.shape?, hvb]) (by simp [World.shape?, hg, hsz]) (by omega) (by simp [World.frozen?, hvb]) (by simp [World.frozen?, hvb])).mono ?_
        rintro e w' ⟨rfl, rfl⟩
        have hg1 : w.drew.heap[g]? = some (.cells cur 3 (0, 0)) := hg
        have h1 := heap_setCells (cs.drop i) (0 + (i + 1)) w.drew cur hg1
        have h2 := heap_setCells [.int .i64 x] (0 + i) _ _ h1
        rw [Nat.zero_add, Nat.zero_add] at h2
        refine ⟨g, cap, rfl, ⟨?_, .inr ⟨g, cap, _, rfl, hbg, (by rw [Nat.zero_add, Nat.zero_add]; exact h2), hroom, hmx, ?_, ?_⟩⟩, ?_, .inl rfl⟩
        · rw [List.length_append, List.length_take, List.length_cons, List.length_drop, hc]; omega
        · rw [Nat.mul_one, List.size_toArray, writeL_len]; simp [writeL_len]; omega
        · rw [Nat.mul_one]
          simpa using hfin
        · exact grown_trans' (grown_trans' (grown_drew w _) (grown_cells _ _ rfl)) (grown_cells _ _ rfl)
      · obtain rfl : i = n := by omega
        refine (Any2.slices_Insert_int_end_room hL g 0 i cap vb 0 1 1 [.int .i64 x] w (by omega) hroom hmx' rfl (fun j hj => by rw [Nat.zero_add]; exact hsome _ (by omega)) (fun j hj => hfz _) hvs h1v).mono ?_
        rintro e w' ⟨rfl, rfl⟩
        have h2 := heap_setCells [.int .i64 x] (0 + i) w cur hg
        rw [Nat.zero_add] at h2
        have e0 : cs.drop i = [] := List.drop_of_length_le (by omega)
        rw [e0] at hfin ⊢
        refine ⟨g, cap, rfl, ⟨?_, .inr ⟨g, cap, _, rfl, hbg, (by rw [Nat.zero_add]; exact h2), hroom, hmx, ?_, ?_⟩⟩, ?_, .inl rfl⟩
        · rw [List.length_append, List.length_take, List.length_singleton, hc]; omega
        · rw [Nat.mul_one, List.size_toArray, writeL_len]; exact hcl
        · rw [Nat.mul_one]
          simpa [writeL] using hfin
        · exact grown_cells _ _ rfl
    · have hcap : n = cap := by omega
      by_cases hin : i < n
      · refine (Any2.slices_Insert_int_grow hL g 0 n cap i vb 0 1 1 cs [.int .i64 x] w hin (by omega) hle (by omega) (by omega) hc rfl hcs hvs h1c h1v).mono ?_
        rintro e w' ⟨rfl, rfl⟩
        have hge := grownCap_ge w (n + 1) cap (Ly.lays21_ren.t 3)
        have hmxg := grownCap_le_maxLen w (n + 1) cap (Ly.lays21_ren.t 3) (by unfold maxLen; omega)
        generalize grownCap w (n + 1) cap (Ly.lays21_ren.t 3) = C at *
        have h0 := heapNewT w (.cells ((cs.take i).toArray ++ Builtin.zeroCells (Value.int .i64 0).cells (n + 1 - i) ++ Builtin.zeroCells (Value.int .i64 0).cells (C - (n + 1))) 3)
        generalize hA : (cs.take i).toArray ++ Builtin.zeroCells (Value.int .i64 0).cells (n + 1 - i) ++ Builtin.zeroCells (Value.int .i64 0).cells (C - (n + 1)) = A at *
        have hAs : A.size = C := by
          rw [← hA, Array.size_append, Array.size_append, size_zeroCells, size_zeroCells, hz1, List.size_toArray, List.length_take, hc]; omega
        have hAt : A.toList.take i = cs.take i := by
          rw [← hA, Array.toList_append, Array.toList_append, List.append_assoc, List.take_append_of_le_length (by simp; omega), List.take_of_length_le (by simp; omega)]
        have h1 := heap_setCells [.int .i64 x] i _ A (show (w.alloc (.cells A 3)).drew.heap[w.heap.size]? = _ from h0)
        have h2 := heap_setCells (cs.drop i) (i + 1) _ _ (show ((w.alloc (.cells A 3)).drew.setCells w.heap.size i [.int .i64 x]).drew.heap[w.heap.size]? = _ from h1)
        have hAl : A.toList.length = C := by simpa using hAs
        have hdl : (cs.drop i).length = n - i := by rw [List.length_drop, hc]
        have hw1 : writeL A.toList i [.int .i64 x] = A.toList.take i ++ [.int .i64 x] ++ A.toList.drop (i + 1) := by rw [writeL_eq _ _ _ (by simp; omega)]; rfl
        have hw1l : (writeL A.toList i [.int .i64 x]).length = C := by rw [writeL_len, hAl]
        refine ⟨_, _, rfl, ⟨?_, .inr ⟨_, C, _, rfl, hB, h2, hge, hmxg, ?_, ?_⟩⟩, ?_, .inr rfl⟩
        · rw [List.length_append, List.length_take, List.length_cons, List.length_drop, hc]; omega
        · rw [Nat.mul_one, List.size_toArray, writeL_len]; simpa using hw1l
        · rw [Nat.mul_one]
          show (writeL (writeL A.toList i [.int .i64 x]) (i + 1) (cs.drop i)).take (n + 1) = _
          rw [writeL_eq _ _ _ (by rw [hw1l, hdl]; omega), hw1, hAt]
          have e1 : (cs.take i ++ [Value.int .i64 x] ++ A.toList.drop (i + 1)).take (i + 1) = cs.take i ++ [.int .i64 x] := by
            rw [List.take_append_of_le_length (by rw [List.length_append, List.length_take, List.length_singleton, hc]; omega), List.take_of_length_le (by rw [List.length_append, List.length_take, List.length_singleton, hc]; omega)]
          rw [e1]
          have e2 : (cs.take i ++ [Value.int .i64 x] ++ cs.drop i).length = n + 1 := by rw [List.length_append, List.length_append, List.length_take, List.length_singleton, hdl, hc]; omega
          rw [List.take_append_of_le_length (by omega), List.take_of_length_le (by omega)]
          simp
        · exact grown_new w _ _ _ _ _ _
      · obtain rfl : i = n := by omega
        refine (Any2.slices_Insert_int_end_grow hL (some ⟨g, 0, none⟩) i cap vb 0 1 1 cs [.int .i64 x] w (by omega) hle (by omega) (by omega) hc rfl (fun e => by cases e) (fun a ha j u hu => by cases ha; rw [addrK_add]; exact hcs j u hu) hvs h1v).mono ?_
        rintro e w' ⟨rfl, rfl⟩
        have e0 : cs.drop i = [] := List.drop_of_length_le (by omega)
        have e1 : cs.take i = cs := List.take_of_length_le (by omega)
        rw [e0, e1]
        have hge := grownCap_ge w (i + 1) cap (Ly.lays21_ren.t 3)
        have hmxg := grownCap_le_maxLen w (i + 1) cap (Ly.lays21_ren.t 3) (by unfold maxLen; omega)
        generalize grownCap w (i + 1) cap (Ly.lays21_ren.t 3) = C at *
        refine ⟨_, _, rfl, ⟨by rw [List.length_append, hc]; simp, .inr ⟨_, _, _, rfl, hB, heapNewT w.drew _, hge, hmxg, ?_, ?_⟩⟩, ?_, .inr rfl⟩
        · rw [Array.size_append, size_zeroCells, hz1, List.size_toArray, List.length_append, hc, List.length_singleton]; omega
        · rw [Array.toList_append, Nat.mul_one, List.take_append_of_le_length (by simp; omega), List.take_of_length_le (by simp; omega)]
        · exact grown_trans' (grown_drew w _) (World.grownBy_alloc _ _ _)
end Go.Proofs.Ytpkikhoicobmcaa

/- A node made below another one. Condition: the path is new; the tree is of few nodes. -/
namespace Go.Proofs.Ytpkikhoicobmcaa
open Go.RowKit
set_option linter.unusedVariables false
open Tr
/-- what lay outside the blocks F lies on; new blocks of a footprint are new -/
structure Turn (w0 : World) (F0 : Nat → Prop) (w : World) (F : Nat → Prop) : Prop where
  sep : Sep F0 w0 w
  foot : ∀ g, F g → F0 g ∨ w0.heap.size ≤ g
theorem Turn.trans {a b c : World} {Fa Fb Fc : Nat → Prop} (h : Turn a Fa b Fb) (k : Turn b Fb c Fc) : Turn a Fa c Fc := by
  refine ⟨⟨k.sep.os.trans h.sep.os, k.sep.tape.trans h.sep.tape, k.sep.output.trans h.sep.output, Nat.le_trans h.sep.size k.sep.size, fun i hi hz => ?_⟩, fun g hg => ?_⟩
  · refine (k.sep.block i (Nat.lt_of_lt_of_le hi h.sep.size) fun e => ?_).trans (h.sep.block i hi hz)
    rcases h.foot i e with e | e
    · exact hz e
    · omega
  · rcases k.foot g hg with e | e
    · exact h.foot g e
    · exact .inr (Nat.le_trans h.sep.size e)
theorem Turn.refl (w : World) (F : Nat → Prop) : Turn w F w F := ⟨Sep.refl _ _, fun g h => .inl h⟩
theorem five_new (w : World) (t : TypeId) (v0 v1 v2 v3 v4 : Value) : ∀ j u, [v0, v1, v2, v3, v4][j]? = some u → (w.alloc (.cells #[v0, v1, v2, v3, v4] t)).cell? ((⟨w.heap.size, 0, none⟩ : Addr).add j) = some u := by
  intro j u h
  have hj : j < 5 := by have := (List.getElem?_eq_some_iff.1 h).1; simpa using this
  have : j = 0 ∨ j = 1 ∨ j = 2 ∨ j = 3 ∨ j = 4 := by omega
  rcases this with rfl | rfl | rfl | rfl | rfl <;> (simp at h; subst h; simp [go_sem])
theorem Try.info_nd : (Try.prog.info? 93).map (fun i => (i.zero, i.size, i.bytes)) = some (some (.agg #[.int .u64 0, .int .i64 0, .int .i64 0, .slice none 0 0, .slice none 0 0]), 5, 72) := by kernel_rfl
theorem at5_kids (n : Nat) : at5 (2 * n + 1) = n * 5 + 3 := by unfold at5; omega
theorem at5_words (n : Nat) : at5 (2 * n + 2) = n * 5 + 4 := by unfold at5; omega
section
variable {w : World} {B tb nb nc n : Nat} {f : Nat → Nd} {rv : Nat → Value} {xs : Nat → List Int}
/-- behind a row's growth: what still stands -/
theorem TrX.still (h : TrX w B tb nb nc n f rv xs) {w1 : World} {i : Nat} (hi : i < 2 * n + 1) (hg : w.grownBy w1 (rv i).ownBlock) : (∀ a, a.block = nb ∨ a.block = tb → w1.cell? a = w.cell? a ∧ w1.frozen? a = w.frozen? a) := by
  intro a ha
  have hb : w1.heap[a.block]? = w.heap[a.block]? := by
    rcases ha with e | e
    · rw [e]; exact hg.block nb (h.lt (.inr (.inl rfl))).2 (fun e => h.row_ne hi e.symm)
    · rw [e]; exact hg.block tb (h.lt (.inl rfl)).2 (fun e => h.box_ne hi e.symm)
  exact ⟨World.cell?_of_block hb, World.frozen?_of_block hb⟩
theorem TrX.push_turn (h : TrX w B tb nb nc n f rv xs) {w1 : World} {i : Nat} (hi : i < 2 * n + 1) {v' : Value} (hg : w.grownBy w1 (rv i).ownBlock) (hat : v'.ownBlock = (rv i).ownBlock ∨ ∃ g, v'.ownBlock = some g ∧ w.heap.size ≤ g) (a : Addr) (ha : a.block = tb ∨ a.block = nb) :
    Turn w (Fp tb nb n rv) (w1.setCell a v') (Fp tb nb n (upd rv i v')) := by
  refine ⟨⟨hg.os, hg.tape, hg.output, by simp; exact hg.size, fun k hk hz => ?_⟩, fun g hgF => ?_⟩
  · rw [Below.heap_setCell w1 a v' k (fun e => hz (by rcases ha with e2 | e2 <;> rw [e, e2]; exact .inl rfl; exact .inr (.inl rfl)))]
    exact hg.block k hk (fun e => hz (.inr (.inr ⟨i, hi, e.symm⟩)))
  · rcases hgF with e | e | ⟨j, hj, e⟩
    · exact .inl (.inl e)
    · exact .inl (.inr (.inl e))
    · by_cases hji : j = i
      · subst hji
        rw [upd_at] at e
        rcases hat with h1 | ⟨g', h1, h2⟩
        · rw [h1] at e; exact .inl (.inr (.inr ⟨j, hj, e⟩))
        · rw [h1] at e; injection e with e; exact .inr (by omega)
      · rw [upd_ne _ _ hji] at e; exact .inl (.inr (.inr ⟨j, hj, e⟩))
theorem TrX.more_turn (h : TrX w B tb nb nc n f rv xs) {w1 : World} {g : Nat} {v : Value} (hg : w.grownBy w1 (some nb)) (hat : g = nb ∨ w.heap.size ≤ g) :
    Turn w (Fp tb nb n rv) (w1.setCell ⟨tb, 0, none⟩ v) (Fp tb g (n + 1) (upd (upd rv (2 * n + 1) (.slice none 0 0)) (2 * n + 2) (.slice none 0 0))) := by
  refine ⟨⟨hg.os, hg.tape, hg.output, by simp; exact hg.size, fun k hk hz => ?_⟩, fun k hk => ?_⟩
  · rw [Below.heap_setCell w1 _ v k (fun e => hz (.inl e))]
    exact hg.block k hk (fun e => hz (.inr (.inl (by injection e))))
  · rcases hk with e | e | ⟨j, hj, e⟩
    · exact .inl (.inl e)
    · rcases hat with h1 | h1
      · exact .inl (.inr (.inl (by rw [e, h1])))
      · exact .inr (by omega)
    · by_cases e1 : j = 2 * n + 2
      · subst e1; rw [upd_at] at e; cases e
      · by_cases e2 : j = 2 * n + 1
        · subst e2; rw [upd_ne _ _ e1, upd_at] at e; cases e
        · rw [upd_ne _ _ e1, upd_ne _ _ e2] at e
          exact .inl (.inr (.inr ⟨j, by omega, e⟩))
end
end Go.Proofs.Ytpkikhoicobmcaa

/- The document's new tree; rows made small. Condition: numbers fit. -/
namespace Go.Proofs.Ytpkikhoicobmcaa
open Go.RowKit
set_option linter.unusedVariables false
open Tr
theorem one_newT2 (w : World) (t : TypeId) (v : Value) : ∀ j u, [v][j]? = some u → (w.alloc (.cells #[v] t)).cell? ((⟨w.heap.size, 0, none⟩ : Addr).add j) = some u := by
  intro j u h
  have hj : j < 1 := by have := (List.getElem?_eq_some_iff.1 h).1; simpa using this
  obtain rfl : j = 0 := by omega
  simp at h; subst h; simp [go_sem]
/-- numbers made small -/
def rowV (l : List Int) (m : Nat) : List Int := (l.take m).map fun x => x % 3
theorem rowV_len (l : List Int) (m : Nat) : (rowV l m).length = min l.length m := by unfold rowV; rw [List.length_map, List.length_take]; omega
theorem rowV_succ {l : List Int} {k : Nat} (hk : k < l.length) : rowV l k ++ [l.getD k 0 % 3] = rowV l (k + 1) := by
  unfold rowV; rw [← take_snocI hk, List.map_append, List.map_singleton]
set_option maxRecDepth 100000 in
set_option maxHeartbeats 2000000 in
theorem row_tr {w : World} {a : Option Addr} {n c : Nat} {l : List Int} (hs : SlK .u64 w a n l) (hx : ∀ x ∈ l, 0 ≤ x ∧ x ≤ 18446744073709551615) (hn : n ≤ 9223372036854775807) (m : Nat) (hm : m ≤ 100) :
    Calls Try.prog 17 #[.slice a n c, .int .i64 m] w fun e w' => ∃ v, e = .returned v ∧ w'.ownsRow w.heap.size 51 1 v (min n m) ((rowV l m).map (Value.int .u64)) ∧ Below w.heap.size w w' := by
  obtain ⟨i0, hi, hz0, hz1, hz2⟩ := info_parts Try.info_pxT
  have HS := Lib.hid (fun (w' : World) (hb : Below w.heap.size w w') => hs.below hb)
  have HX := Lib.hid hx
  have HL := Lib.hid hs.1
  have HM : Hid (rowV l (min n m) = rowV l m) := Lib.hid (by
    unfold rowV
    congr 1
    rcases Nat.le_total n m with h | h
    · rw [Nat.min_eq_left h, List.take_of_length_le (by rw [hs.1]; exact Nat.le_refl _), List.take_of_length_le (by rw [hs.1]; exact h)]
    · rw [Nat.min_eq_right h])
  obtain ⟨q, hq⟩ : ∃ q, min n m = q := ⟨_, rfl⟩
  have hqn : q ≤ n := by omega
  have hqm : q ≤ m := by omega
  have hqe : q = n ∨ q = m := by omega
  rw [hq] at HM ⊢
  clear hs hx hq
  go_enter Try.func17, Try.ntmps17
  go_wp2
  go_loopw [5, 6] (fun s5 s6 wr => ∃ k : Nat, k ≤ q ∧ s6 = .int .i64 k ∧ wr.ownsRow w.heap.size 51 1 s5 k ((rowV l k).map (Value.int .u64)) ∧ Below w.heap.size w wr) (fun _ s6 _ => q - (intOf s6).toNat)
  case atStart => exact ⟨0, Nat.zero_le _, rfl, World.ownsRow_nil _ _ _ _, Below.refl _ _⟩
  case round =>
    obtain ⟨k, hk, rfl, hrow, hb⟩ := hrel
    have HROW := Lib.hid hrow
    have HB := Lib.hid hb
    by_cases hlt : k < q
    · have h1 : (k : Int) < (n : Int) := by omega
      have h2 : (k : Int) < (m : Int) := by omega
      have h0 : (0 : Int) ≤ (k : Int) := Int.natCast_nonneg _
      obtain ⟨b, o, rfl, hc⟩ := slk_at (HS.out _ hb) (by omega)
      have hck := hc k (by omega)
      have hkl : k < l.length := by rw [HL.out]; omega
      have hsn := rowV_succ hkl
      have hxr := HX.out (l.getD k 0) (gD_mem hkl)
      obtain ⟨x, hxe⟩ : ∃ x, l.getD k 0 = x := ⟨_, rfl⟩
      rw [hxe] at hck hsn hxr
      have HSN := Lib.hid hsn
      obtain ⟨x0, x1⟩ := hxr
      obtain ⟨y, hy⟩ : ∃ y, x % 3 = y := ⟨_, rfl⟩
      have hy2 : IntKind.u64.wrap (x.tmod 3) = y := by rw [Int.tmod_eq_emod_of_nonneg x0, hy]; simp [IntKind.wrap, IntKind.bits, IntKind.signed]; omega
      have hy3 : x.tmod 3 = y := by rw [Int.tmod_eq_emod_of_nonneg x0, hy]
      have hy4 : IntKind.u64.wrap y = y := by simp [IntKind.wrap, IntKind.bits, IntKind.signed]; omega
      have hsz := hb.size
      rw [hy] at HSN
      clear hc hkl hsn hxe hrow hb
      go_wp2_with (at_builtin; refine wpList_append_lies _ rfl _ _ 27 rfl w.heap.size 51 i0 (.int .u64 0) 1 8 Try.underlying27 hi hz0 hz1 hz2 rfl (by decide) _ k _ rfl (HROW.out.alloc _) ⟨wr.heap.size, 0, none⟩ 1 1 [.int .u64 y] rfl rfl (one_newT2 _ _ _) (by simp [Value.oneCell']) (by omega) (by unfold maxLen; omega) (by omega) (by simp; omega) _ rfl ?_; intro gg cc w5 hown hgrow hat _; have HOWN := Lib.hid hown; have HG := Lib.hid hgrow; clear hown hgrow hat)
      go_roundw
      case rel =>
        refine ⟨k + 1, by omega, by go_num, ?_, HB.out.grown (grown_trans2 HG.out) hsz (fun j e => (HROW.out.lt j e).1)⟩
        rw [← HSN.out, List.map_append]
        exact HOWN.out
      case measure => simp [intOf]; omega
    · obtain rfl : k = q := by omega
      rcases hqe with rfl | rfl
      · have h1 : ¬ (k : Int) < (k : Int) := by omega
        clear hrow hb
        go_wp2
        go_ret
        exact ⟨_, rfl, by rw [← HM.out]; exact HROW.out, HB.out⟩
      · by_cases hkn : k = n
        · subst hkn
          clear hrow hb
          go_wp2
          go_ret
          exact ⟨_, rfl, by first | exact HROW.out | (rw [← HM.out]; exact HROW.out), HB.out⟩
        · have h1 : (k : Int) < (n : Int) := by omega
          have h2 : ¬ (k : Int) < (k : Int) := by omega
          clear hrow hb
          go_wp2
          go_ret
          exact ⟨_, rfl, by first | exact HROW.out | (rw [← HM.out]; exact HROW.out), HB.out⟩
end Go.Proofs.Ytpkikhoicobmcaa

/- A list of rows that came in; its first rows, made small. No condition. -/
namespace Go.Proofs.Ytpkikhoicobmcaa
open Go.RowKit
set_option linter.unusedVariables false
open Tr
/-- a slice of slices of numbers that came in -/
def IsRows (w : World) (a : Option Addr) (len cap : Nat) : Prop :=
  (a = none ∧ len = 0 ∧ cap = 0) ∨
  ∃ x, a = some x ∧ len ≤ cap ∧ cap ≤ maxLen ∧ ∀ r, r < cap → ∃ ai ni ci zi, w.cell? (x.add r) = some (.slice ai ni ci) ∧ IsRow .u64 w ai ni ci zi
theorem isrows_len {w : World} {a : Option Addr} {len cap : Nat} (h : IsRows w a len cap) : len ≤ 9223372036854775807 := by
  rcases h with ⟨_, rfl, _⟩ | ⟨x, _, h1, h2, _⟩
  · omega
  · unfold maxLen at h2; omega
/-- its rows, by name -/
def RowsAt (w : World) (a : Option Addr) (q : Nat) (A : Nat → Option Addr) (N C : Nat → Nat) (Z : Nat → List Int) : Prop :=
  ∀ r, r < q → (∃ b off, a = some ⟨b, off, none⟩ ∧ w.cell? ⟨b, off + r, none⟩ = some (.slice (A r) (N r) (C r))) ∧ IsRow .u64 w (A r) (N r) (C r) (Z r)
theorem isrows_at {w : World} {a : Option Addr} {len cap : Nat} (h : IsRows w a len cap) : ∃ A N C Z, RowsAt w a len A N C Z := by
  have H : ∀ r, ∃ y : Option Addr × Nat × Nat × List Int, r < len → (∃ b off, a = some ⟨b, off, none⟩ ∧ w.cell? ⟨b, off + r, none⟩ = some (.slice y.1 y.2.1 y.2.2.1)) ∧ IsRow .u64 w y.1 y.2.1 y.2.2.1 y.2.2.2 := by
    intro r
    by_cases hr : r < len
    · rcases h with ⟨_, rfl, _⟩ | ⟨⟨b, off, sp⟩, rfl, h1, h2, h3⟩
      · omega
      · obtain ⟨ai, ni, ci, zi, k1, k2⟩ := h3 r (by omega)
        obtain ⟨_, _, _, _, k3, _⟩ := h3 0 (by omega)
        have hsp : sp = none := by simpa [Addr.add] using World.cell?_spot k3
        subst hsp
        rw [addrK_add] at k1
        exact ⟨(ai, ni, ci, zi), fun _ => ⟨⟨b, off, rfl, k1⟩, k2⟩⟩
    · exact ⟨(none, 0, 0, []), fun k => absurd k hr⟩
  exact ⟨fun r => (Classical.choose (H r)).1, fun r => (Classical.choose (H r)).2.1, fun r => (Classical.choose (H r)).2.2.1, fun r => (Classical.choose (H r)).2.2.2, fun r hr => Classical.choose_spec (H r) hr⟩
theorem u64_of {n : Int} (h : (Lit.int .u64 n).wf = true) : 0 ≤ n ∧ n ≤ 18446744073709551615 := by
  simp [Lit.wf, IntKind.min, IntKind.max, IntKind.bits, IntKind.signed] at h; omega
/-- the rows, as they came in -/
def rowsIn (N : Nat → Nat) (Z : Nat → List Int) (q : Nat) : LL := (List.range q).map fun i => (Z i).take (N i)
theorem rowsIn_len (N : Nat → Nat) (Z : Nat → List Int) (q : Nat) : (rowsIn N Z q).length = q := by simp [rowsIn]
theorem rowsIn_at {N : Nat → Nat} {Z : Nat → List Int} {q i : Nat} (h : i < q) : (rowsIn N Z q).getD i [] = (Z i).take (N i) := by
  unfold rowsIn; rw [gD (by simpa using h)]; simp
def smallV (R : LL) : LL := (R.map fun r => rowV r 5).filter fun r => decide (r ≠ [])
theorem smallV_take {R : LL} {k : Nat} (h : k < R.length) : smallV (R.take (k + 1)) = if rowV (R.getD k []) 5 = [] then smallV (R.take k) else smallV (R.take k) ++ [rowV (R.getD k []) 5] := by
  unfold smallV
  rw [List.take_succ_eq_append_getElem h, List.map_append, List.filter_append, gD h]
  by_cases e : rowV R[k] 5 = []
  · rw [if_pos e]; simp [e]
  · rw [if_neg e]; simp [e]
/-- what lay from B on lies on -/
def Fr (B : Nat) (w w' : World) : Prop := ∀ g, B ≤ g → g < w.heap.size → w'.heap[g]? = w.heap[g]?
theorem Fr.of {B : Nat} {w w' w'' : World} (hb : Below w.heap.size w w') (h : Fr B w' w'') : Fr B w w'' := fun g h1 h2 => (h g h1 (Nat.lt_of_lt_of_le h2 hb.size)).trans (hb.block g h2)
theorem Fr.below {B : Nat} {w w' : World} (hb : Below w.heap.size w w') : Fr B w w' := fun g _ h2 => hb.block g h2
theorem Fr.trans {B : Nat} {a b c : World} (h : Fr B a b) (k : Fr B b c) (hs : a.heap.size ≤ b.heap.size) : Fr B a c := fun g h1 h2 => (k g h1 (Nat.lt_of_lt_of_le h2 hs)).trans (h g h1 h2)
/-- .. but for lists of slices -/
def FrP (B : Nat) (w w' : World) : Prop := ∀ g, B ≤ g → g < w.heap.size → (∀ cur, w.heap[g]? ≠ some (.cells cur 27 (0, 0))) → w'.heap[g]? = w.heap[g]?
theorem Fr.p {B : Nat} {w w' : World} (h : Fr B w w') : FrP B w w' := fun g h1 h2 _ => h g h1 h2
theorem FrP.of {B : Nat} {w w' w'' : World} (hb : Below w.heap.size w w') (h : FrP B w' w'') : FrP B w w'' := fun g h1 h2 h3 => (h g h1 (Nat.lt_of_lt_of_le h2 hb.size) (fun cur => by rw [hb.block g h2]; exact h3 cur)).trans (hb.block g h2)
theorem FrP.grown {B : Nat} {w w' w'' : World} {row : Option Nat} (hg : w.grownBy w' row) (hr : ∀ g, row = some g → ∃ cur, w.heap[g]? = some (.cells cur 27 (0, 0))) (h : FrP B w' w'') : FrP B w w'' := fun g h1 h2 h3 => by
  have he : w'.heap[g]? = w.heap[g]? := hg.block g h2 (fun e => by obtain ⟨cur, hc⟩ := hr g e.symm; exact h3 cur hc)
  exact (h g h1 (Nat.lt_of_lt_of_le h2 hg.size) (fun cur => by rw [he]; exact h3 cur)).trans he
/-- an own row of numbers is a slice of these, as long as it lies on -/
theorem ok1_own {w : World} {B : Nat} {v : Value} {n : Nat} {l : List Int} (h : w.ownsRow B 51 1 v n (l.map (Value.int .u64))) (hn : n ≤ 1000000) {w' : World} (hf : FrP B w w') : Ok1 w' v l := by
  have h' := own_of_block h fun g hg => hf g (h.lt g hg).1 (h.lt g hg).2 (fun cur e => by
    obtain ⟨cur', e'⟩ := own_type h hg
    rw [e] at e'; injection e' with e'; injection e' with _ et _
    exact absurd et (by decide))
  have hl : l.length = n := by have := h.1; rw [List.length_map] at this; omega
  obtain ⟨ad, cap, e1, ho, hc⟩ := ownK_row hl h'
  subst e1
  have hs := ho.sl
  refine ⟨ad, cap, by rw [hl], hs, by omega, ?_⟩
  rcases h'.2 with ⟨e, _⟩ | ⟨_, _, _, e, _, _, _, hm, _⟩
  · injection e with _ _ e3; omega
  · injection e with _ _ e3; unfold maxLen at hm; omega
theorem own_rowF {w w' : World} {B : Nat} {e : TypeId} {v : Value} {n : Nat} {vs : List Value} (h : w.ownsRow B e 1 v n vs) (hf : Fr B w w') : w'.ownsRow B e 1 v n vs := own_of_block h fun g hg => hf g (h.lt g hg).1 (h.lt g hg).2
def SmallR (R : LL) (w : World) (e : Ending) (w' : World) : Prop := ∃ a c vs, e = .returned (.slice a R.length c) ∧ (∀ w'', Fr w.heap.size w' w'' → Rv w'' a R.length vs R) ∧ R.length ≤ c ∧ c ≤ 9223372036854775807 ∧ Below w.heap.size w w'
set_option maxRecDepth 100000 in
set_option maxHeartbeats 2000000 in
theorem small_tr {w : World} {a : Option Addr} {len cap : Nat} {A : Nat → Option Addr} {N C : Nat → Nat} {Z : Nat → List Int} (hat : RowsAt w a len A N C Z) (hlen : len ≤ 9223372036854775807) :
    Calls Try.prog 27 #[.slice a len cap] w (SmallR (smallV (rowsIn N Z (min len 8))) w) := by
  obtain ⟨i0, hi, hz0, hz1, hz2⟩ := info_parts Try.info_pxs
  obtain ⟨q, hq⟩ : ∃ q, min len 8 = q := ⟨_, rfl⟩
  have hqn : q ≤ len := by omega
  have hqm : q ≤ 8 := by omega
  have hqe : q = len ∨ (q = 8 ∧ 8 < len) := by omega
  rw [hq]
  have HAT := Lib.hid hat
  have HTK := Lib.hid (fun k (hk : k < (rowsIn N Z q).length) => smallV_take hk)
  have HAL : Hid (smallV ((rowsIn N Z q).take q) = smallV (rowsIn N Z q)) := Lib.hid (by rw [List.take_of_length_le (by rw [rowsIn_len]; exact Nat.le_refl _)])
  clear hat hq
  go_enter Try.func27, Try.ntmps27
  go_wp2
  go_loopw [3, 4] (fun s3 s4 wr => ∃ (k : Nat) (vs : List Value) (v3 : Value), v3 = s3 ∧ k ≤ q ∧ s4 = .int .i64 k ∧ vs.length ≤ k ∧ wr.ownsRow w.heap.size 27 1 s3 vs.length vs ∧ (∀ w'', FrP w.heap.size wr w'' → OkV w'' vs (smallV ((rowsIn N Z q).take k))) ∧ Below w.heap.size w wr) (fun _ s4 _ => q - (intOf s4).toNat)
  case atStart => exact ⟨0, [], _, rfl, Nat.zero_le _, rfl, Nat.le_refl _, World.ownsRow_nil _ _ _ _, fun w'' _ => ⟨rfl, fun i hi => by simp [smallV] at hi⟩, Below.refl _ _⟩
  case round =>
    obtain ⟨k, vs, v3, rfl, hk, rfl, hvl, hrow, hok, hb⟩ := hrel
    have HROW := Lib.hid hrow
    have HOK := Lib.hid hok
    have HB := Lib.hid hb
    by_cases hlt : k < q
    · have h1 : (k : Int) < (len : Int) := by omega
      have h2 : (k : Int) < 8 := by omega
      have h0 : (0 : Int) ≤ (k : Int) := Int.natCast_nonneg _
      obtain ⟨⟨b, o, rfl, hc⟩, hir⟩ := HAT.out k (by omega)
      have hc2 := cell_later hb hc
      have hir2 := isrow_len hir
      have hnk : N k ≤ 9223372036854775807 := hir2.1
      have HRW := Lib.hid (row_tr (c := C k) ((isrow_takeK hir (N k) (Nat.le_refl _)).below hb) (fun x hx => u64_of (isrow_wfK hir x (List.mem_of_mem_take hx))) hnk 5 (by omega))
      have hst := HTK.out k (by rw [rowsIn_len]; exact hlt)
      rw [rowsIn_at hlt] at hst
      have hrl : (rowV ((Z k).take (N k)) 5).length = min (N k) 5 := by rw [rowV_len, List.length_take, Nat.min_eq_left hir2.2.1]
      have hcapk : N k ≤ C k := hir2.2.2.1
      obtain ⟨x, hx⟩ : ∃ x, rowV ((Z k).take (N k)) 5 = x := ⟨_, rfl⟩
      rw [hx] at hst hrl HRW
      have HST := Lib.hid hst
      obtain ⟨nk, hnk2⟩ : ∃ nk, N k = nk := ⟨_, rfl⟩
      obtain ⟨ck, hck2⟩ : ∃ ck, C k = ck := ⟨_, rfl⟩
      rw [hnk2] at hc2 HRW hrl
      rw [hck2] at hc2 HRW
      obtain ⟨m5, hm5⟩ : ∃ m5, min nk 5 = m5 := ⟨_, rfl⟩
      rw [hm5] at hrl HRW
      have HRL := Lib.hid hrl
      have hm5b : m5 ≤ 5 := by omega
      obtain ⟨nv, hnv⟩ : ∃ nv, vs.length = nv := ⟨_, rfl⟩
      have HNV := Lib.hid hnv
      rw [hnv] at hvl HROW
      have hszb := hb.size
      clear hc hir hir2 hnk hst hrl hx hnk2 hck2 hm5 hrow hok hb hnv hcapk
      by_cases hm0 : m5 = 0
      · have hx0 : x = [] := List.length_eq_zero_iff.1 (by rw [HRL.out, hm0])
        have HX0 := Lib.hid hx0
        subst hm0
        clear hx0
        go_wp2_with (go_at_call 17; refine HRW.out.mono ?_; rintro e w9 ⟨v, rfl, ho, hb9⟩; obtain ⟨av, cv, ev⟩ := Tr.own_form ho; have HO9 := Lib.hid ho; have HB9 := Lib.hid hb9; subst ev; clear ho hb9)
        go_roundw
        case rel =>
          refine ⟨k + 1, vs, _, rfl, by omega, by go_num, by have := HNV.out; omega, ?_, ?_, bel_step HB.out HB9.out⟩
          · rw [HNV.out]; exact own_rowF HROW.out (Fr.below HB9.out)
          · intro w'' hf
            rw [HST.out, if_pos HX0.out]
            exact HOK.out w'' (hf.of HB9.out)
        case measure => simp [intOf]; omega
      · have hm1 : (0 : Int) < (m5 : Int) := by omega
        have hx0 : x ≠ [] := fun e => hm0 (by rw [← HRL.out, e]; rfl)
        have HX0 := Lib.hid hx0
        clear hx0
        go_wp2_with (first
          | (go_at_call 17; refine HRW.out.mono ?_; rintro e w9 ⟨v, rfl, ho, hb9⟩; obtain ⟨av, cv, ev⟩ := Tr.own_form ho; have HO9 := Lib.hid ho; have HB9 := Lib.hid hb9; have hsz9 := hb9.size; subst ev; clear ho hb9)
          | (at_builtin; refine wpList_appV rfl _ _ 22 rfl w.heap.size 27 i0 (.slice none 0 0) 24 Try.underlying22 hi hz0 hz1 hz2 rfl _ nv _ rfl ((own_rowF HROW.out (Fr.below HB9.out)).alloc _) (some ⟨w9.heap.size, 0, none⟩) 1 1 [.slice av m5 cv] rfl (cv_one _ _ _) (by simp [Value.oneCell']) (by unfold maxLen; omega) (by omega) (by simp; omega) ?_; intro vb wb hown2 hgrow2 hat2; have HOWN2 := Lib.hid hown2; have HG2 := Lib.hid (grown_trans2 hgrow2); clear hown2 hgrow2 hat2))
        go_roundw
        case rel =>
          have h9 := HOWN2.out
          have e1 : (vs ++ [Value.slice av m5 cv]).length = nv + 1 := by rw [List.length_append, List.length_singleton, HNV.out]
          refine ⟨k + 1, vs ++ [.slice av m5 cv], _, rfl, by omega, by go_num, by rw [e1]; omega, by rw [e1]; exact h9, ?_, ?_⟩
          · intro w'' hf
            have hf9 : FrP w.heap.size w9 w'' := FrP.grown HG2.out (fun g hg => own_type (own_rowF HROW.out (Fr.below HB9.out)) hg) hf
            rw [HST.out, if_neg HX0.out]
            exact (HOK.out w'' (FrP.of HB9.out hf9)).snoc (by
              have ho := HO9.out
              have hl : x.length = m5 := HRL.out
              exact ok1_own (B := w.heap.size) (ownsRow_base ho hszb) (by omega) hf9)
          · exact (bel_step HB.out HB9.out).grown HG2.out (by omega) (fun j e => (HROW.out.lt j e).1)
        case measure => simp [intOf]; omega
    · obtain rfl : k = q := by omega
      have hfin : SmallR (smallV (rowsIn N Z k)) w (.returned v3) wr := by
        have h9 := HOK.out wr (fun g _ _ _ => rfl)
        rw [HAL.out] at h9
        obtain ⟨av, cv, ev⟩ := Tr.own_form HROW.out
        have hcv := HROW.out.2
        refine ⟨av, cv, vs, by rw [ev, h9.1], fun w'' hf => ?_, ?_, ?_, HB.out⟩
        · have hr := own_rowF HROW.out hf
          have hk2 := HOK.out w'' hf.p
          rw [HAL.out] at hk2
          rw [ev, hk2.1] at hr
          exact rv_own hr hk2 rfl
        · rw [← h9.1]
          rcases hcv with ⟨e, h0⟩ | ⟨_, _, _, e, _, _, hc1, hc2, _⟩
          · omega
          · rw [ev] at e; injection e with _ _ e; omega
        · rcases hcv with ⟨e, h0⟩ | ⟨_, _, _, e, _, _, hc1, hc2, _⟩
          · rw [ev] at e; injection e with _ _ e; omega
          · rw [ev] at e; injection e with _ _ e; unfold maxLen at hc2; omega
      have HFIN := Lib.hid hfin
      clear hrow hok hb hfin
      rcases hqe with rfl | ⟨rfl, h8⟩
      · have h1 : ¬ (k : Int) < (k : Int) := by omega
        go_wp2
        go_ret
        exact HFIN.out
      · have h1 : (8 : Int) < (len : Int) := by omega
        go_wp2
        go_ret
        exact HFIN.out
end Go.Proofs.Ytpkikhoicobmcaa

/- A tree's nodes by their depth, then as they are numbered: plain facts. No condition. -/
namespace Go.Proofs.Ytpkikhoicobmcaa
set_option linter.unusedVariables false
open Tr
namespace Au
abbrev dep (L : LL) (i : Nat) : Nat := (L.getD i []).length
def lev (L : LL) (d : Nat) : List Nat := (List.range L.length).filter fun i => decide (dep L i = d)
def levs (L : LL) : Nat → List Nat
  | 0 => []
  | d + 1 => levs L d ++ lev L (d + 1)
def order (L : LL) : List Nat := levs L L.length
def klt (L : LL) (a b : Nat) : Prop := dep L a < dep L b ∨ (dep L a = dep L b ∧ a < b)
theorem mem_lev {L : LL} {d i : Nat} : i ∈ lev L d ↔ i < L.length ∧ dep L i = d := by
  unfold lev; rw [List.mem_filter, List.mem_range, decide_eq_true_iff]
theorem mem_levs {L : LL} {i : Nat} : ∀ {d}, i ∈ levs L d ↔ i < L.length ∧ 1 ≤ dep L i ∧ dep L i ≤ d
  | 0 => by
    constructor
    · intro h; cases h
    · rintro ⟨_, h1, h2⟩; omega
  | d + 1 => by
    rw [levs, List.mem_append, mem_levs, mem_lev]
    constructor
    · rintro (⟨a, b, c⟩ | ⟨a, b⟩)
      · exact ⟨a, b, by omega⟩
      · exact ⟨a, by omega, by omega⟩
    · rintro ⟨a, b, c⟩
      by_cases e : dep L i = d + 1
      · exact .inr ⟨a, e⟩
      · exact .inl ⟨a, b, by omega⟩
theorem levs_pw (L : LL) : ∀ d, (levs L d).Pairwise (klt L)
  | 0 => List.Pairwise.nil
  | d + 1 => by
    rw [levs, List.pairwise_append]
    refine ⟨levs_pw L d, ?_, fun a ha b hb => ?_⟩
    · unfold lev
      refine List.Pairwise.imp_of_mem ?_ (List.pairwise_lt_range.filter _)
      intro a b ha hb hab
      have h1 := (List.mem_filter.1 ha).2
      have h2 := (List.mem_filter.1 hb).2
      rw [decide_eq_true_iff] at h1 h2
      exact .inr ⟨by omega, hab⟩
    · have h1 := mem_levs.1 ha
      have h2 := mem_lev.1 hb
      exact .inl (by omega)
theorem dep_le {L : LL} (hI : Inv L) : ∀ (m j : Nat), j ≤ m → j < L.length → dep L j ≤ j
  | m, 0, _, _ => by show (L.getD 0 []).length ≤ 0; rw [hI.root]; exact Nat.le_refl _
  | 0, j + 1, h, _ => by omega
  | m + 1, j + 1, h, hj => by
    obtain ⟨a, b, c⟩ := hI.up (j + 1) (by omega) hj
    have h1 := dep_le hI m (idx L (L.getD (j + 1) []).dropLast) (by omega) (idx_lt_iff.2 b)
    unfold dep at h1 ⊢
    rw [idx_at b, List.length_dropLast] at h1
    omega
theorem dep_pos {L : LL} (hI : Inv L) {j : Nat} (h1 : 1 ≤ j) (hj : j < L.length) : 1 ≤ dep L j := List.length_pos_iff.2 (path_ne hI h1 hj)
theorem dep_zero {L : LL} (hI : Inv L) : dep L 0 = 0 := by unfold dep; rw [hI.root]; rfl
theorem mem_order {L : LL} (hI : Inv L) {j : Nat} : j ∈ order L ↔ 1 ≤ j ∧ j < L.length := by
  unfold order
  rw [mem_levs]
  constructor
  · rintro ⟨a, b, c⟩
    refine ⟨?_, a⟩
    rcases Nat.eq_zero_or_pos j with e | e
    · subst e; rw [dep_zero hI] at b; omega
    · exact e
  · rintro ⟨a, b⟩
    exact ⟨b, dep_pos hI a b, by have := dep_le hI j j (Nat.le_refl _) b; omega⟩
theorem order_pw (L : LL) : (order L).Pairwise (klt L) := levs_pw L _
theorem klt_irr {L : LL} {a : Nat} : ¬ klt L a a := by rintro (h | ⟨_, h⟩) <;> omega
theorem order_nodup (L : LL) : (order L).Nodup := by
  show List.Pairwise _ _
  exact (order_pw L).imp (fun {a b} h (e : a = b) => by subst e; exact klt_irr h)
theorem order_perm {L : LL} (hI : Inv L) : (order L).Perm ((List.range (L.length - 1)).map (· + 1)) := by
  refine (List.perm_ext_iff_of_nodup (order_nodup L) ?_).2 fun z => ?_
  · show List.Pairwise _ _
    rw [List.pairwise_map]
    exact List.nodup_range.imp (fun h => by omega)
  · rw [mem_order hI, List.mem_map]
    constructor
    · rintro ⟨a, b⟩; exact ⟨z - 1, by rw [List.mem_range]; omega, by omega⟩
    · rintro ⟨i, h, rfl⟩; rw [List.mem_range] at h; omega
theorem order_len {L : LL} (hI : Inv L) : (order L).length = L.length - 1 := by rw [(order_perm hI).length_eq]; simp
theorem levs_pre (L : LL) (d : Nat) : ∀ e, ∃ M, levs L (d + e) = levs L d ++ M
  | 0 => ⟨[], by simp⟩
  | e + 1 => by
    obtain ⟨M, h⟩ := levs_pre L d e
    exact ⟨M ++ lev L (d + e + 1), by rw [← Nat.add_assoc, levs, h, List.append_assoc]⟩
theorem levs_le {L : LL} (hI : Inv L) {d : Nat} (hd : d ≤ L.length) : (levs L d).length ≤ L.length - 1 := by
  obtain ⟨M, h⟩ := levs_pre L d (L.length - d)
  rw [show d + (L.length - d) = L.length by omega] at h
  have := order_len hI
  unfold order at this
  rw [h, List.length_append] at this
  omega
theorem levs_full {L : LL} (hI : Inv L) {d : Nat} (hd : d ≤ L.length) (h1 : L.length - 1 ≤ (levs L d).length) : levs L d = order L := by
  obtain ⟨M, h⟩ := levs_pre L d (L.length - d)
  rw [show d + (L.length - d) = L.length by omega] at h
  have := order_len hI
  unfold order at this ⊢
  rw [h, List.length_append] at this
  rw [h, List.eq_nil_of_length_eq_zero (l := M) (by omega), List.append_nil]
/-- what is told ahead of a node: all that are less deep -/
theorem order_ahead {L : LL} (hI : Inv L) {pre rest : List Nat} {j i : Nat} (h : order L = pre ++ j :: rest) (h1 : 1 ≤ i) (hi : i < L.length) (hd : dep L i < dep L j) : i ∈ pre := by
  have hm := (mem_order hI).2 ⟨h1, hi⟩
  rw [h] at hm
  rcases List.mem_append.1 hm with hm | hm
  · exact hm
  · exfalso
    rcases List.mem_cons.1 hm with e | hm
    · subst e; omega
    · have := order_pw L
      rw [h, List.pairwise_append] at this
      have := (List.pairwise_cons.1 this.2.1).1 _ hm
      rcases this with k | ⟨k, _⟩ <;> omega
/-- how two nodes are laid beside each other -/
def orV (x y : Int) : Int := if x ≠ 0 then x else y
def cmpV (L : LL) (a b : Int) : Int := orV (Lib.compareInt (depV L a) (depV L b)) (Lib.compareInt a b)
theorem cmpV_lt (L : LL) (a b : Int) : cmpV L a b < 0 ↔ depV L a < depV L b ∨ (depV L a = depV L b ∧ a < b) := by
  unfold cmpV orV Lib.compareInt
  (repeat' split) <;> omega
theorem cmpV_swo (L : LL) : Go.Sort.SWO (fun x y => decide (cmpV L x y < 0)) := by
  refine ⟨fun x => ?_, fun x y z h1 h2 => ?_, fun x y z h1 h2 => ?_⟩
  · rw [decide_eq_false_iff_not, cmpV_lt]; omega
  · rw [decide_eq_true_iff, cmpV_lt] at *; omega
  · rw [decide_eq_false_iff_not, cmpV_lt] at *; omega
theorem sorted_eqR {α : Type} {R : α → α → Prop} (hR : ∀ x y, R x y → R y x → x = y) : ∀ {l m : List α}, l.Perm m → l.Pairwise R → m.Pairwise R → l = m
  | [], m, h, _, _ => (List.Perm.nil_eq h)
  | x :: l, [], h, _, _ => absurd h.symm.nil_eq (by simp)
  | x :: l, y :: m, h, h1, h2 => by
    rw [List.pairwise_cons] at h1 h2
    have e : x = y := by
      have a : x ∈ y :: m := h.mem_iff.1 (List.mem_cons_self ..)
      have b : y ∈ x :: l := h.mem_iff.2 (List.mem_cons_self ..)
      rcases List.mem_cons.1 a with a | a
      · exact a
      · rcases List.mem_cons.1 b with b | b
        · exact b.symm
        · exact hR _ _ (h1.1 _ b) (h2.1 _ a)
    subst e
    rw [sorted_eqR hR h.cons_inv h1.2 h2.2]
def ints (l : List Nat) : List Int := l.map fun (i : Nat) => (i : Int)
theorem dep_nat {L : LL} {i : Nat} (h : i < L.length) : depV L i = (dep L i : Int) := by unfold depV; rw [if_neg (by unfold out; omega), Int.toNat_natCast]
/-- sorted so, the numbers of the nodes are their row -/
theorem order_sorted {L : LL} (hI : Inv L) {l : List Int} (hp : l.Perm ((List.range (L.length - 1)).map fun i => ((i + 1 : Nat) : Int))) (hs : l.Pairwise fun x y => ¬ cmpV L y x < 0) : l = ints (order L) := by
  refine sorted_eqR (R := fun x y => ¬ cmpV L y x < 0) (fun x y h1 h2 => ?_) (hp.trans ?_) hs ?_
  · rw [cmpV_lt] at h1 h2; omega
  · have := (order_perm hI).symm.map (fun (i : Nat) => (i : Int))
    rwa [List.map_map] at this
  · unfold ints
    rw [List.pairwise_map]
    refine List.Pairwise.imp_of_mem ?_ (order_pw L)
    intro a b ha hb hab
    rw [cmpV_lt, dep_nat ((mem_order hI).1 ha).2, dep_nat ((mem_order hI).1 hb).2]
    rcases hab with h | h <;> omega
end Au
end Go.Proofs.Ytpkikhoicobmcaa

/- An automaton in memory: its box, its states' row, its rows of numbers, each in a block of its own; how it turns. No condition. -/
namespace Go.Proofs.Ytpkikhoicobmcaa
open Go.RowKit
set_option linter.unusedVariables false
open Tr
namespace Au
theorem nds_setc (f : Nat → Nd) (rv : Nat → Value) {n k c : Nat} (hk : k < n) (hc : c < 5) (x : Nd) (hx : ∀ c', c' < 5 → c' ≠ c → cell (upd f k x) rv k c' = cell f rv k c') : (nds f rv n).set (k * 5 + c) (cell (upd f k x) rv k c) = nds (upd f k x) rv n := by
  apply List.ext_getElem?
  intro j
  by_cases hj : j < n * 5
  · obtain ⟨k', c', hk', hc', rfl⟩ : ∃ k c, k < n ∧ c < 5 ∧ j = k * 5 + c := ⟨j / 5, j % 5, by omega, by omega, by omega⟩
    rw [nds_get (upd f k x) _ hk' hc']
    by_cases e : k' * 5 + c' = k * 5 + c
    · have e1 : k' = k := by omega
      have e2 : c' = c := by omega
      subst e1 e2
      rw [List.getElem?_set_self (by rw [nds_len]; omega)]
    · rw [List.getElem?_set_ne (fun h => e h.symm), nds_get f _ hk' hc']
      by_cases e1 : k' = k
      · subst e1
        rw [hx c' hc' (by omega)]
      · unfold cell
        rw [upd_ne _ _ e1]
  · rw [List.getElem?_eq_none (by rw [List.length_set, nds_len]; omega), List.getElem?_eq_none (by rw [nds_len]; omega)]
/-- an automaton in memory: n states, what each is of (f: number, fall, link), its rows of numbers (2k + 1: the state k's children; 2k + 2: its words) as slices (rv) and as numbers (xs) -/
structure AuX (w : World) (B ab sb n : Nat) (f : Nat → Nd) (rv : Nat → Value) (xs : Nat → List Int) : Prop where
  low : B ≤ ab
  box : w.heap[ab]? = some (.cells #[.slice (some ⟨sb, 0, none⟩) n n] 101 (0, 0))
  row : w.ownsRow B 96 5 (.slice (some ⟨sb, 0, none⟩) n n) n (nds f rv n)
  rows : ∀ i, 1 ≤ i → i < 2 * n + 1 → w.ownsRow B 3 1 (rv i) (xs i).length ((xs i).map (Value.int .i64))
  apart : ∀ i j, 1 ≤ i → 1 ≤ j → i < 2 * n + 1 → j < 2 * n + 1 → i ≠ j → (rv i).ownBlock = none ∨ (rv i).ownBlock ≠ (rv j).ownBlock
/-- the blocks that it lies in -/
def Fa (ab sb n : Nat) (rv : Nat → Value) (g : Nat) : Prop := g = ab ∨ g = sb ∨ ∃ i, 1 ≤ i ∧ i < 2 * n + 1 ∧ (rv i).ownBlock = some g
section
variable {w : World} {B ab sb n : Nat} {f : Nat → Nd} {rv : Nat → Value} {xs : Nat → List Int}
theorem AuX.lt (h : AuX w B ab sb n f rv xs) {g : Nat} (hg : Fa ab sb n rv g) : B ≤ g ∧ g < w.heap.size := by
  rcases hg with rfl | rfl | ⟨i, h1, hi, hg⟩
  · exact ⟨h.low, (Array.getElem?_eq_some_iff.1 h.box).1⟩
  · exact h.row.lt _ rfl
  · exact (h.rows i h1 hi).lt _ hg
theorem AuX.ab_ne (h : AuX w B ab sb n f rv xs) : ab ≠ sb := by
  intro e
  obtain ⟨cur, hc⟩ := own_type h.row rfl
  rw [← e, h.box] at hc
  injection hc with hc; injection hc with _ ht _
  exact absurd ht (by decide)
theorem AuX.row_ne (h : AuX w B ab sb n f rv xs) {i : Nat} (h1 : 1 ≤ i) (hi : i < 2 * n + 1) : (rv i).ownBlock ≠ some sb := by
  intro e
  obtain ⟨cur, hc⟩ := own_type h.row rfl
  obtain ⟨cur', hc'⟩ := own_type (h.rows i h1 hi) e
  rw [hc] at hc'
  injection hc' with hc'; injection hc' with _ ht _
  exact absurd ht (by decide)
theorem AuX.box_ne (h : AuX w B ab sb n f rv xs) {i : Nat} (h1 : 1 ≤ i) (hi : i < 2 * n + 1) : (rv i).ownBlock ≠ some ab := by
  intro e
  obtain ⟨cur', hc'⟩ := own_type (h.rows i h1 hi) e
  rw [h.box] at hc'
  injection hc' with hc'; injection hc' with _ ht _
  exact absurd ht (by decide)
theorem AuX.of_blocks (h : AuX w B ab sb n f rv xs) {w' : World} (hb : ∀ g, Fa ab sb n rv g → w'.heap[g]? = w.heap[g]?) : AuX w' B ab sb n f rv xs :=
  ⟨h.low, (hb _ (.inl rfl)).trans h.box, own_of_block h.row fun g e => hb g (.inr (.inl (by simpa [Value.ownBlock] using e.symm))), fun i h1 hi => own_of_block (h.rows i h1 hi) fun g e => hb g (.inr (.inr ⟨i, h1, hi, e⟩)), h.apart⟩
theorem AuX.later (h : AuX w B ab sb n f rv xs) {w' : World} (hb : Below w.heap.size w w') : AuX w' B ab sb n f rv xs := h.of_blocks fun g hg => hb.block g (h.lt hg).2
theorem AuX.congr (h : AuX w B ab sb n f rv xs) {g : Nat → Nd} {ys : Nat → List Int} (hf : ∀ k, k < n → f k = g k) (hx : ∀ i, 1 ≤ i → i < 2 * n + 1 → xs i = ys i) : AuX w B ab sb n g rv ys :=
  ⟨h.low, h.box, by rw [← nds_congr hf (fun i _ _ => rfl)]; exact h.row, fun i h1 hi => by rw [← hx i h1 hi]; exact h.rows i h1 hi, h.apart⟩
theorem AuX.cell (h : AuX w B ab sb n f rv xs) {k c : Nat} (hk : k < n) (hc : c < 5) : w.cell? ⟨sb, k * 5 + c, none⟩ = some (Tr.cell f rv k c) := by
  rw [h.row.cellAt _ (by omega), nds_get f rv hk hc]
theorem AuX.cells (h : AuX w B ab sb n f rv xs) {k : Nat} (hk : k < n) : w.cell? ⟨sb, k * 5, none⟩ = some (.int .u64 (f k).1) ∧ w.cell? ⟨sb, k * 5 + 1, none⟩ = some (.int .i64 (f k).2.1) ∧ w.cell? ⟨sb, k * 5 + 2, none⟩ = some (.int .i64 (f k).2.2) ∧ w.cell? ⟨sb, k * 5 + 3, none⟩ = some (rv (2 * k + 1)) ∧ w.cell? ⟨sb, k * 5 + 4, none⟩ = some (rv (2 * k + 2)) := by
  exact ⟨by simpa [Tr.cell] using h.cell hk (c := 0) (by omega), by simpa [Tr.cell] using h.cell hk (c := 1) (by omega), by simpa [Tr.cell] using h.cell hk (c := 2) (by omega), by simpa [Tr.cell] using h.cell hk (c := 3) (by omega), by simpa [Tr.cell] using h.cell hk (c := 4) (by omega)⟩
theorem AuX.fr (h : AuX w B ab sb n f rv xs) (i : Nat) : w.frozen? ⟨sb, i, none⟩ = false := h.row.frozenAt i
theorem AuX.boxes (h : AuX w B ab sb n f rv xs) : w.cell? ⟨ab, 0, none⟩ = some (.slice (some ⟨sb, 0, none⟩) n n) := by
  have h' := h.box
  simp [World.cell?, h']
theorem AuX.bfr (h : AuX w B ab sb n f rv xs) (i : Nat) : w.frozen? ⟨ab, i, none⟩ = false := by
  have h' := h.box
  simp [World.frozen?, h']
theorem AuX.form (h : AuX w B ab sb n f rv xs) {i : Nat} (h1 : 1 ≤ i) (hi : i < 2 * n + 1) : ∃ a c, rv i = .slice a (xs i).length c := by
  rcases (h.rows i h1 hi).2 with ⟨e, e2⟩ | ⟨g, cap, cur, e, _⟩
  · exact ⟨none, 0, by rw [e, e2]⟩
  · exact ⟨_, cap, e⟩
/-- a number, a fall, a link is another one -/
theorem AuX.setc (h : AuX w B ab sb n f rv xs) {k c : Nat} (hk : k < n) (hc : c < 3) (x : Nd) (hx : ∀ c', c' < 5 → c' ≠ c → Tr.cell (upd f k x) rv k c' = Tr.cell f rv k c') : AuX (w.setCell ⟨sb, k * 5 + c, none⟩ (Tr.cell (upd f k x) rv k c)) B ab sb n (upd f k x) rv xs := by
  have hblk : ∀ g, g ≠ sb → (w.setCell ⟨sb, k * 5 + c, none⟩ (Tr.cell (upd f k x) rv k c)).heap[g]? = w.heap[g]? := fun g hne => Below.heap_setCell w _ _ g hne
  refine ⟨h.low, (hblk ab h.ab_ne).trans h.box, ?_, fun i h1 hi => own_of_block (h.rows i h1 hi) fun g e => hblk g (fun e2 => h.row_ne h1 hi (by rw [e, e2])), h.apart⟩
  have h2 := (h.row.stored (k * 5 + c) (Tr.cell (upd f k x) rv k c)).1
  rwa [nds_setc f rv hk (by omega) x hx] at h2
theorem AuX.num (h : AuX w B ab sb n f rv xs) {k : Nat} (hk : k < n) (p : Int) : AuX (w.setCell ⟨sb, k * 5, none⟩ (.int .u64 p)) B ab sb n (upd f k (p, (f k).2.1, (f k).2.2)) rv xs := by
  have := h.setc hk (c := 0) (by omega) (p, (f k).2.1, (f k).2.2) (fun c' h1 h2 => by
    have : c' = 1 ∨ c' = 2 ∨ c' = 3 ∨ c' = 4 := by omega
    rcases this with rfl | rfl | rfl | rfl <;> simp [Tr.cell, upd])
  simpa [Tr.cell, upd] using this
theorem AuX.fall (h : AuX w B ab sb n f rv xs) {k : Nat} (hk : k < n) (p : Int) : AuX (w.setCell ⟨sb, k * 5 + 1, none⟩ (.int .i64 p)) B ab sb n (upd f k ((f k).1, p, (f k).2.2)) rv xs := by
  have := h.setc hk (c := 1) (by omega) ((f k).1, p, (f k).2.2) (fun c' h1 h2 => by
    have : c' = 0 ∨ c' = 2 ∨ c' = 3 ∨ c' = 4 := by omega
    rcases this with rfl | rfl | rfl | rfl <;> simp [Tr.cell, upd])
  simpa [Tr.cell, upd] using this
theorem AuX.link (h : AuX w B ab sb n f rv xs) {k : Nat} (hk : k < n) (p : Int) : AuX (w.setCell ⟨sb, k * 5 + 2, none⟩ (.int .i64 p)) B ab sb n (upd f k ((f k).1, (f k).2.1, p)) rv xs := by
  have := h.setc hk (c := 2) (by omega) ((f k).1, (f k).2.1, p) (fun c' h1 h2 => by
    have : c' = 0 ∨ c' = 1 ∨ c' = 3 ∨ c' = 4 := by omega
    rcases this with rfl | rfl | rfl | rfl <;> simp [Tr.cell, upd])
  simpa [Tr.cell, upd] using this
/-- a row of numbers is another one now, behind a store into the cell that holds it -/
theorem AuX.push (h : AuX w B ab sb n f rv xs) {w1 : World} {i : Nat} (h1 : 1 ≤ i) (hi : i < 2 * n + 1) {v' : Value} {ys : List Int} (hrow : w1.ownsRow B 3 1 v' ys.length (ys.map (Value.int .i64))) (hsize : w.heap.size ≤ w1.heap.size)
    (hblk1 : ∀ g, g < w.heap.size → (rv i).ownBlock ≠ some g → w1.heap[g]? = w.heap[g]?) (hat : v'.ownBlock = (rv i).ownBlock ∨ ∃ g, v'.ownBlock = some g ∧ ¬ Fa ab sb n rv g) :
    AuX (w1.setCell ⟨sb, at5 i, none⟩ v') B ab sb n f (upd rv i v') (upd xs i ys) := by
  have hsb : w1.heap[sb]? = w.heap[sb]? := hblk1 sb (h.lt (.inr (.inl rfl))).2 (h.row_ne h1 hi)
  have hab : w1.heap[ab]? = w.heap[ab]? := hblk1 ab (h.lt (.inl rfl)).2 (h.box_ne h1 hi)
  have hv' : v'.ownBlock ≠ some sb ∧ v'.ownBlock ≠ some ab := by
    rcases hat with e | ⟨g, e, hlt⟩
    · rw [e]; exact ⟨h.row_ne h1 hi, h.box_ne h1 hi⟩
    · rw [e]; exact ⟨fun k => by injection k with k; exact hlt (.inr (.inl k)), fun k => by injection k with k; exact hlt (.inl k)⟩
  have hblk : ∀ g, g ≠ sb → (w1.setCell ⟨sb, at5 i, none⟩ v').heap[g]? = w1.heap[g]? := fun g hne => Below.heap_setCell w1 _ v' g hne
  refine ⟨h.low, (hblk ab h.ab_ne).trans (hab.trans h.box), ?_, fun j hj1 hj => ?_, fun j k hj1 hk1 hj hk hne => ?_⟩
  · have q1 : w1.ownsRow B 96 5 (.slice (some ⟨sb, 0, none⟩) n n) n (nds f rv n) := own_of_block h.row fun g hg' => by
      have eg : g = sb := by simpa [Value.ownBlock] using hg'.symm
      rw [eg]; exact hsb
    have q2 := (q1.stored (at5 i) v').1
    rwa [nds_set f rv h1 hi] at q2
  · by_cases e : j = i
    · subst e
      rw [upd_at, upd_at]
      exact own_of_block hrow fun g hg' => hblk g (fun e2 => hv'.1 (by rw [hg', e2]))
    · rw [upd_ne _ _ e, upd_ne _ _ e]
      refine own_of_block (h.rows j hj1 hj) fun g hg' => ?_
      rw [hblk g (fun e2 => h.row_ne hj1 hj (by rw [hg', e2]))]
      refine hblk1 g ((h.rows j hj1 hj).lt _ hg').2 (fun e2 => ?_)
      rcases h.apart j i hj1 h1 hj hi e with k | k
      · rw [hg'] at k; cases k
      · exact k (by rw [hg', e2])
  · have far : ∀ j, 1 ≤ j → j < 2 * n + 1 → j ≠ i → (rv j).ownBlock = none ∨ (rv j).ownBlock ≠ v'.ownBlock := fun j hj1 hj hne => by
      rcases hat with e | ⟨g, e, hlt⟩
      · rw [e]; exact h.apart j i hj1 h1 hj hi hne
      · rcases ho : (rv j).ownBlock with _ | z
        · exact .inl rfl
        · right; rw [e]; exact fun k => by injection k with k; exact hlt (.inr (.inr ⟨j, hj1, hj, by rw [ho, k]⟩))
    by_cases e1 : j = i
    · subst e1
      rw [upd_at, upd_ne _ _ (fun e => hne e.symm)]
      rcases far k hk1 hk (fun e => hne e.symm) with q | q
      · rcases ho : v'.ownBlock with _ | z
        · exact .inl rfl
        · right; rw [q]; exact fun e => by cases e
      · exact .inr (fun e => q e.symm)
    · rw [upd_ne _ _ e1]
      by_cases e2 : k = i
      · subst e2; rw [upd_at]; exact far j hj1 hj e1
      · rw [upd_ne _ _ e2]; exact h.apart j k hj1 hk1 hj hk hne
end
end Au
end Go.Proofs.Ytpkikhoicobmcaa

/- A state of an automaton, as a value; how many there are; its fall, its link, what ends at it. Condition: an automaton that stands. -/
namespace Go.Proofs.Ytpkikhoicobmcaa
open Go.RowKit
set_option linter.unusedVariables false
open Tr Au
def Sv (w : World) (b : Nat) (v0 v1 v2 v3 v4 : Value) : Prop := w.heap[b]? = some (.cells #[v0, v1, v2, v3, v4] 96 (0, 0))
section
variable {w w' : World} {b : Nat} {v0 v1 v2 v3 v4 : Value}
theorem Sv.lt (hh : Sv w b v0 v1 v2 v3 v4) : b < w.heap.size := (Array.getElem?_eq_some_iff.1 hh).1
theorem Sv.later (hh : Sv w b v0 v1 v2 v3 v4) (hb : Below w.heap.size w w') : Sv w' b v0 v1 v2 v3 v4 := (hb.block b hh.lt).trans hh
theorem Sv.cells (hh : Sv w b v0 v1 v2 v3 v4) : w.cell? ⟨b, 0, none⟩ = some v0 ∧ w.cell? ⟨b, 1, none⟩ = some v1 ∧ w.cell? ⟨b, 2, none⟩ = some v2 ∧ w.cell? ⟨b, 3, none⟩ = some v3 ∧ w.cell? ⟨b, 4, none⟩ = some v4 := by
  have h' : w.heap[b]? = _ := hh
  refine ⟨?_, ?_, ?_, ?_, ?_⟩ <;> simp [World.cell?, h']
theorem Sv.fr (hh : Sv w b v0 v1 v2 v3 v4) : w.frozen? ⟨b, 0, none⟩ = false ∧ w.frozen? ⟨b, 1, none⟩ = false ∧ w.frozen? ⟨b, 2, none⟩ = false ∧ w.frozen? ⟨b, 3, none⟩ = false ∧ w.frozen? ⟨b, 4, none⟩ = false := by
  have h' : w.heap[b]? = _ := hh
  refine ⟨?_, ?_, ?_, ?_, ?_⟩ <;> simp [World.frozen?, h']
theorem Sv.new (w : World) (v0 v1 v2 v3 v4 : Value) : Sv (w.alloc (.cells #[v0, v1, v2, v3, v4] 96)) w.heap.size v0 v1 v2 v3 v4 := World.alloc_heap_new w _
theorem Sv.put (hh : Sv w b v0 v1 v2 v3 v4) (u0 u1 u2 u3 u4 : Value) : Sv (((((w.setCell ⟨b, 0, none⟩ u0).setCell ⟨b, 1, none⟩ u1).setCell ⟨b, 2, none⟩ u2).setCell ⟨b, 3, none⟩ u3).setCell ⟨b, 4, none⟩ u4) b u0 u1 u2 u3 u4 := by
  have h0 : w.heap[b]? = _ := hh
  have h1 := Tr.set_same 0 u0 h0
  have h2 := Tr.set_same 1 u1 h1
  have h3 := Tr.set_same 2 u2 h2
  have h4 := Tr.set_same 3 u3 h3
  have h5 := Tr.set_same 4 u4 h4
  simpa [Sv] using h5
theorem load_sv (hh : Sv w b v0 v1 v2 v3 v4) : (loadVar 96 ⟨b, 0, none⟩).run Try.prog w = .ok (.agg #[v0, v1, v2, v3, v4]) w := by
  obtain ⟨h0, h1, h2, h3, h4⟩ := hh.cells
  simp [go_sem, h0, h1, h2, h3, h4]
end
theorem has_yes (ab sb n k : Nat) (w : World) (hk : k < n) (hn : n ≤ 9223372036854775807) (b0 : w.cell? ⟨ab, 0, none⟩ = some (.slice (some ⟨sb, 0, none⟩) n n)) :
    Calls Try.prog 52 #[.pointer (some ⟨ab, 0, none⟩), .int .i64 k] w fun e w' => e = .returned (.bool true) ∧ w = w' := by
  have h1 : (k : Int) < (n : Int) := by omega
  have h0 : (0 : Int) ≤ (k : Int) := Int.natCast_nonneg _
  go_enter Try.func52, Try.ntmps52
  go_wp2
  go_ret
  refine ⟨?_, rfl⟩
  simp
theorem has_no (ab sb n : Nat) (k : Int) (w : World) (hk : out' n k) (hn : n ≤ 9223372036854775807) (b0 : w.cell? ⟨ab, 0, none⟩ = some (.slice (some ⟨sb, 0, none⟩) n n)) :
    Calls Try.prog 52 #[.pointer (some ⟨ab, 0, none⟩), .int .i64 k] w fun e w' => e = .returned (.bool false) ∧ w = w' := by
  have hk' : k < 0 ∨ (0 ≤ k ∧ (n : Int) ≤ k) := by unfold out' at hk; omega
  clear hk
  rcases hk' with hk | ⟨hk0, hk⟩
  · go_enter Try.func52, Try.ntmps52
    go_wp2
    go_ret
    refine ⟨?_, rfl⟩
    simp
  · have hk2 : ¬ k < (n : Int) := by omega
    go_enter Try.func52, Try.ntmps52
    go_wp2
    go_ret
    refine ⟨?_, rfl⟩
    simp
set_option maxRecDepth 100000 in
set_option maxHeartbeats 1000000 in
theorem at_yesA (ab sb n k : Nat) (p q d : Int) (ka wa : Option Addr) (kn kc wn wc : Nat) (w : World) (hk : k < n) (hn : n ≤ 9223372036854775807) (b0 : w.cell? ⟨ab, 0, none⟩ = some (.slice (some ⟨sb, 0, none⟩) n n))
    (c0 : w.cell? ⟨sb, k * 5, none⟩ = some (.int .u64 p)) (c1 : w.cell? ⟨sb, k * 5 + 1, none⟩ = some (.int .i64 q)) (c2 : w.cell? ⟨sb, k * 5 + 2, none⟩ = some (.int .i64 d)) (c3 : w.cell? ⟨sb, k * 5 + 3, none⟩ = some (.slice ka kn kc)) (c4 : w.cell? ⟨sb, k * 5 + 4, none⟩ = some (.slice wa wn wc)) :
    Calls Try.prog 51 #[.pointer (some ⟨ab, 0, none⟩), .int .i64 k] w fun e w' => e = .returned (.agg #[.int .u64 p, .int .i64 q, .int .i64 d, .slice ka kn kc, .slice wa wn wc]) ∧ Below w.heap.size w w' := by
  have h1 : (k : Int) < (n : Int) := by omega
  have h0 : (0 : Int) ≤ (k : Int) := Int.natCast_nonneg _
  have hb := box1T w (.cells #[.int .u64 0, .int .i64 0, .int .i64 0, .slice none 0 0, .slice none 0 0] 96)
  replace b0 := cell_later hb b0; replace c0 := cell_later hb c0; replace c1 := cell_later hb c1; replace c2 := cell_later hb c2; replace c3 := cell_later hb c3; replace c4 := cell_later hb c4
  have HB := Lib.hid hb
  have HS := Lib.hid (Sv.new w (.int .u64 0) (.int .i64 0) (.int .i64 0) (.slice none 0 0) (.slice none 0 0))
  obtain ⟨W, hW⟩ : ∃ W, w.alloc (.cells #[.int .u64 0, .int .i64 0, .int .i64 0, .slice none 0 0, .slice none 0 0] 96) = W := ⟨_, rfl⟩
  rw [hW] at b0 c0 c1 c2 c3 c4 HB HS
  have HH := Lib.hid (has_yes ab sb n k W hk hn b0)
  clear hb
  obtain ⟨d0, d1, d2, d3, d4⟩ := HS.out.cells
  obtain ⟨f0, f1, f2, f3, f4⟩ := HS.out.fr
  go_enter Try.func51, Try.ntmps51
  go_upto_region 1 with fail
  try rw [hW]
  clear hW
  go_wp2_with (go_at_call 52; refine HH.out.mono ?_; rintro e w1 ⟨rfl, rfl⟩)
  (try simp only [Exit.inBlock, Exit.then])
  refine bodyPost_ret (ret_cell1 rfl _ _ _ _ rfl (load_sv (HS.out.put _ _ _ _ _))) rfl ⟨rfl, ?_⟩
  exact ((((HB.out.setCell (by simp) _).setCell (by simp) _).setCell (by simp) _).setCell (by simp) _).setCell (by simp) _
theorem at_noA (ab sb n : Nat) (k : Int) (w : World) (hk : out' n k) (hn : n ≤ 9223372036854775807) (b0 : w.cell? ⟨ab, 0, none⟩ = some (.slice (some ⟨sb, 0, none⟩) n n)) :
    Calls Try.prog 51 #[.pointer (some ⟨ab, 0, none⟩), .int .i64 k] w fun e w' => e = .returned (.agg #[.int .u64 0, .int .i64 (-1), .int .i64 (-1), .slice none 0 0, .slice none 0 0]) ∧ Below w.heap.size w w' := by
  have hb := box1T w (.cells #[.int .u64 0, .int .i64 0, .int .i64 0, .slice none 0 0, .slice none 0 0] 96)
  replace b0 := cell_later hb b0
  have HB := Lib.hid hb
  have HS := Lib.hid (Sv.new w (.int .u64 0) (.int .i64 0) (.int .i64 0) (.slice none 0 0) (.slice none 0 0))
  obtain ⟨W, hW⟩ : ∃ W, w.alloc (.cells #[.int .u64 0, .int .i64 0, .int .i64 0, .slice none 0 0, .slice none 0 0] 96) = W := ⟨_, rfl⟩
  rw [hW] at b0 HB HS
  have HH := Lib.hid (has_no ab sb n k W hk hn b0)
  obtain ⟨d0, d1, d2, d3, d4⟩ := HS.out.cells
  obtain ⟨f0, f1, f2, f3, f4⟩ := HS.out.fr
  clear hb hk
  go_enter Try.func51, Try.ntmps51
  go_upto_region 1 with fail
  try rw [hW]
  clear hW
  go_wp2_with (go_at_call 52; refine HH.out.mono ?_; rintro e w1 ⟨rfl, rfl⟩)
  (try simp only [Exit.inBlock, Exit.then])
  refine bodyPost_ret (ret_cell1 rfl _ _ _ _ rfl (load_sv (HS.out.put _ _ _ _ _))) rfl ⟨rfl, ?_⟩
  exact ((((HB.out.setCell (by simp) _).setCell (by simp) _).setCell (by simp) _).setCell (by simp) _).setCell (by simp) _
theorem st_field1 (v0 v1 v2 v3 v4 : Value) (W : World) : (Instr.field 96 (.agg #[v0, v1, v2, v3, v4]) 1).run Try.prog W = .ok v1 W := by kernel_rfl
theorem st_field2 (v0 v1 v2 v3 v4 : Value) (W : World) : (Instr.field 96 (.agg #[v0, v1, v2, v3, v4]) 2).run Try.prog W = .ok v2 W := by kernel_rfl
namespace Au
def fallN (n : Nat) (f : Nat → Nd) (k : Int) : Int := if k < 0 ∨ (n : Int) ≤ k then -1 else (f k.toNat).2.1
def linkN (n : Nat) (f : Nat → Nd) (k : Int) : Int := if k < 0 ∨ (n : Int) ≤ k then -1 else (f k.toNat).2.2
def endN (n : Nat) (f : Nat → Nd) (xs : Nat → List Int) (k : Int) : Int := if k < 0 ∨ (n : Int) ≤ k then -1 else if xs (2 * k.toNat + 2) = [] then (f k.toNat).2.2 else k
end Au
section
variable {w : World} {B ab sb n : Nat} {f : Nat → Nd} {rv : Nat → Value} {xs : Nat → List Int}
theorem Au.AuX.len9 (h : AuX w B ab sb n f rv xs) : n ≤ 9223372036854775807 := by
  rcases h.row.2 with ⟨e, _⟩ | ⟨_, _, _, e, _, _, h1, h2, _⟩
  · cases e
  · cases e; unfold maxLen at h2; omega
theorem Au.AuX.at_in (h : AuX w B ab sb n f rv xs) {k : Nat} (hk : k < n) :
    Calls Try.prog 51 #[.pointer (some ⟨ab, 0, none⟩), .int .i64 k] w fun e w' => e = .returned (.agg #[.int .u64 (f k).1, .int .i64 (f k).2.1, .int .i64 (f k).2.2, rv (2 * k + 1), rv (2 * k + 2)]) ∧ Below w.heap.size w w' := by
  obtain ⟨a, c, e1⟩ := h.form (i := 2 * k + 1) (by omega) (by omega)
  obtain ⟨a2, c2, e2⟩ := h.form (i := 2 * k + 2) (by omega) (by omega)
  obtain ⟨h0, h1, h2, h3, h4⟩ := h.cells hk
  rw [e1] at h3
  rw [e2] at h4
  have hc := h.len9
  rw [e1, e2]
  exact at_yesA ab sb n k _ _ _ a a2 _ c _ c2 w hk (by omega) h.boxes h0 h1 h2 h3 h4
theorem fall_au (h : AuX w B ab sb n f rv xs) (k : Int) : Calls Try.prog 36 #[.pointer (some ⟨ab, 0, none⟩), .int .i64 k] w fun e w' => e = .returned (.int .i64 (fallN n f k)) ∧ Below w.heap.size w w' := by
  by_cases hk : out' n k
  · have hc := at_noA ab sb n k w hk h.len9 h.boxes
    have e : fallN n f k = -1 := by unfold fallN; exact if_pos hk
    rw [e]
    clear e hk h
    have hfd := st_field1
    go_enter Try.func36, Try.ntmps36
    go_wp2_with (go_at_call 51; refine hc.mono ?_; rintro e w1 ⟨rfl, hb⟩; have HB := Lib.hid hb; clear hb)
    go_ret
    exact ⟨rfl, HB.out⟩
  · obtain ⟨m, rfl⟩ : ∃ m : Nat, k = (m : Int) := ⟨k.toNat, by unfold out' at hk; omega⟩
    have hm : m < n := by unfold out' at hk; omega
    have hc := h.at_in hm
    have e : fallN n f m = (f m).2.1 := by unfold fallN; rw [if_neg (show ¬ ((m : Int) < 0 ∨ (n : Int) ≤ m) from hk), Int.toNat_natCast]
    rw [e]
    generalize (f m).1 = p at hc
    generalize (f m).2.1 = q at hc ⊢
    generalize (f m).2.2 = p at hc
    generalize rv (2 * m + 1) = v at hc ⊢
    generalize rv (2 * m + 2) = v at hc ⊢
    clear hk h hm e
    have hfd := st_field1
    go_enter Try.func36, Try.ntmps36
    go_wp2_with (go_at_call 51; refine hc.mono ?_; rintro e w1 ⟨rfl, hb⟩; have HB := Lib.hid hb; clear hb)
    go_ret
    exact ⟨rfl, HB.out⟩
theorem link_au (h : AuX w B ab sb n f rv xs) (k : Int) : Calls Try.prog 58 #[.pointer (some ⟨ab, 0, none⟩), .int .i64 k] w fun e w' => e = .returned (.int .i64 (linkN n f k)) ∧ Below w.heap.size w w' := by
  by_cases hk : out' n k
  · have hc := at_noA ab sb n k w hk h.len9 h.boxes
    have e : linkN n f k = -1 := by unfold linkN; exact if_pos hk
    rw [e]
    clear e hk h
    have hfd := st_field2
    go_enter Try.func58, Try.ntmps58
    go_wp2_with (go_at_call 51; refine hc.mono ?_; rintro e w1 ⟨rfl, hb⟩; have HB := Lib.hid hb; clear hb)
    go_ret
    exact ⟨rfl, HB.out⟩
  · obtain ⟨m, rfl⟩ : ∃ m : Nat, k = (m : Int) := ⟨k.toNat, by unfold out' at hk; omega⟩
    have hm : m < n := by unfold out' at hk; omega
    have hc := h.at_in hm
    have e : linkN n f m = (f m).2.2 := by unfold linkN; rw [if_neg (show ¬ ((m : Int) < 0 ∨ (n : Int) ≤ m) from hk), Int.toNat_natCast]
    rw [e]
    generalize (f m).1 = p at hc
    generalize (f m).2.1 = q at hc
    generalize (f m).2.2 = p at hc ⊢
    generalize rv (2 * m + 1) = v at hc ⊢
    generalize rv (2 * m + 2) = v at hc ⊢
    clear hk h hm e
    have hfd := st_field2
    go_enter Try.func58, Try.ntmps58
    go_wp2_with (go_at_call 51; refine hc.mono ?_; rintro e w1 ⟨rfl, hb⟩; have HB := Lib.hid hb; clear hb)
    go_ret
    exact ⟨rfl, HB.out⟩
set_option maxRecDepth 100000 in
set_option maxHeartbeats 1000000 in
theorem end_au (h : AuX w B ab sb n f rv xs) (k : Int) : Calls Try.prog 57 #[.pointer (some ⟨ab, 0, none⟩), .int .i64 k] w fun e w' => e = .returned (.int .i64 (endN n f xs k)) ∧ Below w.heap.size w w' := by
  by_cases hk : out' n k
  · have hc := at_noA ab sb n k w hk h.len9 h.boxes
    have e : endN n f xs k = -1 := by unfold endN; exact if_pos hk
    rw [e]
    clear e hk h
    go_enter Try.func57, Try.ntmps57
    go_upto_region 2 with (go_at_call 51; refine hc.mono ?_; rintro e w1 ⟨rfl, hb⟩; have HB := Lib.hid hb; clear hb)
    go_wp2
    go_ret
    exact ⟨rfl, bel_step HB.out (by go_grown)⟩
  · obtain ⟨m, rfl⟩ : ∃ m : Nat, k = (m : Int) := ⟨k.toNat, by unfold out' at hk; omega⟩
    have hm : m < n := by unfold out' at hk; omega
    have hc := h.at_in hm
    obtain ⟨a1, c1, e1⟩ := h.form (i := 2 * m + 1) (by omega) (by omega)
    obtain ⟨a2, c2, e2⟩ := h.form (i := 2 * m + 2) (by omega) (by omega)
    rw [e1, e2] at hc
    have e : endN n f xs m = if xs (2 * m + 2) = [] then (f m).2.2 else m := by unfold endN; rw [if_neg (show ¬ ((m : Int) < 0 ∨ (n : Int) ≤ m) from hk), Int.toNat_natCast]
    rw [e]
    generalize (f m).1 = p at hc
    generalize (f m).2.1 = q at hc
    generalize (f m).2.2 = u at hc ⊢
    generalize (xs (2 * m + 1)).length = z1 at hc
    by_cases hx : xs (2 * m + 2) = []
    · rw [if_pos hx]
      rw [hx, List.length_nil] at hc
      clear hk h hm e e1 e2 hx
      go_enter Try.func57, Try.ntmps57
      go_upto_region 2 with (go_at_call 51; refine hc.mono ?_; rintro e w1 ⟨rfl, hb⟩; have HB := Lib.hid hb; clear hb)
      go_wp2
      go_ret
      exact ⟨rfl, bel_step HB.out (by go_grown)⟩
    · rw [if_neg hx]
      have hl : 0 < (xs (2 * m + 2)).length := List.length_pos_iff.2 hx
      generalize (xs (2 * m + 2)).length = z at hc hl
      have hlI : (0 : Int) < (z : Int) := by omega
      clear hk h hm e e1 e2 hx hl
      go_enter Try.func57, Try.ntmps57
      go_upto_region 2 with (go_at_call 51; refine hc.mono ?_; rintro e w1 ⟨rfl, hb⟩; have HB := Lib.hid hb; clear hb)
      go_wp2
      go_ret
      exact ⟨rfl, bel_step HB.out (by go_grown)⟩
end
end Go.Proofs.Ytpkikhoicobmcaa

/- The state behind a number, looked for fall by fall, among children by halves. Condition: an automaton whose falls are right as far as it is deep. -/
namespace Go.Proofs.Ytpkikhoicobmcaa
open Go.RowKit
set_option linter.unusedVariables false
open Tr Au
namespace Au
/-- what stands in a state's rows -/
def dat (L W : LL) (i : Nat) : List Int := data L W i
theorem child_far {L : LL} (hI : Inv L) {j : Nat} (hj : j < L.length) {p : Int} (h : ∀ i, i < (kids L j).length → ((kids L j).map (num L)).getD i 0 ≠ p) : childV L j p = -1 := by
  refine child_none hI hj ?_
  have hpl := place_le ((kids L j).map (num L)) p
  rw [List.length_map] at hpl
  by_cases e : place ((kids L j).map (num L)) p = (kids L j).length
  · exact .inl e
  · right
    have := h (place ((kids L j).map (num L)) p) (by omega)
    rwa [gD (by rw [List.length_map]; omega), List.getElem_map, ← gD (d := 0)] at this
theorem ints_len2 (l : List Nat) : (ints l).length = l.length := by simp [ints]
def depM (L : LL) (z : Int) : Nat := if z < 0 then 0 else dep L z.toNat + 1
theorem depM_nat (L : LL) (j : Nat) : depM L j = dep L j + 1 := by unfold depM; rw [if_neg (by omega), Int.toNat_natCast]
theorem depM_neg (L : LL) : depM L (-1) = 0 := rfl
/-- its numbers are the tree's, its children too -/
structure Kd (L : LL) (n : Nat) (f : Nat → Nd) (xs : Nat → List Int) : Prop where
  len : n = L.length
  num : ∀ k, k < n → (f k).1 = num L k
  kids : ∀ k, k < n → xs (2 * k + 1) = ints (kids L k)
end Au
set_option maxRecDepth 100000 in
set_option maxHeartbeats 2000000 in
theorem behind_none {w : World} (ab : Nat) (p : Int) : Calls Try.prog 53 #[.pointer (some ⟨ab, 0, none⟩), .int .i64 (-1), .int .u64 p] w fun e w' => e = .returned (.int .i64 0) ∧ Below w.heap.size w w' := by
  go_enter Try.func53, Try.ntmps53
  go_wp2
  go_step3
  go_wp2
  go_step3
  go_wp2
  refine wp_loop_rounds 1 ?_
  rw [rounds_succ]
  go_wp2
  rw [Exit.noGoto_ret]
  go_ret
  exact ⟨rfl, Below.refl _ _⟩
set_option maxRecDepth 100000 in
set_option maxHeartbeats 2000000 in
theorem behind_au {w : World} {B ab sb n : Nat} {f : Nat → Nd} {rv : Nat → Value} {xs : Nat → List Int} {L : LL} (h : AuX w B ab sb n f rv xs) (hI : Inv L) (hK : Kd L n f xs) (k : Nat) (hk : k < n) (hf : ∀ i, i < n → dep L i ≤ dep L k → (f i).2.1 = fallV L i) (p : Int) :
    Calls Try.prog 53 #[.pointer (some ⟨ab, 0, none⟩), .int .i64 k, .int .u64 p] w fun e w' => e = .returned (.int .i64 (nextV L k p)) ∧ Below w.heap.size w w' := by
  have HI := Lib.hid hI
  have HA := Lib.hid h
  have HK := Lib.hid hK
  have HF := Lib.hid hf
  have HNL := Lib.hid hK.len
  have hn9 := h.len9
  obtain ⟨T, hT⟩ : ∃ T, nextV L k p = T := ⟨_, rfl⟩
  rw [hT]
  have HT := Lib.hid hT
  clear h hI hK hf hT
  go_enter Try.func53, Try.ntmps53
  go_wp2
  go_step3
  go_wp2
  go_step3
  go_wp2
  go_loopw [1, 7] (fun s1 s7 wr => s7 = .int .i64 0 ∧ Below w.heap.size w wr ∧ ((s1 = .int .i64 (-1) ∧ T = 0) ∨ ∃ j : Nat, s1 = .int .i64 j ∧ j < n ∧ dep L j ≤ dep L k ∧ nextV L j p = T)) (fun s1 _ _ => depM L (intOf s1))
  case atStart => exact ⟨rfl, Below.refl _ _, .inr ⟨k, rfl, hk, Nat.le_refl _, HT.out⟩⟩
  case round =>
    obtain ⟨rfl, hb, hrel⟩ := hrel
    rcases hrel with ⟨rfl, hT0⟩ | ⟨j, rfl, hj, hd, hnx⟩
    · have HT0 := Lib.hid hT0
      have HBr := Lib.hid hb
      clear hT0 hb
      go_wp2
      rw [Exit.noGoto_ret]
      go_ret
      exact ⟨congrArg (fun z : Int => Ending.returned (.int .i64 z)) HT0.out.symm, HBr.out⟩
    · have hA := HA.out.later hb
      have HBr := Lib.hid hb
      have b0 := hA.boxes
      obtain ⟨c0, c1, c2, c3, c4⟩ := hA.cells hj
      obtain ⟨a, c, ev⟩ := hA.form (i := 2 * j + 1) (by omega) (by omega)
      have hrow := hA.rows (2 * j + 1) (by omega) (by omega)
      have hjL : j < L.length := by rw [← HNL.out]; exact hj
      rw [HK.out.kids j hj] at ev hrow
      rw [ints_len2] at ev hrow
      rw [HF.out j hj hd] at c1
      rw [ev] at c3 hrow
      have HC : Hid (∀ i, i < (kids L j).length → ∃ g, a = some ⟨g, 0, none⟩ ∧ wr.cell? ⟨g, i, none⟩ = some (.int .i64 ((kids L j).getD i 0 : Nat))) := Lib.hid fun i hi => by
        obtain ⟨g, c', ev', _, _⟩ := hrow.form (by omega)
        injection ev' with e1 e2 e3
        rw [e1] at hrow
        refine ⟨g, e1, ?_⟩
        rw [ints_cell hrow hi, gD (by rw [ints_len2]; exact hi), gD hi]
        simp [Au.ints]
      have HM : Hid (∀ i, i < (kids L j).length → (kids L j).getD i 0 < n) := Lib.hid fun i hi => by rw [HNL.out]; exact (kids_mem.1 (gD_mem (d := 0) hi)).1
      have HZN : Hid (∀ i, i < (kids L j).length → ((kids L j).map (num L)).getD i 0 = num L ((kids L j).getD i 0)) := Lib.hid fun i hi => by
        rw [gD (by simpa using hi), gD hi, List.getElem_map]
      have HR := Lib.hid (kids_ris L j)
      have hnk9 : (kids L j).length ≤ 9223372036854775807 := by have := kids_len L j; have := HNL.out; omega
      have HHIT := Lib.hid (fun (q : Nat) (hq : q < (kids L j).length) (e : num L ((kids L j).getD q 0) = p) => child_hit HI.out hjL hq e)
      have HFAR := Lib.hid (child_far HI.out hjL (p := p))
      have HCH := Lib.hid (next_child hjL (p := p))
      have HJ := Lib.hid (show j = 0 ∨ 1 ≤ j by omega)
      have HNX := Lib.hid hnx
      have HDJ := Lib.hid hd
      have HNUM : Hid (∀ i, i < n → wr.cell? ⟨sb, i * 5, none⟩ = some (.int .u64 (num L i))) := Lib.hid fun i hi => by rw [(hA.cells hi).1, HK.out.num i hi]
      have HLn : Hid (((kids L j).map (num L)).length = (kids L j).length) := Lib.hid (by simp)
      have hjI : (j : Int) < (n : Int) := by omega
      have hj0 : (0 : Int) ≤ (j : Int) := Int.natCast_nonneg _
      have hne : ((j : Int) != -1) = true := by rw [bne_iff_ne]; omega
      generalize kids L j = K at *
      obtain ⟨m, hm⟩ : ∃ m, K.length = m := ⟨_, rfl⟩
      obtain ⟨Z, hZ⟩ : ∃ Z, K.map (num L) = Z := ⟨_, rfl⟩
      rw [hm] at HC HM HZN hnk9 HHIT HFAR HLn ev c3
      rw [hZ] at HZN HR HFAR HLn
      clear hb hA c0 c2 c4 ev hrow hnx hd hm hZ hk
      go_wp2
      go_loopw [7, 9, 10] (fun s7 s9 s10 wx => s7 = .int .i64 0 ∧ ∃ x y : Nat, x ≤ y ∧ y ≤ m ∧ s9 = .int .i64 x ∧ s10 = .int .i64 y ∧ Below wr.heap.size wr wx ∧ (∀ i, i < x → Z.getD i 0 < p) ∧ (∀ i, y ≤ i → i < m → p < Z.getD i 0)) (fun _ s9 s10 _ => (intOf s10).toNat - (intOf s9).toNat)
      case atStart => exact ⟨rfl, 0, m, Nat.zero_le _, Nat.le_refl _, rfl, rfl, Below.refl _ _, fun i hi => by omega, fun i h1 h2 => by omega⟩
      case round =>
        obtain ⟨rfl, x, y, hxy, hyn, rfl, rfl, hbx, hlo, hhi⟩ := hrel
        have HLO := Lib.hid hlo
        have HHI := Lib.hid hhi
        have HBX := Lib.hid hbx
        by_cases hlt : x < y
        · obtain ⟨q, hq⟩ : ∃ q, (y - x) / 2 = q := ⟨_, rfl⟩
          have hq1 : x + q < y := by omega
          have hq2 : ((y : Int) - (x : Int)) / 2 = (q : Int) := by omega
          have hltI : (x : Int) < (y : Int) := by omega
          have hx0 : (0 : Int) ≤ (x : Int) := Int.natCast_nonneg _
          have hq0 : (0 : Int) ≤ (q : Int) := Int.natCast_nonneg _
          have hqn : x + q < m := by omega
          have hmI : (x : Int) + (q : Int) < (m : Int) := by omega
          have hyI : (y : Int) ≤ (m : Int) := by omega
          obtain ⟨g, ea, hcell⟩ := HC.out (x + q) hqn
          have hk9 := HM.out (x + q) hqn
          have hz := HZN.out (x + q) hqn
          have hit := HHIT.out (x + q) hqn
          obtain ⟨i9, hi9⟩ : ∃ i, K.getD (x + q) 0 = i := ⟨_, rfl⟩
          rw [hi9] at hcell hk9 hz hit
          have hc9 := HNUM.out i9 hk9
          have hi9I : (i9 : Int) < (n : Int) := by omega
          have hi90 : (0 : Int) ≤ (i9 : Int) := Int.natCast_nonneg _
          have HZ9 := Lib.hid hz
          have HIT := Lib.hid hit
          obtain ⟨u, hu⟩ : ∃ u, num L i9 = u := ⟨_, rfl⟩
          rw [hu] at HZ9 HIT hc9
          replace hcell := cell_later hbx hcell
          replace hc9 := cell_later hbx hc9
          have b0x := cell_later hbx b0
          clear hlo hhi hbx hq hz hi9 hu hit c1 c3 b0
          subst ea
          rcases Int.lt_trichotomy u p with hup | hup | hup
          · have d1 : decide (u < p) = true := decide_eq_true hup
            have HUP := Lib.hid hup
            clear hup
            go_wp2
            go_region
            go_wp2
            go_roundw
            case rel =>
              refine ⟨rfl, x + q + 1, y, by omega, hyn, by go_num, rfl, HBX.out.trans (Below.refl _ _).drew, fun i hi => ?_, HHI.out⟩
              have g1 := ris_get HR.out (i := i) (j := x + q) (by omega) (by rw [HLn.out]; exact hqn)
              have g2 := HUP.out
              rw [HZ9.out] at g1
              omega
            case measure => simp [intOf]; omega
          · have d1 : decide (u < p) = false := decide_eq_false (by omega)
            have d2 : decide (p < u) = false := decide_eq_false (by omega)
            have hcv := HIT.out hup
            have hne2 : childV L j p ≠ -1 := by rw [hcv]; omega
            have HTV : Hid (T = (i9 : Int)) := Lib.hid (by rw [← HNX.out, HCH.out hne2, hcv])
            clear hup hcv hne2
            go_wp2
            go_region
            go_wp2
            rw [Exit.noGoto_ret]
            go_ret
            exact ⟨congrArg (fun z : Int => Ending.returned (.int .i64 z)) HTV.out.symm, bel_step HBr.out (HBX.out.trans (Below.refl _ _).drew)⟩
          · have d1 : decide (u < p) = false := decide_eq_false (by omega)
            have d2 : decide (p < u) = true := decide_eq_true hup
            have HUP := Lib.hid hup
            clear hup
            go_wp2
            go_region
            go_wp2
            go_roundw
            case rel =>
              refine ⟨rfl, x, x + q, by omega, by omega, rfl, by go_num, HBX.out.trans (Below.refl _ _).drew, HLO.out, fun i h1 h2 => ?_⟩
              have g1 := ris_get HR.out (i := x + q) (j := i) h1 (by rw [HLn.out]; exact h2)
              have g2 := HUP.out
              rw [HZ9.out] at g1
              omega
            case measure => simp [intOf]; omega
        · obtain rfl : x = y := by omega
          have hltI : ¬ (x : Int) < (x : Int) := by omega
          have hcv : childV L j p = -1 := HFAR.out fun i hi => by
            rcases Nat.lt_or_ge i x with h1 | h1
            · have := hlo i h1; omega
            · have := hhi i h1 hi; omega
          have HCV := Lib.hid hcv
          have c1x := cell_later hbx c1
          have b0x := cell_later hbx b0
          clear hlo hhi hbx hcv c1 b0
          obtain ⟨v, hv⟩ : ∃ v, fallV L j = v := ⟨_, rfl⟩
          rw [hv] at c1x
          have HV := Lib.hid hv
          clear hv
          go_wp2
          go_roundw
          case rel =>
            refine ⟨rfl, bel_step HBr.out HBX.out, ?_⟩
            rcases HJ.out with e | e
            · subst e
              left
              have e1 := HV.out
              have e2 := HNX.out
              rw [Int.natCast_zero, fall_zero] at e1
              rw [next_root HI.out HCV.out] at e2
              exact ⟨by rw [← e1], e2.symm⟩
            · right
              have e1 := HV.out
              rw [fall_at e hjL] at e1
              refine ⟨deep L (L.getD j []).tail, by rw [← e1], by rw [HNL.out]; exact deep_lt HI.out _, ?_, ?_⟩
              · have := fall_less HI.out e hjL
                have := HDJ.out
                unfold dep at *
                omega
              · rw [← next_fall HI.out e hjL HCV.out]; exact HNX.out
          case measure =>
            show depM L v < depM L (j : Int)
            rw [← HV.out, depM_nat]
            rcases HJ.out with e | e
            · subst e
              rw [Int.natCast_zero, fall_zero, depM_neg]; omega
            · rw [fall_at e hjL, depM_nat]
              have := fall_less HI.out e hjL
              unfold dep
              omega
end Go.Proofs.Ytpkikhoicobmcaa

/- cmp.Compare of integers, laid for this program. No condition. -/
namespace Go.Proofs.Ytpkikhoicobmcaa
open Go.Shelf
def Ly.cmpC_ren : Go.Shelf.Ren := ⟨fun | 5 => 100 | 7 => 85 | n => n, fun | 22 => 3 | 3 => 3 | 4 => 4 | n => n, fun | n => n⟩
theorem Ly.cmpC : Go.Proofs.SlLaysC2.n5 Try.prog Ly.cmpC_ren := {
  mixed := by kernel_rfl
  f5 := ⟨Try.f100.name, by decide, Try.func100.trans (congrArg some (by kernel_rfl))⟩
  f7 := ⟨Try.f85.name, by decide, Try.func85.trans (congrArg some (by kernel_rfl))⟩
  t3 := Try.underlying3
  a3 := Try.isAgg3
  z3 := Try.sizeOf3
  v3 := Try.zeroValue3
  t4 := Try.underlying4
  a4 := Try.isAgg4
  z4 := Try.sizeOf4
  v4 := Try.zeroValue4
  t22 := Try.underlying3
  a22 := Try.isAgg3
  z22 := Try.sizeOf3
  v22 := Try.zeroValue3 }
end Go.Proofs.Ytpkikhoicobmcaa

/- A tree's nodes, sorted by their depth: the comparer of byDepth. Condition: a tree that stands. -/
namespace Go.Proofs.Ytpkikhoicobmcaa
open Go.RowKit Go.Shelf
set_option linter.unusedVariables false
open Tr
/-- what lay lies on, and no fewer draws were taken -/
structure Bd (w w' : World) : Prop where
  bel : Below w.heap.size w w'
  dr : w.drawn ≤ w'.drawn
theorem Bd.refl (w : World) : Bd w w := ⟨Below.refl _ _, Nat.le_refl _⟩
theorem Bd.trans {a b c : World} (h : Bd a b) (k : Bd b c) : Bd a c := ⟨bel_step h.bel k.bel, Nat.le_trans h.dr k.dr⟩
theorem Bd.drew1 (w : World) : Bd w w.drew := ⟨(Below.refl _ _).drew, by show w.drawn ≤ w.drawn + 1; omega⟩
theorem Bd.alloc1 (w : World) (o : Obj) : Bd w (w.alloc o) := ⟨(Below.refl _ _).alloc (Nat.le_refl _) _, Nat.le_refl _⟩
theorem Bd.set {w w' : World} (h : Bd w w') {b i : Nat} (hb : w.heap.size ≤ b) (v : Value) : Bd w (w'.setCell ⟨b, i, none⟩ v) := ⟨h.bel.setCell (by simpa using hb) _, h.dr⟩
theorem Bd.grown {w w' : World} (h : Bd w w') : ∃ q os, w' = Go.Sort.grow (w.drewN q) os := by
  refine ⟨w'.drawn - w.drawn, w'.heap.extract w.heap.size w'.heap.size, ?_⟩
  have hh : w'.heap = w.heap ++ w'.heap.extract w.heap.size w'.heap.size := by
    apply Array.ext_getElem?
    intro k
    rw [Array.getElem?_append]
    by_cases hk : k < w.heap.size
    · rw [if_pos hk]; exact h.bel.block k hk
    · rw [if_neg hk]
      simp only [Array.getElem?_extract]
      by_cases hk' : k < w'.heap.size
      · rw [if_pos (by omega), show w.heap.size + (k - w.heap.size) = k by omega]
      · rw [if_neg (by omega), Array.getElem?_eq_none (by omega)]
  have h1 := h.bel.os
  have h2 := h.bel.tape
  have h3 := h.bel.output
  have h4 := h.dr
  cases w with
  | mk a1 a2 a3 a4 a5 =>
    cases w' with
    | mk b1 b2 b3 b4 b5 =>
      simp only at h1 h2 h3 h4 hh
      subst h1 h2 h3
      unfold Go.Sort.grow World.drewN
      simp only [World.mk.injEq, and_true, true_and]
      exact ⟨hh, by omega⟩
set_option maxRecDepth 100000 in
set_option maxHeartbeats 1000000 in
theorem at_yesD (tb nb n nc k : Nat) (p q d : Int) (ka wa : Option Addr) (kn kc wn wc : Nat) (w : World) (hk : k < n) (hn : n ≤ 9223372036854775807) (b0 : w.cell? ⟨tb, 0, none⟩ = some (.slice (some ⟨nb, 0, none⟩) n nc))
    (c0 : w.cell? ⟨nb, k * 5, none⟩ = some (.int .u64 p)) (c1 : w.cell? ⟨nb, k * 5 + 1, none⟩ = some (.int .i64 q)) (c2 : w.cell? ⟨nb, k * 5 + 2, none⟩ = some (.int .i64 d)) (c3 : w.cell? ⟨nb, k * 5 + 3, none⟩ = some (.slice ka kn kc)) (c4 : w.cell? ⟨nb, k * 5 + 4, none⟩ = some (.slice wa wn wc)) :
    Calls Try.prog 50 #[.pointer (some ⟨tb, 0, none⟩), .int .i64 k] w fun e w' => e = .returned (.agg #[.int .u64 p, .int .i64 q, .int .i64 d, .slice ka kn kc, .slice wa wn wc]) ∧ Bd w w' := by
  have h1 : (k : Int) < (n : Int) := by omega
  have h0 : (0 : Int) ≤ (k : Int) := Int.natCast_nonneg _
  have hb := box1T w (.cells #[.int .u64 0, .int .i64 0, .int .i64 0, .slice none 0 0, .slice none 0 0] 93)
  replace b0 := cell_later hb b0; replace c0 := cell_later hb c0; replace c1 := cell_later hb c1; replace c2 := cell_later hb c2; replace c3 := cell_later hb c3; replace c4 := cell_later hb c4
  have HB := Lib.hid (Bd.alloc1 w (.cells #[.int .u64 0, .int .i64 0, .int .i64 0, .slice none 0 0, .slice none 0 0] 93))
  have HS := Lib.hid (Nv.new w (.int .u64 0) (.int .i64 0) (.int .i64 0) (.slice none 0 0) (.slice none 0 0))
  obtain ⟨W, hW⟩ : ∃ W, w.alloc (.cells #[.int .u64 0, .int .i64 0, .int .i64 0, .slice none 0 0, .slice none 0 0] 93) = W := ⟨_, rfl⟩
  rw [hW] at b0 c0 c1 c2 c3 c4 HB HS
  clear hb
  obtain ⟨d0, d1, d2, d3, d4⟩ := HS.out.cells
  obtain ⟨f0, f1, f2, f3, f4⟩ := HS.out.fr
  go_enter Try.func50, Try.ntmps50
  go_upto_region 1 with fail
  try rw [hW]
  clear hW
  go_wp2
  (try simp only [Exit.inBlock, Exit.then])
  refine bodyPost_ret (ret_cell1 rfl _ _ _ _ rfl (load_nd (HS.out.put _ _ _ _ _))) rfl ⟨rfl, ?_⟩
  exact ((((HB.out.set (Nat.le_refl _) _).set (Nat.le_refl _) _).set (Nat.le_refl _) _).set (Nat.le_refl _) _).set (Nat.le_refl _) _
theorem at_noD (tb nb n nc : Nat) (k : Int) (w : World) (hk : out' n k) (hn : n ≤ 9223372036854775807) (b0 : w.cell? ⟨tb, 0, none⟩ = some (.slice (some ⟨nb, 0, none⟩) n nc)) :
    Calls Try.prog 50 #[.pointer (some ⟨tb, 0, none⟩), .int .i64 k] w fun e w' => e = .returned (.agg #[.int .u64 0, .int .i64 (-1), .int .i64 (-1), .slice none 0 0, .slice none 0 0]) ∧ Bd w w' := by
  have hb := box1T w (.cells #[.int .u64 0, .int .i64 0, .int .i64 0, .slice none 0 0, .slice none 0 0] 93)
  replace b0 := cell_later hb b0
  have HB := Lib.hid (Bd.alloc1 w (.cells #[.int .u64 0, .int .i64 0, .int .i64 0, .slice none 0 0, .slice none 0 0] 93))
  have HS := Lib.hid (Nv.new w (.int .u64 0) (.int .i64 0) (.int .i64 0) (.slice none 0 0) (.slice none 0 0))
  obtain ⟨W, hW⟩ : ∃ W, w.alloc (.cells #[.int .u64 0, .int .i64 0, .int .i64 0, .slice none 0 0, .slice none 0 0] 93) = W := ⟨_, rfl⟩
  rw [hW] at b0 HB HS
  obtain ⟨d0, d1, d2, d3, d4⟩ := HS.out.cells
  obtain ⟨f0, f1, f2, f3, f4⟩ := HS.out.fr
  have hk' : k < 0 ∨ (0 ≤ k ∧ (n : Int) ≤ k) := by unfold out' at hk; omega
  clear hb hk
  rcases hk' with hk | ⟨hk0, hk⟩
  all_goals
    go_enter Try.func50, Try.ntmps50
    go_upto_region 1 with fail
    try rw [hW]
    clear hW
    go_wp2
    (try simp only [Exit.inBlock, Exit.then])
    refine bodyPost_ret (ret_cell1 rfl _ _ _ _ rfl (load_nd (HS.out.put _ _ _ _ _))) rfl ⟨rfl, ?_⟩
    exact ((((HB.out.set (Nat.le_refl _) _).set (Nat.le_refl _) _).set (Nat.le_refl _) _).set (Nat.le_refl _) _).set (Nat.le_refl _) _
theorem TrP.at_inD {w : World} {B tb nb nc : Nat} {rv : Nat → Value} {L W : LL} (h : TrP w B tb nb nc rv L W) {k : Nat} (hk : k < L.length) :
    Calls Try.prog 50 #[.pointer (some ⟨tb, 0, none⟩), .int .i64 k] w fun e w' => e = .returned (.agg #[.int .u64 (num L k), .int .i64 (parV L k), .int .i64 (depV L k), rv (2 * k + 1), rv (2 * k + 2)]) ∧ Bd w w' := by
  obtain ⟨a, c, e1⟩ := h.form (i := 2 * k + 1) (by omega)
  obtain ⟨a2, c2, e2⟩ := h.form (i := 2 * k + 2) (by omega)
  obtain ⟨h0, h1, h2, h3, h4⟩ := TrX.cells h hk
  rw [e1] at h3
  rw [e2] at h4
  have hc := h.len9
  rw [e1, e2]
  exact at_yesD tb nb L.length nc k _ _ _ a a2 _ c _ c2 w hk (by omega) (TrX.boxes h).1 h0 h1 h2 h3 h4
theorem TrP.at_outD {w : World} {B tb nb nc : Nat} {rv : Nat → Value} {L W : LL} (h : TrP w B tb nb nc rv L W) {k : Int} (hk : out L k) :
    Calls Try.prog 50 #[.pointer (some ⟨tb, 0, none⟩), .int .i64 k] w fun e w' => e = .returned (.agg #[.int .u64 0, .int .i64 (-1), .int .i64 (-1), .slice none 0 0, .slice none 0 0]) ∧ Bd w w' :=
  at_noD tb nb L.length nc k w hk h.len9 (TrX.boxes h).1
theorem depth_trD {w : World} {B tb nb nc : Nat} {rv : Nat → Value} {L W : LL} (h : TrP w B tb nb nc rv L W) (k : Int) : Calls Try.prog 35 #[.pointer (some ⟨tb, 0, none⟩), .int .i64 k] w fun e w' => e = .returned (.int .i64 (depV L k)) ∧ Bd w w' := by
  by_cases hk : out L k
  · have hc := h.at_outD hk
    have e : depV L k = -1 := by unfold depV; rw [if_pos hk]
    rw [e]
    clear e hk h
    have hfd := nd_field2
    go_enter Try.func35, Try.ntmps35
    go_wp2_with (go_at_call 50; refine hc.mono ?_; rintro e w1 ⟨rfl, hb⟩; have HB := Lib.hid hb; clear hb)
    go_ret
    exact ⟨rfl, HB.out⟩
  · obtain ⟨n, rfl⟩ : ∃ n : Nat, k = (n : Int) := ⟨k.toNat, by omega⟩
    have hn : n < L.length := by omega
    have hc := h.at_inD hn
    generalize parV L n = p at hc ⊢
    generalize num L n = p at hc ⊢
    generalize depV L n = p at hc ⊢
    generalize rv (2 * n + 1) = v at hc ⊢
    generalize rv (2 * n + 2) = v at hc ⊢
    clear hk h hn
    have hfd := nd_field2
    go_enter Try.func35, Try.ntmps35
    go_wp2_with (go_at_call 50; refine hc.mono ?_; rintro e w1 ⟨rfl, hb⟩; have HB := Lib.hid hb; clear hb)
    go_ret
    exact ⟨rfl, HB.out⟩
theorem compare_any (x y : Int) (w : World) : Calls Try.prog 100 #[.int .i64 x, .int .i64 y] w fun e w' => e = .returned (.int .i64 (Lib.compareInt x y)) ∧ w' = w :=
  AnyG.cmp_Compare_int Ly.cmpC x y w
theorem or_two {ad : Option Addr} {g : Nat} (x y : Int) (w : World) (hg : ad = some ⟨g, 0, none⟩) (c0 : w.cell? ⟨g, 0, none⟩ = some (.int .i64 x)) (c1 : w.cell? ⟨g, 1, none⟩ = some (.int .i64 y)) :
    Calls Try.prog 99 #[.slice ad 2 2] w fun e w' => e = .returned (.int .i64 (Au.orV x y)) ∧ w' = w := by
  subst hg
  by_cases h : x = 0
  · have hx : (x != 0) = false := by simpa using h
    have e1 : Au.orV x y = y := by unfold Au.orV; rw [if_neg (by simpa using h)]
    rw [e1]
    clear e1 h
    by_cases hy : y = 0
    · have hy' : (y != 0) = false := by simpa using hy
      have HY := Lib.hid hy
      clear hy
      go_enter Try.func99, Try.ntmps99
      go_wp2
      refine wp_loop_rounds 3 ?_
      rw [rounds_succ]
      go_wp2
      rw [rounds_succ]
      go_wp2
      rw [rounds_succ]
      go_wp2
      go_ret
      exact ⟨congrArg (fun z : Int => Ending.returned (.int .i64 z)) HY.out.symm, rfl⟩
    · have hy' : (y != 0) = true := by simpa using hy
      clear hy
      go_enter Try.func99, Try.ntmps99
      go_wp2
      refine wp_loop_rounds 3 ?_
      rw [rounds_succ]
      go_wp2
      rw [rounds_succ]
      go_wp2
      go_ret
      exact ⟨rfl, rfl⟩
  · have hx : (x != 0) = true := by simpa using h
    have e1 : Au.orV x y = x := by unfold Au.orV; rw [if_pos h]
    rw [e1]
    clear e1 h
    go_enter Try.func99, Try.ntmps99
    go_wp2
    refine wp_loop_rounds 3 ?_
    rw [rounds_succ]
    go_wp2
    go_ret
    exact ⟨rfl, rfl⟩
set_option maxRecDepth 100000 in
set_option maxHeartbeats 1000000 in
theorem byCmp_tr {w : World} {B tb nb nc p : Nat} {rv : Nat → Value} {L W : LL} (h : TrP w B tb nb nc rv L W) (cp : w.cell? ⟨p, 0, none⟩ = some (.pointer (some ⟨tb, 0, none⟩))) (a b : Int) :
    Calls Try.prog 98 #[.int .i64 a, .int .i64 b, .pointer (some ⟨p, 0, none⟩)] w fun e w' => e = .returned (.int .i64 (Au.cmpV L a b)) ∧ Bd w w' := by
  have HDa := Lib.hid (fun W' (hb : Bd w W') => depth_trD (h.later hb.bel) a)
  have HDb := Lib.hid (fun W' (hb : Bd w W') => depth_trD (h.later hb.bel) b)
  have HX := Lib.hid (fun W' (hb : Bd w W') => cell_later hb.bel cp)
  have hBt := Bd.drew1 w
  obtain ⟨u, hu⟩ : ∃ u, depV L a = u := ⟨_, rfl⟩
  obtain ⟨v, hv⟩ : ∃ v, depV L b = v := ⟨_, rfl⟩
  have HV : Hid (Au.cmpV L a b = Au.orV (Lib.compareInt u v) (Lib.compareInt a b)) := Lib.hid (by unfold Au.cmpV; rw [hu, hv])
  rw [hu] at HDa
  rw [hv] at HDb
  obtain ⟨ox, hx⟩ : ∃ x, Lib.compareInt u v = x := ⟨_, rfl⟩
  obtain ⟨oy, hy⟩ : ∃ y, Lib.compareInt a b = y := ⟨_, rfl⟩
  have HC1 := Lib.hid (compare_any u v)
  have HC2 := Lib.hid (compare_any a b)
  rw [hx] at HC1 HV
  rw [hy] at HC2 HV
  rw [HV.out]
  clear h hu hv hx hy
  go_enter Try.func98, Try.ntmps98
  go_upto_region 1 with fail
  go_region_law (first
    | (go_simp; go_at_call 35; (first | (with_reducible refine (HDa.out _ hBt).mono ?_) | (with_reducible refine (HDb.out _ hBt).mono ?_)); rintro e y ⟨rfl, hb⟩; replace hBt := hBt.trans hb; have cy := HX.out _ hBt; clear hb)
    | (go_simp; go_at_call 100; (first | (with_reducible refine (HC1.out _).mono ?_) | (with_reducible refine (HC2.out _).mono ?_)); rintro e y ⟨rfl, rfl⟩)
    | (go_simp; go_at_call 99; refine (or_two ox oy _ rfl (by simp [go_sem]) (by simp [go_sem])).mono ?_; rintro e y ⟨rfl, rfl⟩))
  all_goals
    go_wp2
    go_ret
    exact ⟨rfl, hBt.trans (Bd.alloc1 _ _)⟩
end Go.Proofs.Ytpkikhoicobmcaa

/- slices.SortFunc of integers, laid for this program. No condition. -/
namespace Go.Proofs.Ytpkikhoicobmcaa
open Go.Shelf Go.RowKit
def Ly.sortF_ren : Go.Shelf.Ren := ⟨fun | 6 => 97 | 15 => 47 | 14 => 102 | 28 => 70 | 29 => 71 | 20 => 103 | 21 => 104 | 22 => 105 | 23 => 106 | 24 => 107 | 25 => 108 | 26 => 109 | 27 => 110 | 46 => 111 | 47 => 81 | 48 => 82 | 49 => 112 | 50 => 113 | 57 => 114 | n => n, fun | 22 => 31 | 24 => 3 | 25 => 138 | 3 => 3 | 39 => 88 | 0 => 0 | 53 => 112 | 55 => 50 | 4 => 4 | 46 => 104 | 45 => 103 | 50 => 109 | 5 => 5 | 9 => 9 | 66 => 125 | 70 => 129 | 76 => 134 | 77 => 74 | n => n, fun | n => n⟩
theorem Ly.sortF : Go.Proofs.SlLaysF.n6 Try.prog Ly.sortF_ren := {
  mixed := by kernel_rfl
  f6 := ⟨Try.f97.name, by decide, Try.func97.trans (congrArg some (by kernel_rfl))⟩
  f14 := ⟨Try.f102.name, by decide, Try.func102.trans (congrArg some (by kernel_rfl))⟩
  f15 := Try.func47.trans (congrArg some (by kernel_rfl))
  f20 := ⟨Try.f103.name, by decide, Try.func103.trans (congrArg some (by kernel_rfl))⟩
  f21 := ⟨Try.f104.name, by decide, Try.func104.trans (congrArg some (by kernel_rfl))⟩
  f22 := ⟨Try.f105.name, by decide, Try.func105.trans (congrArg some (by kernel_rfl))⟩
  f23 := ⟨Try.f106.name, by decide, Try.func106.trans (congrArg some (by kernel_rfl))⟩
  f24 := ⟨Try.f107.name, by decide, Try.func107.trans (congrArg some (by kernel_rfl))⟩
  f25 := ⟨Try.f108.name, by decide, Try.func108.trans (congrArg some (by kernel_rfl))⟩
  f26 := ⟨Try.f109.name, by decide, Try.func109.trans (congrArg some (by kernel_rfl))⟩
  f27 := ⟨Try.f110.name, by decide, Try.func110.trans (congrArg some (by kernel_rfl))⟩
  f28 := Try.func70.trans (congrArg some (by kernel_rfl))
  f29 := Try.func71.trans (congrArg some (by kernel_rfl))
  f46 := ⟨Try.f111.name, by decide, Try.func111.trans (congrArg some (by kernel_rfl))⟩
  f47 := Try.func81.trans (congrArg some (by kernel_rfl))
  f48 := Try.func82.trans (congrArg some (by kernel_rfl))
  f49 := ⟨Try.f112.name, by decide, Try.func112.trans (congrArg some (by kernel_rfl))⟩
  f50 := ⟨Try.f113.name, by decide, Try.func113.trans (congrArg some (by kernel_rfl))⟩
  f57 := ⟨Try.f114.name, by decide, Try.func114.trans (congrArg some (by kernel_rfl))⟩
  t0 := Try.underlying0
  a0 := Try.isAgg0
  z0 := Try.sizeOf0
  v0 := Try.zeroValue0
  t3 := Try.underlying3
  a3 := Try.isAgg3
  z3 := Try.sizeOf3
  v3 := Try.zeroValue3
  t4 := Try.underlying4
  a4 := Try.isAgg4
  z4 := Try.sizeOf4
  v4 := Try.zeroValue4
  t5 := Try.underlying5
  a5 := Try.isAgg5
  z5 := Try.sizeOf5
  v5 := Try.zeroValue5
  t9 := Try.underlying9
  a9 := Try.isAgg9
  z9 := Try.sizeOf9
  v9 := Try.zeroValue9
  t22 := Try.underlying31
  a22 := Try.isAgg31
  z22 := Try.sizeOf31
  v22 := Try.zeroValue31
  a24 := Try.isAgg3
  z24 := Try.sizeOf3
  t25 := Try.underlying138
  a25 := Try.isAgg138
  z25 := Try.sizeOf138
  v25 := Try.zeroValue138
  t39 := Try.underlying88
  a39 := Try.isAgg88
  z39 := Try.sizeOf88
  v39 := Try.zeroValue88
  t45 := Try.underlying103
  a45 := Try.isAgg103
  z45 := Try.sizeOf103
  v45 := Try.zeroValue103
  t46 := Try.underlying104
  a46 := Try.isAgg104
  z46 := Try.sizeOf104
  v46 := Try.zeroValue104
  t50 := Try.underlying109
  a50 := Try.isAgg109
  z50 := Try.sizeOf109
  v50 := Try.zeroValue109
  t53 := Try.underlying112
  a53 := Try.isAgg112
  z53 := Try.sizeOf112
  v53 := Try.zeroValue112
  t55 := Try.underlying50
  a55 := Try.isAgg50
  z55 := Try.sizeOf50
  v55 := Try.zeroValue50
  t66 := Try.underlying125
  a66 := Try.isAgg125
  z66 := Try.sizeOf125
  v66 := Try.zeroValue125
  t70 := Try.underlying129
  a70 := Try.isAgg129
  z70 := Try.sizeOf129
  v70 := Try.zeroValue129
  t76 := Try.underlying134
  a76 := Try.isAgg134
  z76 := Try.sizeOf134
  v76 := Try.zeroValue134
  t77 := Try.underlying74
  a77 := Try.isAgg74
  z77 := Try.sizeOf74
  v77 := Try.zeroValue74 }
end Go.Proofs.Ytpkikhoicobmcaa

/- A tree's nodes, sorted by their depth, and the iterator that tells them. Condition: a tree of at most 1000 nodes that stands. -/

namespace Go.Proofs.Ytpkikhoicobmcaa
open Go.RowKit Go.Shelf Go.Sort
set_option linter.unusedVariables false
open Tr
theorem sortFunc_any (cf : Int → Int → Int) (hO : SWO (ltOf cf)) (g : Nat) (cb : Array Value) (blk off cap : Nat) (d : Array Int) (w : World)
    (eg : ∀ args w, (callFunc g args).run Try.prog w = .ok (.enter g args) w) (hcmp : CmpLays1 Try.prog g cb (Value.int .i64) cf blk off d.size w) (hH : Holds (Value.int .i64) w blk off d) (hblk : blk < w.heap.size) (hsz : d.size < 4611686018427387904) :
    Calls Try.prog 97 #[.slice (some ⟨blk, off, none⟩) d.size cap, .func (.func g) #[] cb] w fun e w' =>
      e = .returned (.tuple #[]) ∧ ∃ d' n os, PermIn 0 d.size d d' ∧ SortedIn (ltOf cf) 0 d.size d' ∧ w' = sortWorld (Value.int .i64) w blk off n d' os :=
  Any.slices_SortFunc Ly.sortF (Value.int .i64) (fun _ => rfl) cf hO g cb blk off cap d w eg hcmp hH hblk hsz
theorem sw_block {w : World} {blk off m : Nat} {d : Array Int} {os : Array Obj} {g : Nat} (h1 : g < w.heap.size) (h2 : g ≠ blk) : (sortWorld (Value.int .i64) w blk off m d os).heap[g]? = w.heap[g]? := by
  unfold sortWorld grow putRow mapBlock Go.Sort.ahead
  simp only
  rw [Array.getElem?_append_left (by simpa using h1), Array.getElem?_modify, if_neg (fun e => h2 e.symm)]
theorem sw_size (w : World) (blk off m : Nat) (d : Array Int) (os : Array Obj) : w.heap.size ≤ (sortWorld (Value.int .i64) w blk off m d os).heap.size := by
  unfold sortWorld grow putRow mapBlock Go.Sort.ahead
  simp
theorem sw_frozen {w : World} {blk m : Nat} {d : Array Int} {os : Array Obj} (h : blk < w.heap.size) (i : Nat) : (sortWorld (Value.int .i64) w blk 0 m d os).frozen? ⟨blk, i, none⟩ = w.frozen? ⟨blk, i, none⟩ := by
  unfold World.frozen? sortWorld grow putRow mapBlock Go.Sort.ahead
  simp only
  rw [Array.getElem?_append_left (by simpa using h), Array.getElem?_modify, if_pos rfl]
  cases w.heap[blk]? with
  | none => rfl
  | some o => cases o <;> rfl
theorem sw_below {w0 w : World} {blk off m : Nat} {d : Array Int} {os : Array Obj} (h : Below w0.heap.size w0 w) (hb : w0.heap.size ≤ blk) : Below w0.heap.size w0 (sortWorld (Value.int .i64) w blk off m d os) :=
  ⟨h.os, h.tape, h.output, Nat.le_trans h.size (sw_size _ _ _ _ _ _), fun k hk => (sw_block (Nat.lt_of_lt_of_le hk h.size) (by omega)).trans (h.block k hk)⟩
theorem sort_nodes {w : World} {B tb nb nc p g : Nat} {rv : Nat → Value} {L W : LL} (h : TrP w B tb nb nc rv L W) (hI : Inv L) (cp : w.cell? ⟨p, 0, none⟩ = some (.pointer (some ⟨tb, 0, none⟩))) (hp : p ≠ g) (hF : ¬ Fp tb nb L.length rv g)
    {l : List Int} {n : Nat} (cap : Nat) (hl : l.Perm ((List.range (L.length - 1)).map fun i => ((i + 1 : Nat) : Int))) (hln : l.length = n) (hg : g < w.heap.size) (hn : n ≤ 1000) (hc : ∀ i, i < n → w.cell? ⟨g, i, none⟩ = some (.int .i64 (l.getD i 0))) (hf : ∀ i, w.frozen? ⟨g, i, none⟩ = false) :
    Calls Try.prog 97 #[.slice (some ⟨g, 0, none⟩) n cap, .func (.func 98) #[] #[.pointer (some ⟨p, 0, none⟩)]] w fun e w' =>
      e = .returned (.tuple #[]) ∧ ∃ m d' os, w' = sortWorld (Value.int .i64) w g 0 m d' os ∧ (∀ i, i < n → w'.cell? ⟨g, i, none⟩ = some (.int .i64 ((Au.ints (Au.order L)).getD i 0))) ∧ (∀ i, w'.frozen? ⟨g, i, none⟩ = false) := by
  obtain ⟨d, hd⟩ : ∃ d : Array Int, d = l.toArray := ⟨_, rfl⟩
  have hds : d.size = n := by rw [hd]; simpa using hln
  have hH : Holds (Value.int .i64) w g 0 d := fun j hj => by
    have e : d[j]! = l.getD j 0 := by
      rw [getElem!_pos d j hj, gD (by rw [hln]; omega)]; subst hd; simp
    rw [e, Nat.zero_add]
    exact ⟨hc j (by omega), hf j⟩
  have hcmp : CmpLays1 Try.prog 98 #[.pointer (some ⟨p, 0, none⟩)] (Value.int .i64) (Au.cmpV L) g 0 d.size w := fun m os dk _ x y => by
    have hT : TrP (sortWorld (Value.int .i64) w g 0 m dk os) B tb nb nc rv L W := TrX.of_blocks h fun k hk => sw_block (TrX.lt h hk).2 (fun e => hF (e ▸ hk))
    have cp' : (sortWorld (Value.int .i64) w g 0 m dk os).cell? ⟨p, 0, none⟩ = some (.pointer (some ⟨tb, 0, none⟩)) := by
      rw [← cp]
      unfold World.cell?
      rw [sw_block (block_lt_of_cell cp) hp]
    exact (byCmp_tr hT cp' x y).mono fun e w' ⟨he, hb⟩ => ⟨he, hb.grown⟩
  have := sortFunc_any (Au.cmpV L) (Au.cmpV_swo L) 98 #[.pointer (some ⟨p, 0, none⟩)] g 0 cap d w (enters_of Try.func98 (by kernel_rfl) rfl) hcmp hH hg (by omega)
  rw [hds] at this
  refine this.mono ?_
  rintro e w' ⟨he, d', m, os, hp', hs', hw⟩
  have hsz : d'.size = n := by have := hp'.1; omega
  have hlist : d'.toList = Au.ints (Au.order L) := by
    refine Au.order_sorted hI ?_ ?_
    · have hq := hp'.2.2
      have e1 : d'.extract 0 n = d' := by rw [← hsz]; simp
      have e2 : d.extract 0 n = d := by rw [← hds]; simp
      rw [e1, e2, hd] at hq
      exact hq.trans hl
    · rw [List.pairwise_iff_getElem]
      intro i j hi hj hij
      have hi' : i < d'.size := by simpa using hi
      have hj' : j < d'.size := by simpa using hj
      have := hs' i j (Nat.zero_le _) hij (by omega)
      rw [getElem!_pos d' i hi', getElem!_pos d' j hj'] at this
      unfold ltOf at this
      rw [decide_eq_false_iff_not] at this
      simpa using this
  have hSW : SW (Value.int .i64) w g 0 d' w' := ⟨m, os, hw⟩
  have hR := fun i (hi : i < n) => hSW.holds hg hH (by omega) i (by omega)
  refine ⟨he, m, d', os, hw, fun i hi => ?_, fun i => ?_⟩
  · have := (hR i hi).1
    rw [Nat.zero_add] at this
    rw [this, getElem!_pos d' i (by omega), ← hlist, gD (by simpa using (show i < d'.size by omega))]
    simp
  · rw [hw, sw_frozen hg]; exact hf i
end Go.Proofs.Ytpkikhoicobmcaa

/- byDepth, Levels, and the iterator that Levels hands back. Condition: a tree of at most 1000 nodes that stands. -/
namespace Go.Proofs.Ytpkikhoicobmcaa
open Go.RowKit Go.Shelf
attribute [local go_sem] Oper.semAt_some
set_option linter.unusedVariables false
open Tr
def upL (k : Nat) : List Int := (List.range k).map fun i => ((i + 1 : Nat) : Int)
theorem upL_len (k : Nat) : (upL k).length = k := by simp [upL]
theorem upL_succ (k : Nat) : upL (k + 1) = upL k ++ [((k + 1 : Nat) : Int)] := by unfold upL; rw [List.range_succ, List.map_append, List.map_singleton]
def ByR (L : LL) (w : World) (e : Ending) (w' : World) : Prop := ∃ a c, e = .returned (.slice a (Au.order L).length c) ∧ OwnK .i64 w.heap.size w' a (Au.ints (Au.order L)) ∧ Below w.heap.size w w' ∧ ∀ g, a = some ⟨g, 0, none⟩ → w.heap.size ≤ g ∧ g < w'.heap.size
theorem ints_lenL (l : List Nat) : (Au.ints l).length = l.length := by simp [Au.ints]
theorem sort_none (a : Option Addr) (cap : Nat) (fv : Value) (w : World) : Calls Try.prog 97 #[.slice a 0 cap, fv] w fun e w' => e = .returned (.tuple #[]) ∧ w' = w :=
  AnyF.slices_SortFunc_none { Ly.sortF with } a cap fv w
set_option maxRecDepth 100000 in
set_option maxHeartbeats 1000000 in
theorem byDepth_tr {w : World} {B tb nb nc : Nat} {rv : Nat → Value} {L V : LL} (h : TrP w B tb nb nc rv L V) (hI : Inv L) (hlen : L.length ≤ 1000) :
    Calls Try.prog 93 #[.pointer (some ⟨tb, 0, none⟩)] w (ByR L w) := by
  obtain ⟨i0, hi, hz0, hz1, hz2⟩ := info_parts Try.info_int
  have HS := Lib.hid (Boxed.new w 58 (.pointer (some ⟨tb, 0, none⟩)))
  have HB := Lib.hid (box1T w (.cells #[.pointer (some ⟨tb, 0, none⟩)] 58))
  have HT := Lib.hid (h.later HB.out)
  obtain ⟨W, hW⟩ : ∃ W, w.alloc (.cells #[.pointer (some ⟨tb, 0, none⟩)] 58) = W := ⟨_, rfl⟩
  rw [hW] at HS HB HT
  obtain ⟨p, hp⟩ : ∃ p, w.heap.size = p := ⟨_, rfl⟩
  have HPE := Lib.hid hp
  rw [hp] at HS
  have HPL : Hid (p < W.heap.size) := Lib.hid (block_lt_of_cell HS.out.cell)
  have HFP : Hid (∀ g, Fp tb nb L.length rv g → g < p) := Lib.hid fun g hg => by rw [← hp]; exact (TrX.lt h hg).2
  have HO0 := Lib.hid (World.ownsRow_nil W W.heap.size 3 1)
  have hpos := hI.pos
  have HOL := Lib.hid (Au.order_len hI)
  obtain ⟨m, hm⟩ : ∃ m, L.length = m := ⟨_, rfl⟩
  have HM := Lib.hid hm
  have hm9 : m ≤ 1000 := by omega
  have hm1 : 1 ≤ m := by omega
  clear h hlen hpos hm
  go_enter Try.func93, Try.ntmps93
  go_upto_region 1 with fail
  try rw [hW]
  try rw [hp]
  clear hW hp
  go_wp2_with fail
  go_loopw [3, 4] (fun s3 s4 wr => ∃ q : Nat, q + 1 ≤ m ∧ s4 = .int .i64 ((q + 1 : Nat) : Int) ∧ wr.ownsRow W.heap.size 3 1 s3 q ((upL q).map (Value.int .i64)) ∧ Below W.heap.size W wr) (fun _ s4 _ => m + 1 - (intOf s4).toNat)
  case atStart => exact ⟨0, hm1, rfl, HO0.out, Below.refl _ _⟩
  case round =>
    obtain ⟨q, hq, rfl, hrow, hb⟩ := hrel
    have HROW := Lib.hid hrow
    have HBr := Lib.hid hb
    have hsz := hb.size
    have HSZ := Lib.hid hsz
    have hTr := HT.out.later hb
    obtain ⟨b0, _⟩ := TrX.boxes hTr
    rw [HM.out] at b0
    have cp := cell_later hb HS.out.cell
    have HTr := Lib.hid hTr
    clear hrow hb hTr
    by_cases hlt : q + 1 < m
    · have hltI : ((q + 1 : Nat) : Int) < (m : Int) := by omega
      have HUP := Lib.hid (upL_succ q)
      obtain ⟨z, hz⟩ : ∃ z : Int, ((q + 1 : Nat) : Int) = z := ⟨_, rfl⟩
      have hz1' : z + 1 = ((q + 1 + 1 : Nat) : Int) := by omega
      have hz9 : 0 ≤ z ∧ z ≤ 1000 := by omega
      have HZ := Lib.hid hz1'
      rw [hz] at HUP hltI
      rw [hz]
      have HZ0 := Lib.hid hz
      clear hz hz1'
      go_wp2_with (at_builtin; refine wpList_append_lies _ rfl _ _ 31 rfl W.heap.size 3 i0 (.int .i64 0) 1 8 Try.underlying31 hi hz0 hz1 hz2 rfl (by decide) _ q _ rfl (HROW.out.alloc _) ⟨wr.heap.size, 0, none⟩ 1 1 [.int .i64 z] rfl rfl (one_newT2 _ _ _) (by simp [Value.oneCell']) (by omega) (by unfold maxLen; omega) (by omega) (by simp; omega) _ rfl ?_; intro gg cc w5 hown hgrow hat _; have HOWN := Lib.hid hown; have HG := Lib.hid hgrow; clear hown hgrow hat)
      go_roundw
      case rel =>
        refine ⟨q + 1, by omega, by rw [← HZ.out], ?_, HBr.out.grown (grown_trans2 HG.out) HSZ.out (fun j e => (HROW.out.lt j e).1)⟩
        rw [HUP.out, List.map_append]
        exact HOWN.out
      case measure => rw [← HZ0.out]; simp [intOf]; omega
    · have hqm : q + 1 = m := by omega
      have HQM := Lib.hid hqm
      have hq9 : q ≤ 1000 := by omega
      have hltI : ¬ (m : Int) < (m : Int) := by omega
      rw [hqm]
      clear hqm hlt hq
      obtain ⟨a, c, rfl, hown, _⟩ := ownK_row (upL_len q) HROW.out
      have HOW := Lib.hid hown
      clear hown
      by_cases h0 : q = 0
      · have HSN : Hid (∀ fv, Calls Try.prog 97 #[.slice a q c, fv] wr fun e w' => e = .returned (.tuple #[]) ∧ w' = wr) := Lib.hid fun fv => by rw [h0]; exact sort_none a c fv wr
        have HOE : Hid ((Au.order L).length = q) := Lib.hid (by rw [HOL.out, HM.out]; have := HQM.out; omega)
        have HO2 : Hid (Au.ints (Au.order L) = []) := Lib.hid (List.eq_nil_of_length_eq_zero (by rw [ints_lenL, HOE.out]; exact h0))
        clear h0
        go_wp2_with (go_at_call 97; refine (HSN.out _).mono ?_; rintro e w5 ⟨rfl, rfl⟩)
        go_ret
        exact ⟨a, c, by rw [HOE.out]; rfl, .inl HO2.out, bel_step HB.out HBr.out, fun g eg => by
          have := HROW.out.lt g (by rw [eg]; rfl)
          have := HB.out.size
          omega⟩
      · obtain ⟨g, rfl, hg1, hg2, hcell, hfr⟩ : ∃ g, a = some ⟨g, 0, none⟩ ∧ W.heap.size ≤ g ∧ g < wr.heap.size ∧ (∀ i, i < q → wr.cell? ⟨g, i, none⟩ = some (.int .i64 ((upL q).getD i 0))) ∧ (∀ i, wr.frozen? ⟨g, i, none⟩ = false) := by
          rcases HOW.out with e | ⟨g, h1, h2, h3, h4, h5⟩
          · have := congrArg List.length e; rw [upL_len] at this; exact absurd this h0
          · exact ⟨g, h1, h2, h3, fun i hi => h4 i (by rw [upL_len]; exact hi), h5⟩
        have HSN := Lib.hid (sort_nodes HTr.out hI cp (by have := HPL.out; omega) (fun hF => by have := HFP.out g hF; have := HPL.out; omega) c (l := upL q) (n := q) (by rw [HM.out, show m - 1 = q by have := HQM.out; omega]; exact List.Perm.refl _) (upL_len q) hg2 (by omega) hcell hfr)
        have HG1 := Lib.hid hg1
        have HG2 := Lib.hid hg2
        have HOE : Hid ((Au.order L).length = q) := Lib.hid (by rw [HOL.out, HM.out]; have := HQM.out; omega)
        clear hcell hfr hg1 hg2 h0
        go_wp2_with (go_at_call 97; refine HSN.out.mono ?_; rintro e w5 ⟨rfl, mm, dd, os, hw5, hc5, hf5⟩; have HC5 := Lib.hid hc5; have HF5 := Lib.hid hf5; have HW5 := Lib.hid hw5; clear hw5 hc5 hf5)
        go_ret
        have hb5 : Below w.heap.size w w5 := by
          rw [HW5.out]
          exact sw_below (bel_step HB.out HBr.out) (by have := HG1.out; have := HPL.out; have := HPE.out; omega)
        refine ⟨some ⟨g, 0, none⟩, c, by rw [HOE.out]; rfl, .inr ⟨g, rfl, by have := HG1.out; have := HPL.out; have := HPE.out; omega, ?_, fun i hi => ?_, fun i => ?_⟩, hb5, fun g' eg => ?_⟩
        · rw [HW5.out]; exact Nat.lt_of_lt_of_le HG2.out (sw_size _ _ _ _ _ _)
        · rw [ints_lenL, HOE.out] at hi
          exact HC5.out i hi
        · exact HF5.out i
        · injection eg with eg; injection eg with eg; subst eg
          refine ⟨by have := HG1.out; have := HPL.out; have := HPE.out; omega, ?_⟩
          rw [HW5.out]; exact Nat.lt_of_lt_of_le HG2.out (sw_size _ _ _ _ _ _)
end Go.Proofs.Ytpkikhoicobmcaa

/- Levels, and the iterator that it hands back. Condition: a tree of at most 1000 nodes that stands. -/
namespace Go.Proofs.Ytpkikhoicobmcaa
open Go.RowKit Go.Shelf
attribute [local go_sem] Oper.semAt_some
set_option linter.unusedVariables false
open Tr
/-- the iterator of a tree's levels: two cells of its own, a row of its own -/
def LevR (L : LL) (tb : Nat) (w : World) (e : Ending) (w' : World) : Prop :=
  ∃ o x a c, e = .returned (.func (.func 94) #[] #[.pointer (some ⟨o, 0, none⟩), .pointer (some ⟨x, 0, none⟩)]) ∧ w.heap.size ≤ o ∧ w.heap.size ≤ x ∧ w'.cell? ⟨o, 0, none⟩ = some (.slice a (Au.order L).length c) ∧ w'.cell? ⟨x, 0, none⟩ = some (.pointer (some ⟨tb, 0, none⟩)) ∧
    OwnK .i64 w.heap.size w' a (Au.ints (Au.order L)) ∧ Below w.heap.size w w' ∧ ∀ g, a = some ⟨g, 0, none⟩ → w.heap.size ≤ g ∧ g < w'.heap.size
set_option maxRecDepth 100000 in
set_option maxHeartbeats 1000000 in
theorem levels_tr {w : World} {B tb nb nc : Nat} {rv : Nat → Value} {L V : LL} (h : TrP w B tb nb nc rv L V) (hI : Inv L) (hlen : L.length ≤ 1000) :
    Calls Try.prog 88 #[.pointer (some ⟨tb, 0, none⟩)] w (LevR L tb w) := by
  have HS := Lib.hid (Boxed.new w 58 (.pointer (some ⟨tb, 0, none⟩)))
  have HB := Lib.hid (box1T w (.cells #[.pointer (some ⟨tb, 0, none⟩)] 58))
  have HSZ : Hid ((w.alloc (.cells #[.pointer (some ⟨tb, 0, none⟩)] 58)).heap.size = w.heap.size + 1) := Lib.hid (by simp)
  obtain ⟨W, hW⟩ : ∃ W, w.alloc (.cells #[.pointer (some ⟨tb, 0, none⟩)] 58) = W := ⟨_, rfl⟩
  rw [hW] at HS HB HSZ
  have cp := HS.out.cell
  have HBD := Lib.hid (byDepth_tr (h.later HB.out) hI hlen)
  obtain ⟨p, hp⟩ : ∃ p, w.heap.size = p := ⟨_, rfl⟩
  have HPE := Lib.hid hp
  rw [hp] at HS cp HSZ
  clear h hlen
  go_enter Try.func88, Try.ntmps88
  go_upto_region 1 with fail
  try rw [hW]
  try rw [hp]
  clear hW hp
  go_upto_region 2 with (go_at_call 93; refine HBD.out.mono ?_; rintro e w3 ⟨a, c, rfl, hown, hb3, hga⟩; have HOW := Lib.hid hown; have HB3 := Lib.hid hb3; have HGA := Lib.hid hga; replace cp := cell_later hb3 cp; clear hown hb3 hga)
  go_wp2
  go_ret
  have hs3 := HB3.out.size
  have hsz := HSZ.out
  have hpe := HPE.out
  have hpl : p < w3.heap.size := block_lt_of_cell cp
  have hbn := box1T w3 (.cells #[.slice a (Au.order L).length c] 31)
  refine ⟨w3.heap.size, p, a, c, rfl, by omega, by omega, ?_, cell_later hbn cp, ?_, bel_step (bel_step HB.out HB3.out) hbn, fun g eg => ?_⟩
  · exact (Boxed.new w3 31 (.slice a (Au.order L).length c)).cell
  · exact (HOW.out.mono (by omega)).later hbn
  · have := HGA.out g eg
    have := hbn.size
    omega
/-- the blocks that the iterator stands on -/
def Zl (o x : Nat) (a : Option Addr) (tb nb n : Nat) (rv : Nat → Value) (k : Nat) : Prop := k = o ∨ k = x ∨ a = some ⟨k, 0, none⟩ ∨ Fp tb nb n rv k
set_option maxRecDepth 100000 in
set_option maxHeartbeats 2000000 in
theorem levels_gives {W0 : World} {B tb nb nc o x B0 c : Nat} {a : Option Addr} {rv : Nat → Value} {L V : LL} (h : TrP W0 B tb nb nc rv L V) (co : W0.cell? ⟨o, 0, none⟩ = some (.slice a (Au.order L).length c)) (cx : W0.cell? ⟨x, 0, none⟩ = some (.pointer (some ⟨tb, 0, none⟩))) (hown : OwnK .i64 B0 W0 a (Au.ints (Au.order L))) (hI : Inv L) (hlen : L.length ≤ 1000) (m : Nat) (hm : 1 ≤ m) :
    GivesN Fence.wide m Try.prog 94 #[.pointer (some ⟨o, 0, none⟩), .pointer (some ⟨x, 0, none⟩)] (fun j : Nat => #[.int .i64 (j : Int), .int .i64 (parV L j)]) (Zl o x a tb nb L.length rv) (Zy W0) (Au.order L) W0 := by
  intro l J Jx Wd hWs hW hJ hJx hY h00
  have hT : TrP Wd B tb nb nc rv L V := TrX.of_blocks h fun g hg => hW.block g (TrX.lt h hg).2 (.inr (.inr (.inr hg)))
  have co1 := hW.cell (.inl rfl) co
  have cx1 := hW.cell (.inr (.inl rfl)) cx
  have HC : Hid (∀ i, i < (Au.order L).length → ∃ g, a = some ⟨g, 0, none⟩ ∧ Wd.cell? ⟨g, i, none⟩ = some (.int .i64 ((Au.order L).getD i 0 : Nat))) := Lib.hid fun i hi => by
    rcases hown with e | ⟨g, e1, _, _, e4, _⟩
    · have := congrArg List.length e; rw [ints_lenL, List.length_nil] at this; omega
    · refine ⟨g, e1, ?_⟩
      have := hW.cell (.inr (.inr (.inl e1))) (e4 i (by rw [ints_lenL]; exact hi))
      rw [this, gD (by rw [ints_lenL]; exact hi), gD hi]
      simp [Au.ints]
  have hn9 : (Au.order L).length ≤ 1000 := by rw [Au.order_len hI]; omega
  have HPT := Lib.hid (fun W' (hT : TrP W' B tb nb nc rv L V) (j : Nat) => parent_tr hT (j : Int))
  obtain ⟨xs, hxs⟩ : ∃ xs, Au.order L = xs := ⟨_, rfl⟩
  rw [hxs] at hY HC hn9 co1
  rw [hxs]
  obtain ⟨n, hn⟩ : ∃ n, xs.length = n := ⟨_, rfl⟩
  rw [hn] at HC hn9 co1
  have HN := Lib.hid hn
  have HY := Lib.hid hY
  have HT := Lib.hid hT
  have h01 := Lib.hid h00
  clear hY hxs hn h co cx hW hT hown h00 hlen
  refine callsIn_of_wp Try.func94 rfl trivial ?_ rfl
  simp only [Try.ntmps94, List.size_toArray, List.length_cons, List.length_nil, Nat.reduceAdd, Nat.reduceSub, Array.replicate_succ, Array.replicate_zero, List.push_toArray, List.append_toArray, List.nil_append, List.cons_append]
  gi_wp2
  have HC3 : Hid (∀ i, i < n → ∃ g, a = some ⟨g, 0, none⟩ ∧ Zl o x a tb nb L.length rv g ∧ Wd.cell? ⟨g, i, none⟩ = some (.int .i64 (xs.getD i 0 : Nat))) := Lib.hid fun i hi => by
    obtain ⟨g, e1, e2⟩ := HC.out i hi
    exact ⟨g, e1, .inr (.inr (.inl e1)), e2⟩
  have CX := Lib.hid cx1
  clear co1 cx1 HC
  gi_loopw [8] (fun i wr => ∃ p : Nat, p ≤ n ∧ i = .int .i64 p ∧ J (xs.take p) wr ∧ TrP wr B tb nb nc rv L V ∧ wr.cell? ⟨x, 0, none⟩ = some (.pointer (some ⟨tb, 0, none⟩)) ∧ Hid (∀ i, i < n → ∃ g, a = some ⟨g, 0, none⟩ ∧ Zl o x a tb nb L.length rv g ∧ wr.cell? ⟨g, i, none⟩ = some (.int .i64 (xs.getD i 0 : Nat)))) (fun i _ => n - (intOf i).toNat)
  case atStart => exact ⟨0, Nat.zero_le _, rfl, by simpa using h01.out, HT.out, CX.out, HC3⟩
  case round =>
    obtain ⟨p, hp, rfl, hj, hT, hcx, HCr⟩ := hrel
    have HJ := Lib.hid hj
    have HTr := Lib.hid hT
    clear hj h01 HC3 hT HT CX
    by_cases hlt : p < n
    · have hltI : (p : Int) < (n : Int) := by omega
      have hp0 : (0 : Int) ≤ (p : Int) := Int.natCast_nonneg _
      obtain ⟨g, rfl, hzg, hcell⟩ := HCr.out p hlt
      obtain ⟨j, hjx⟩ : ∃ j, xs.getD p 0 = j := ⟨_, rfl⟩
      have hsp : xs = xs.take p ++ j :: xs.drop (p + 1) := by
        conv => lhs; rw [← List.take_append_drop p xs, List.drop_eq_getElem_cons (by rw [HN.out]; exact hlt)]
        rw [← hjx, gD (by rw [HN.out]; exact hlt)]
      have hnx : xs.take p ++ [j] = xs.take (p + 1) := by
        rw [List.take_succ_eq_append_getElem (by rw [HN.out]; exact hlt), ← hjx, gD (by rw [HN.out]; exact hlt)]
      rw [hjx] at hcell
      have HSP := Lib.hid hsp
      have HNX := Lib.hid hnx
      have HPj := Lib.hid (HPT.out wr HTr.out j)
      have HY2 := Lib.hid (fun W1 (hJ1 : J (xs.take p) W1) => HY.out (xs.take p) j (xs.drop (p + 1)) W1 hsp hJ1)
      obtain ⟨y, hy9⟩ : ∃ y, parV L j = y := ⟨_, rfl⟩
      simp only [hy9] at HPj HY2
      have HZ := Lib.hid hzg
      clear hjx hsp hnx hzg hy9
      gi_wp2_with (refine ⟨trivial, ?_⟩; gi_at_call 60; refine (callsIn_wide.2 HPj.out).mono ?_; rintro e w3 ⟨rfl, hb⟩; have HB := Lib.hid hb; obtain ⟨fn, tmps, assign, body, hy, hR⟩ := HY2.out w3 (hJ _ _ _ HJ.out (sep_belowT hb)); rw [HNX.out] at hR; have HT3 := Lib.hid (HTr.out.later hb); have hcx3 := cell_later hb hcx; clear hb)
      refine hR.mono ?_
      rintro e W3 ⟨hh, (⟨rfl, hJ3⟩ | ⟨rfl, hJx3⟩)⟩
      · have HCm : Hid (∀ i, i < n → ∃ g', (some ⟨g, 0, none⟩ : Option Addr) = some ⟨g', 0, none⟩ ∧ Zl o x (some ⟨g, 0, none⟩) tb nb L.length rv g' ∧ W3.cell? ⟨g', i, none⟩ = some (.int .i64 (xs.getD i 0 : Nat))) := Lib.hid fun i hi => by
          obtain ⟨g', e1, e2, e3⟩ := HCr.out i hi
          exact ⟨g', e1, e2, hh.cell e2 (cell_later HB.out e3)⟩
        have hT4 : TrP W3 B tb nb nc rv L V := TrX.of_blocks HT3.out fun g hg => hh.block g (TrX.lt HT3.out hg).2 (.inr (.inr (.inr hg)))
        have hcx4 := hh.cell (.inr (.inl rfl)) hcx3
        have HT4 := Lib.hid hT4
        have HJ3 := Lib.hid hJ3
        have HX4 := Lib.hid hcx4
        clear hR hy hcell hJ3 hh hT4 hcx hcx3 hcx4
        gi_wp2
        go_roundw
        case rel => exact ⟨p + 1, by omega, by go_num, HJ3.out, HT4.out, HX4.out, HCm⟩
        case measure => simp [intOf]; omega
      · gi_wp2
        refine bodyPost_ret (results_none rfl _ _ _) rfl ?_
        exact ⟨⟨_, rfl⟩, .inr ⟨xs.take (p + 1), List.take_prefix _ _, hJx3⟩⟩
    · obtain rfl : p = n := by omega
      have hltI : ¬ (p : Int) < (p : Int) := by omega
      have hjf := HJ.out
      rw [List.take_of_length_le (by rw [HN.out]; exact Nat.le_refl _)] at hjf
      have HJF := Lib.hid hjf
      clear hjf
      gi_wp2
      go_end0
      exact ⟨⟨_, rfl⟩, .inl HJF.out⟩
end Go.Proofs.Ytpkikhoicobmcaa

/- A range over a function whose iterator reads what the rounds turn: the iterator's contract asks what its caller's invariant tells; the laws that join the two. No condition beyond what is named. -/
namespace Go.Proofs.Ytpkikhoicobmcaa
open Go.RowKit
/-- What an iterator owes that is told Kp by the invariant. -/
def GivesK {α : Type} (F : Fence) (n : Nat) (P : Program) (g : Nat) (lb : Array Value) (encs : α → Array Value) (Z Zs : Nat → Prop) (xs : List α) (W0 : World) (Kp : List α → World → Prop) : Prop :=
  ∀ (l : Nat) (J Jx : List α → World → Prop) (W : World), W0.heap.size + 2 ≤ W.heap.size → Hold Z W0 W → (∀ s A, J s A → Kp s A) → (∀ s A, Jx s A → Kp s A) →
    (∀ s A B, J s A → Sep Zs A B → J s B) → (∀ s A B, Jx s A → Sep Zs A B → Jx s B) →
    (∀ pre x rest W1, xs = pre ++ x :: rest → J pre W1 → YieldAt F (n - 1) P l (encs x) W1 fun e W' => Hold Z W1 W' ∧
      ((e = .returned (.bool true) ∧ J (pre ++ [x]) W') ∨ (e = .returned (.bool false) ∧ Jx (pre ++ [x]) W'))) →
    J [] W → CallsIn F n P g (#[.func (.yield l) #[] #[]] ++ lb) W fun e W' => (∃ v, e = .returned v) ∧ (J xs W' ∨ ∃ pre, pre <+: xs ∧ Jx pre W')
/-- A round's contract, in a round, however deep. -/
theorem RoundIn.inRoundW {l l' n m : Nat} {P : Program} {f : FuncId} {tmps : Array Value} {assign body : Code} {w : World} {R : Ending → World → Prop} (h : RoundIn Fence.wide n P l f tmps assign body w R) : RoundIn (Fence.wide.inRound l') m P l f tmps assign body w R :=
  ⟨h.1, fun c cs _ => h.2 c cs (room_wide _)⟩
variable {F : Fence} {n : Nat} {P : Program}
theorem range_ownK {α : Type} {g : Operand} {ps : Array Tmp} {assign body : Code} {Q : Exit → Act → World → Prop} {a : Act} {w : World}
    (hro : F.round = none) (h1 : 1 ≤ n) {gf : Nat} {lb : Array Value} (hg : a.eval g = .func (.func gf) #[] lb) (hFg : F.fn gf) (eg : ∀ args w, (callFunc gf args).run P w = .ok (.enter gf args) w)
    {encs : α → Array Value} {Z Zs : Nat → Prop} {xs : List α} {Kp : List α → World → Prop} (hseq : GivesK F (n - 1) P gf lb encs Z Zs xs w Kp) (hsub : ∀ k, Zs k → Z k) (nZD : ¬ Z w.heap.size) (nZL : ¬ Z (w.heap.size + 1)) (hps : ∀ x, (encs x).size = ps.size)
    (I : List α → World → Prop) (Ix : Code → List α → World → Prop) (hIK : ∀ s A, I s A → Kp s A) (hIxK : ∀ c s A, Ix c s A → Kp s A)
    (hI : ∀ s A B, I s A → Sep (fun k => Zs k ∨ k = w.heap.size ∨ k = w.heap.size + 1) A B → I s B)
    (hIx : ∀ c s A B, Ix c s A → Sep (fun k => Zs k ∨ k = w.heap.size ∨ k = w.heap.size + 1) A B → Ix c s B)
    (h0 : I [] w) (Ax : α → Act → World → Prop) (hAx : ∀ x a' A B, Ax x a' A → Sep (fun k => Zs k ∨ k = w.heap.size ∨ k = w.heap.size + 1) A B → Ax x a' B)
    (hassign : ∀ (l : Nat) (pre : List α) (x : α) (W : World) (K : Act → World → Prop), I pre W → w.heap.size + 1 < W.heap.size →
      (∀ a' W', Hold (fun k => Z k ∨ k = w.heap.size ∨ k = w.heap.size + 1) W W' → I pre W' → Ax x a' W' → K a' W') →
      assign.wpIn (F.inRound l) (n - 1 - 1) P (Exit.then K (fun _ _ _ => False)) { tmps := (ps.zip (encs x)).foldl (fun t (p, v) => t.setIfInBounds p v) a.tmps, defers := [] } W)
    (hbody : ∀ (l : Nat) (pre : List α) (x : α) (rest : List α) (a' : Act) (W : World), xs = pre ++ x :: rest → w.heap.size + 1 < W.heap.size → I pre W → Ax x a' W →
      body.wpIn (F.inRound l) (n - 1 - 1) P (roundEnd (fun k => Z k ∨ k = w.heap.size ∨ k = w.heap.size + 1) I Ix (pre ++ [x]) W) a' W)
    (hdone : ∀ (W : World), I xs W → W.heap[w.heap.size]? = some (.deferred (some [])) → Q .normal { a with defers := { target := .collected w.heap.size, args := #[] } :: a.defers } W)
    (hstop : ∀ (c : Code) (pre : List α) (W : World), pre <+: xs → Ix c pre W → W.heap[w.heap.size]? = some (.deferred (some [])) → c.wpIn F n P Q { a with defers := { target := .collected w.heap.size, args := #[] } :: a.defers } W) :
    (Code.rangeFunc g ps assign body).wpIn F n P Q a w := by
  refine wpIn_rangeFunc fun fn hfn => ?_
  rw [hro]
  -- the loop's record, in a state and with a jump that waits
  obtain ⟨rec, hrec⟩ : ∃ rec : LoopState → Option Code → Loop, rec = fun s j => { state := s, pending := j, fn, tmps := a.tmps, params := ps, assign, body, defers := w.heap.size } := ⟨_, rfl⟩
  have hrs : ∀ s j, (rec s j).state = s := fun s j => by rw [hrec]
  have hrp : ∀ s j, (rec s j).pending = j := fun s j => by rw [hrec]
  have hf1 : (rec .ready none).params = ps := by rw [hrec]
  have hf2 : (rec .ready none).fn = fn := by rw [hrec]
  have hf3 : (rec .ready none).tmps = a.tmps := by rw [hrec]
  have hf4 : (rec .ready none).assign = assign := by rw [hrec]
  have hf5 : (rec .ready none).body = body := by rw [hrec]
  have hset : ∀ s j s' j', ({ rec s j with state := s', pending := j' } : Loop) = rec s' j' := fun s j s' j' => by rw [hrec]
  have hset1 : ∀ s j s', ({ rec s j with state := s' } : Loop) = rec s' j := fun s j s' => by rw [hrec]
  generalize hW1 : (w.alloc (.deferred (some []))).alloc (.loop (rec .ready none)) = W1
  have sz1 : W1.heap.size = w.heap.size + 2 := by rw [← hW1]; simp
  have hL1 : W1.heap[w.heap.size + 1]? = some (.loop (rec .ready none)) := by
    rw [← hW1]; have := World.alloc_heap_new (w.alloc (.deferred (some []))) (.loop (rec .ready none)); rwa [World.size_alloc] at this
  have hD1 : W1.heap[w.heap.size]? = some (.deferred (some [])) := by
    rw [← hW1, Below.heap_alloc _ _ _ (by simp)]; exact World.alloc_heap_new w _
  have hI1 : I [] W1 := by rw [← hW1]; exact hI _ _ _ (hI _ _ _ h0 (.alloc _ _ _)) (.alloc _ _ _)
  have hH1 : Hold Z w W1 := by rw [← hW1]; exact (Hold.alloc Z w _).trans (.alloc Z _ _)
  refine ⟨w.heap.size + 1, [{ target := .collected w.heap.size, args := #[] }], W1, { target := .fn (.func gf) lb, args := #[.func (.yield (w.heap.size + 1)) #[] #[]] }, W1, gf,
    #[.func (.yield (w.heap.size + 1)) #[] #[]] ++ lb, W1, ?_, ?_, ?_, ?_, fun _ => h1, ?_⟩
  · rw [← hW1, hrec]; exact run_enterLoop_outer _ _ _ _ _
  · simp only [resolve, hg]; simp [go_sem]
  · intro f' hf'; simp [Target.leads] at hf'; subst hf'; exact hFg
  · simp [invoke, go_sem, eg]
  -- the iterator, at the caller's invariant and the loop's two blocks
  have keep : ∀ {o : Obj} {A B : World} {k : Nat}, ¬ Zs k → A.heap[k]? = some o → Sep Zs A B → B.heap[k]? = some o := fun hk ho hs => (hs.block _ (Array.getElem?_eq_some_iff.1 ho).1 hk).trans ho
  have wide : ∀ {A B : World}, Sep Zs A B → Sep (fun k => Zs k ∨ k = w.heap.size ∨ k = w.heap.size + 1) A B := fun h => h.mono fun _ e => .inl e
  have iz : ∀ {A : World} (o : Obj), Sep (fun k => Zs k ∨ k = w.heap.size ∨ k = w.heap.size + 1) A (A.putObj (w.heap.size + 1) o) := fun o => .putObj _ (.inr (.inr rfl)) o
  have hold : ∀ {A B : World}, Hold (fun k => Z k ∨ k = w.heap.size ∨ k = w.heap.size + 1) A B → Hold Z A B := fun h => h.mono fun _ e => .inl e
  refine (hseq (w.heap.size + 1)
    (fun pre W => I pre W ∧ W.heap[w.heap.size + 1]? = some (.loop (rec .ready none)) ∧ W.heap[w.heap.size]? = some (.deferred (some [])))
    (fun pre W => ∃ c, Ix c pre W ∧ W.heap[w.heap.size + 1]? = some (.loop (rec .done (some c))) ∧ W.heap[w.heap.size]? = some (.deferred (some [])))
    W1 (by omega) hH1 (fun s A h => hIK s A h.1) (fun s A ⟨c, h, _⟩ => hIxK c s A h) (fun s A B h hs => ⟨hI s A B h.1 (wide hs), keep (fun e => nZL (hsub _ e)) h.2.1 hs, keep (fun e => nZD (hsub _ e)) h.2.2 hs⟩)
    (fun s A B ⟨c, h, hl, hd⟩ hs => ⟨c, hIx c s A B h (wide hs), keep (fun e => nZL (hsub _ e)) hl hs, keep (fun e => nZD (hsub _ e)) hd hs⟩) ?_ ⟨hI1, hL1, hD1⟩).mono ?_
  · rintro pre x rest W hx ⟨hi, hl, hd⟩
    have hlt := (Array.getElem?_eq_some_iff.1 hl).1
    have hy := run_yield (P := P) (args := encs x) hl (by rw [hf1]; exact hps x)
    rw [hf1, hf2, hf3, hf4, hf5] at hy
    refine ⟨fn, _, assign, body, hy, roundIn_of_wpIn hfn ?_⟩
    refine hassign _ pre x W _ hi hlt fun a' Wa ha hia hax => ?_
    have hla : Wa.heap[w.heap.size + 1]? = some (.loop (rec .ready none)) := (ha.block _ hlt (.inr (.inr rfl))).trans hl
    have hda : Wa.heap[w.heap.size]? = some (.deferred (some [])) := (ha.block _ (by omega) (.inr (.inl rfl))).trans hd
    have hlta : w.heap.size + 1 < Wa.heap.size := (Array.getElem?_eq_some_iff.1 hla).1
    refine ⟨_, run_beginRound hla (hrs _ _), ?_⟩
    rw [hset1]
    generalize hWb : Wa.putObj (w.heap.size + 1) (.loop (rec .busy none)) = Wb
    have hlb : Wb.heap[w.heap.size + 1]? = some (.loop (rec .busy none)) := by rw [← hWb]; exact World.putObj_heap_same hlta
    have hdb : Wb.heap[w.heap.size]? = some (.deferred (some [])) := by rw [← hWb, World.putObj_heap_other (by omega)]; exact hda
    have hib : I pre Wb := by rw [← hWb]; exact hI _ _ _ hia (iz _)
    have hxb : Ax x a' Wb := by rw [← hWb]; exact hAx _ _ _ _ hax (iz _)
    have hWab : Hold Z W Wb := (hold ha).trans (by rw [← hWb]; exact .putObj _ nZL _)
    have hltb : w.heap.size + 1 < Wb.heap.size := (Array.getElem?_eq_some_iff.1 hlb).1
    refine wpIn_mono (hbody _ pre x rest a' Wb hx hltb hib hxb) ?_
    have fin : ∀ (j : Option Code) (W3 : World), Hold (fun k => Z k ∨ k = w.heap.size ∨ k = w.heap.size + 1) Wb W3 →
        ∃ W4, (Instr.endRound (w.heap.size + 1) j).run P W3 = .ok (.bool j.isNone) W4 ∧ Sep (fun k => Zs k ∨ k = w.heap.size ∨ k = w.heap.size + 1) W3 W4 ∧ Hold Z W W4 ∧
          W4.heap[w.heap.size + 1]? = some (.loop (rec (if j.isNone then .ready else .done) j)) ∧ W4.heap[w.heap.size]? = some (.deferred (some [])) := fun j W3 h3 => by
      have hl3 : W3.heap[w.heap.size + 1]? = some (.loop (rec .busy none)) := (h3.block _ hltb (.inr (.inr rfl))).trans hlb
      have hd3 : W3.heap[w.heap.size]? = some (.deferred (some [])) := (h3.block _ (by omega) (.inr (.inl rfl))).trans hdb
      refine ⟨_, run_endRound j hl3, iz _, hWab.trans ((hold h3).trans (.putObj _ nZL _)), ?_, ?_⟩
      · rw [hset]; exact World.putObj_heap_same (Array.getElem?_eq_some_iff.1 hl3).1
      · rw [World.putObj_heap_other (by omega)]; exact hd3
    rintro e a3 W3 hp
    cases e with
    | normal => obtain ⟨h3, hi3⟩ := hp; obtain ⟨W4, hr, hs, hh, hl4, hd4⟩ := fin none W3 h3; exact ⟨_, W4, hr, hh, .inl ⟨rfl, hI _ _ _ hi3 hs, hl4, hd4⟩⟩
    | ret => obtain ⟨h3, hi3⟩ := hp; obtain ⟨W4, hr, hs, hh, hl4, hd4⟩ := fin (some .ret) W3 h3; exact ⟨_, W4, hr, hh, .inr ⟨rfl, _, hIx _ _ _ _ hi3 hs, hl4, hd4⟩⟩
    | exit id => obtain ⟨h3, hi3⟩ := hp; obtain ⟨W4, hr, hs, hh, hl4, hd4⟩ := fin (some (.exit id)) W3 h3; exact ⟨_, W4, hr, hh, .inr ⟨rfl, _, hIx _ _ _ _ hi3 hs, hl4, hd4⟩⟩
    | goto t => obtain ⟨h3, hi3⟩ := hp; obtain ⟨W4, hr, hs, hh, hl4, hd4⟩ := fin (some (.goto t)) W3 h3; exact ⟨_, W4, hr, hh, .inr ⟨rfl, _, hIx _ _ _ _ hi3 hs, hl4, hd4⟩⟩
    | panic ch => exact hp.elim
    | outgrown => exact hp.elim
  · rintro e W2 ⟨⟨v, rfl⟩, hJ⟩
    rcases hJ with ⟨hi, hl, hd⟩ | ⟨pre, hpre, c, hi, hl, hd⟩
    · exact ⟨none, _, by rw [run_endLoop hl (by rw [hrs]; simp), hrp], hdone _ (hI _ _ _ hi (iz _)) (by rw [World.putObj_heap_other (by omega)]; exact hd)⟩
    · exact ⟨some c, _, by rw [run_endLoop hl (by rw [hrs]; simp), hrp], hstop c pre _ hpre (hIx _ _ _ _ hi (iz _)) (by rw [World.putObj_heap_other (by omega)]; exact hd)⟩

/-- The same where a round's variable lies in a slot: what the assignment leaves is named ahead of the world. -/
theorem range_own1K {α : Type} {g : Operand} {ps : Array Tmp} {assign body : Code} {Q : Exit → Act → World → Prop} {a : Act} {w : World}
    (hro : F.round = none) (h1 : 1 ≤ n) {gf : Nat} {lb : Array Value} (hg : a.eval g = .func (.func gf) #[] lb) (hFg : F.fn gf) (eg : ∀ args w, (callFunc gf args).run P w = .ok (.enter gf args) w)
    {encs : α → Array Value} {Z Zs : Nat → Prop} {xs : List α} {Kp : List α → World → Prop} (hseq : GivesK F (n - 1) P gf lb encs Z Zs xs w Kp) (hsub : ∀ k, Zs k → Z k) (nZD : ¬ Z w.heap.size) (nZL : ¬ Z (w.heap.size + 1)) (hps : ∀ x, (encs x).size = ps.size)
    (I : List α → World → Prop) (Ix : Code → List α → World → Prop) (hIK : ∀ s A, I s A → Kp s A) (hIxK : ∀ c s A, Ix c s A → Kp s A)
    (hI : ∀ s A B, I s A → Sep (fun k => Zs k ∨ k = w.heap.size ∨ k = w.heap.size + 1) A B → I s B)
    (hIx : ∀ c s A B, Ix c s A → Sep (fun k => Zs k ∨ k = w.heap.size ∨ k = w.heap.size + 1) A B → Ix c s B)
    (h0 : I [] w) (a₁ : α → Act)
    (hassign : ∀ (l : Nat) (x : α) (W : World) (K : Act → World → Prop), K (a₁ x) W →
      assign.wpIn (F.inRound l) (n - 1 - 1) P (Exit.then K (fun _ _ _ => False)) { tmps := (ps.zip (encs x)).foldl (fun t (p, v) => t.setIfInBounds p v) a.tmps, defers := [] } W)
    (hbody : ∀ (l : Nat) (pre : List α) (x : α) (rest : List α) (W : World), xs = pre ++ x :: rest → w.heap.size + 1 < W.heap.size → I pre W →
      body.wpIn (F.inRound l) (n - 1 - 1) P (roundEnd (fun k => Z k ∨ k = w.heap.size ∨ k = w.heap.size + 1) I Ix (pre ++ [x]) W) (a₁ x) W)
    (hdone : ∀ (W : World), I xs W → W.heap[w.heap.size]? = some (.deferred (some [])) → Q .normal { a with defers := { target := .collected w.heap.size, args := #[] } :: a.defers } W)
    (hstop : ∀ (c : Code) (pre : List α) (W : World), pre <+: xs → Ix c pre W → W.heap[w.heap.size]? = some (.deferred (some [])) → c.wpIn F n P Q { a with defers := { target := .collected w.heap.size, args := #[] } :: a.defers } W) :
    (Code.rangeFunc g ps assign body).wpIn F n P Q a w :=
  range_ownK hro h1 hg hFg eg hseq hsub nZD nZL hps I Ix hIK hIxK hI hIx h0 (fun x a' _ => a' = a₁ x) (fun _ _ _ _ h _ => h)
    (fun l pre x W K hi _ hK => hassign l x W K (hK _ _ (.refl _ _) hi rfl)) (fun l pre x rest a' W hx hlt hi ha => by subst ha; exact hbody l pre x rest W hx hlt hi) hdone hstop

/-- The same in a plain walk. -/
theorem range_wpK {α : Type} {g : Operand} {ps : Array Tmp} {assign body : Code} {Q : Exit → Act → World → Prop} {a : Act} {w : World}
    {gf : Nat} {lb : Array Value} (hg : a.eval g = .func (.func gf) #[] lb) (eg : ∀ args w, (callFunc gf args).run P w = .ok (.enter gf args) w)
    {encs : α → Array Value} {Z Zs : Nat → Prop} {xs : List α} {Kp : List α → World → Prop} (hseq : GivesK Fence.wide 2 P gf lb encs Z Zs xs w Kp) (hsub : ∀ k, Zs k → Z k) (nZD : ¬ Z w.heap.size) (nZL : ¬ Z (w.heap.size + 1)) (hps : ∀ x, (encs x).size = ps.size)
    (I : List α → World → Prop) (Ix : Code → List α → World → Prop) (hIK : ∀ s A, I s A → Kp s A) (hIxK : ∀ c s A, Ix c s A → Kp s A)
    (hI : ∀ s A B, I s A → Sep (fun k => Zs k ∨ k = w.heap.size ∨ k = w.heap.size + 1) A B → I s B)
    (hIx : ∀ c s A B, Ix c s A → Sep (fun k => Zs k ∨ k = w.heap.size ∨ k = w.heap.size + 1) A B → Ix c s B)
    (h0 : I [] w) (a₁ : α → Act)
    (hassign : ∀ (l : Nat) (x : α) (W : World) (K : Act → World → Prop), K (a₁ x) W →
      assign.wpIn (Fence.wide.inRound l) 1 P (Exit.then K (fun _ _ _ => False)) { tmps := (ps.zip (encs x)).foldl (fun t (p, v) => t.setIfInBounds p v) a.tmps, defers := [] } W)
    (hbody : ∀ (l : Nat) (pre : List α) (x : α) (rest : List α) (W : World), xs = pre ++ x :: rest → w.heap.size + 1 < W.heap.size → I pre W →
      body.wpIn (Fence.wide.inRound l) 1 P (roundEnd (fun k => Z k ∨ k = w.heap.size ∨ k = w.heap.size + 1) I Ix (pre ++ [x]) W) (a₁ x) W)
    (hdone : ∀ (W : World), I xs W → W.heap[w.heap.size]? = some (.deferred (some [])) → Q .normal { a with defers := { target := .collected w.heap.size, args := #[] } :: a.defers } W)
    (hstop : ∀ (c : Code) (pre : List α) (W : World), pre <+: xs → Ix c pre W → W.heap[w.heap.size]? = some (.deferred (some [])) → c.wp P Q { a with defers := { target := .collected w.heap.size, args := #[] } :: a.defers } W) :
    (Code.rangeFunc g ps assign body).wp P Q a w :=
  (wpIn_wide (n := 3)).1 (range_own1K rfl (by omega) hg trivial eg hseq hsub nZD nZL hps I Ix hIK hIxK hI hIx h0 a₁ hassign hbody hdone (fun c pre W h1 h2 h3 => wpIn_wide.2 (hstop c pre W h1 h2 h3)))

end Go.Proofs.Ytpkikhoicobmcaa

/- A region that draws its order, in a round of a range over a function: what yields its value in every world of a kind may be taken first. Condition: none of its operations defers, none selects. -/
namespace Go.Proofs.Ytpkikhoicobmcaa
open Go
/-- an operation that is no defer -/
def calmO (o : Oper) : Bool := match o.op with | .defer _ => false | _ => true
theorem calmO_ne {o : Oper} (h : calmO o = true) : ∀ c, o.op ≠ .defer c := fun c e => by unfold calmO at h; rw [e] at h; cases h
theorem calm_at {ops : Array Oper} (h : ops.all calmO = true) {j : Nat} {o : Oper} (hj : ops[j]? = some o) : ∀ c, o.op ≠ .defer c := by
  rw [Array.all_eq_true] at h
  obtain ⟨hlt, e⟩ := Array.getElem?_eq_some_iff.1 hj
  exact calmO_ne (e ▸ h j hlt)
section
variable {l n : Nat} {P : Program} {ops : Array Oper} {Q : Exit → Act → World → Prop} {md : Region.Mode} {S : World → Prop}
/-- whatever comes up, and S holds behind each -/
def rdAny (l n : Nat) (P : Program) (md : Region.Mode) (ops : Array Oper) (Q : Exit → Act → World → Prop) (S : World → Prop) : Nat → Array Bool → Act → World → Prop
  | 0, listed, a, w => Region.ready md ops listed = [] ∧ Q .normal a w
  | k + 1, listed, a, w => (Region.ready md ops listed = [] → Q .normal a w) ∧
    ∀ i ∈ Region.ready md ops listed, wpOpIn (Fence.wide.inRound l) n P ops Q i (fun a' w' => S w' ∧ rdAny l n P md ops Q S k (listed.setIfInBounds i true) a' w') a w
theorem rdAny_sound : ∀ (k : Nat) (listed : Array Bool) (a : Act) (w : World), rdAny l n P md ops Q S k listed a w → wpAnyIn (Fence.wide.inRound l) n P md ops Q k listed a w
  | 0, _, _, _, h => h
  | k + 1, _, _, _, h => ⟨h.1, fun i hi => wpOpIn_mono (fun a' w' h' => rdAny_sound k _ a' w' h'.2) (h.2 i hi)⟩
theorem rd_begin {id : Nat} {a : Act} {w : World} (hm : P.follows .mixedOrders = true) (hS : S w.drew)
    (h : S w.drew → rdAny l n P .any ops Q S ops.size (Array.replicate ops.size false) a w.drew) : (Code.region id ops true).wpIn (Fence.wide.inRound l) n P Q a w :=
  wpIn_region_any hm (rdAny_sound _ _ _ _ (h hS))
theorem rd_yield {i : Nat} {o : Oper} {v : Value} {a : Act} (hc : ∀ c, o.op ≠ .defer c) (hi : ops[i]? = some o) (hy : YieldsIf P ops S o v a) {K : Act → World → Prop} {w : World} (hS : S w) (h : K (a.put o.dst v) w) :
    wpOpIn (Fence.wide.inRound l) n P ops Q i K a w := by
  unfold wpOpIn
  simp only [hi]
  rcases hy with ⟨hw, hv⟩ | ⟨hw, rfl⟩
  · rw [if_pos hw]
    refine ⟨fun _ _ => trivial, ?_⟩
    rw [Oper.semAt_eq _ _ _ hc, hv w hS]
    exact h
  · rw [if_neg (by rw [hw]; exact Bool.false_ne_true)]
    exact ⟨fun _ _ => trivial, h⟩
/-- an operation that is apart from one that yields -/
theorem rd_past {j : Nat} {oi oj : Oper} {v : Value} (hcj : ∀ c, oj.op ≠ .defer c) (hj : ops[j]? = some oj) (hap : oi.apart ops oj = true) (hsi : ∀ cs b, oi.op ≠ .select cs b) (hsj : ∀ cs b, oj.op ≠ .select cs b)
    (hQ : ∀ c a w, Q (.panic c) (a.put oi.dst v) w → Q (.panic c) a w) {K : Act → World → Prop} {a : Act} {w : World} (hy : YieldsIf P ops S oi v a)
    (h : wpOpIn (Fence.wide.inRound l) n P ops Q j K (a.put oi.dst v) w) : wpOpIn (Fence.wide.inRound l) n P ops Q j (fun a' w' => YieldsIf P ops S oi v a' ∧ K (a'.put oi.dst v) w') a w := by
  obtain ⟨q1, q2, q3⟩ := Oper.apart_spec hap
  have stay : ∀ (b : Act), YieldsIf P ops S oi v b → ∀ u, YieldsIf P ops S oi v (b.put oj.dst u) := fun b hb u => hb.of_same (execOp_put oi hsi b oj.dst u q3) (wanted_put oi b oj.dst u q3)
  have stayD : ∀ d, YieldsIf P ops S oi v { a with defers := d :: a.defers } := fun d => hy.of_same rfl rfl
  unfold wpOpIn at h ⊢
  simp only [hj] at h ⊢
  rw [wanted_put oj a oi.dst v q1] at h
  by_cases hw : Region.wanted oj (yielded ops a.tmps) = true
  · rw [if_pos hw] at h ⊢
    refine ⟨fun _ _ => trivial, ?_⟩
    have g := h.2
    rw [Oper.semAt_eq _ _ _ hcj, execOp_put oj hsj a oi.dst v q1] at g
    rw [Oper.semAt_eq _ _ _ hcj]
    generalize (execOp a.eval oj).run P w = r at g ⊢
    cases r with
    | halt x w' =>
      cases x <;> simp only [Oper.uponIn] at g ⊢
      case panic u => exact hQ _ _ _ g
    | ok x w' =>
      cases x <;> simp only [Oper.uponIn] at g ⊢
      case value u => exact ⟨stay a hy u, by rw [← Act.put_comm a v u q2]; exact g⟩
      case skip => exact ⟨stay a hy _, by rw [← Act.put_comm a v undef q2]; exact g⟩
      case defer d =>
        refine ⟨stay _ (stayD d) _, ?_⟩
        rw [← Act.put_comm _ v undef q2, ← Act.put_defers]
        exact g
      case enter f args =>
        refine ⟨g.1, CallsIn.mono g.2 fun e w'' he => ?_⟩
        cases e with
        | returned u => exact ⟨stay a hy u, by rw [← Act.put_comm a v u q2]; exact he⟩
        | panicked c => exact hQ _ _ _ he
        | outgrown => exact he
      case row row args => exact ⟨g.1, RowsIn.mono g.2 fun u w'' he => ⟨stay a hy u, by rw [← Act.put_comm a v u q2]; exact he⟩⟩
      case round l' f tmps assign body =>
        refine ⟨g.1, RoundIn.mono g.2 fun e w'' he => ?_⟩
        cases e with
        | returned u => exact ⟨stay a hy u, by rw [← Act.put_comm a v u q2]; exact he⟩
        | panicked c => exact hQ _ _ _ he
        | outgrown => exact he
  · rw [if_neg hw] at h ⊢
    exact ⟨fun _ _ => trivial, stay a hy _, by rw [← Act.put_comm a v undef q2]; exact h.2⟩
theorem rd_first (hcm : ops.all calmO = true) {i : Nat} {oi : Oper} {v : Value} (hi : ops[i]? = some oi) (hsel : ∀ (j : Nat) (o : Oper) cs b, ops[j]? = some o → o.op ≠ .select cs b) (hQ : ∀ c a w, Q (.panic c) (a.put oi.dst v) w → Q (.panic c) a w) :
    ∀ (k : Nat) (listed : Array Bool) (a : Act) (w : World), (∀ j oj, ops[j]? = some oj → j ≠ i → listed.getD j true = false → (∀ e ∈ oj.after, Region.binds md e = true → e.on ≠ i) → oi.apart ops oj = true) →
      i ∈ Region.ready md ops listed → YieldsIf P ops S oi v a → S w → rdAny l n P md ops Q S k (listed.setIfInBounds i true) (a.put oi.dst v) w → rdAny l n P md ops Q S (k + 1) listed a w
  | 0, listed, a, w, hfree, hr, hy, hS, H => by
    refine ⟨fun e => (by rw [e] at hr; cases hr), fun j hj => ?_⟩
    by_cases hji : j = i
    · subst hji; exact rd_yield (calm_at hcm hi) hi hy hS ⟨hS, H⟩
    · have := ready_mono hj hji
      rw [H.1] at this
      cases this
  | k + 1, listed, a, w, hfree, hr, hy, hS, H => by
    refine ⟨fun e => (by rw [e] at hr; cases hr), fun j hj => ?_⟩
    by_cases hji : j = i
    · subst hji; exact rd_yield (calm_at hcm hi) hi hy hS ⟨hS, H⟩
    · obtain ⟨hjun, oj, hoj, hall⟩ := mem_ready.1 hj
      have hnot : ∀ e ∈ oj.after, Region.binds md e = true → e.on ≠ i := fun e he hb heq => by
        have g1 := hall e he hb
        have g0 := (mem_ready.1 hr).1
        rw [heq] at g1
        rcases Nat.lt_or_ge i listed.size with hlt | hge
        · simp [hlt] at g0 g1; rw [g0] at g1; cases g1
        · simp [Array.getElem?_eq_none hge] at g1
      have h2 := rd_past (calm_at hcm hoj) hoj (hfree j oj hoj hji hjun hnot) (fun cs b => hsel i oi cs b hi) (fun cs b => hsel j oj cs b hoj) hQ hy (H.2 j (ready_mono hj hji))
      refine wpOpIn_mono (fun a' w' h3 => ⟨h3.2.1, rd_first hcm hi hsel hQ k _ a' w' (fun x ox hx hxi hun hno => hfree x ox hx hxi ?_ hno) (ready_mono hr (Ne.symm hji)) h3.1 h3.2.1 ?_⟩) h2
      · by_cases hjk : j = x
        · subst hjk; exact hjun
        · rw [getD_set_ne true hjk] at hun; exact hun
      · rw [Array.setIfInBounds_comm _ _ hji]
        exact h3.2.2
/-- one is taken first -/
theorem rd_take {i : Nat} (oi : Oper) (v : Value) {k : Nat} {listed : Array Bool} {a : Act} {w : World} (hcm : ops.all calmO = true) (hi : ops[i]? = some oi) (hs : Region.noSelect ops = true) (hf : Region.free md ops listed i = true) (hr : (Region.ready md ops listed).contains i = true)
    (hQ : ∀ c a w, Q (.panic c) (a.put oi.dst v) w → Q (.panic c) a w) (hy : YieldsIf P ops S oi v a) (hS : S w)
    (h : rdAny l n P md ops Q S k (listed.setIfInBounds i true) (a.put oi.dst v) w) : rdAny l n P md ops Q S (k + 1) listed a w :=
  rd_first hcm hi (Region.noSelect_spec hs) hQ k listed a w (Region.free_spec hi hf) (by simpa using hr) hy hS h
/-- one alone may come up -/
theorem rd_one {i : Nat} (oi : Oper) {k : Nat} {listed : Array Bool} {a : Act} {w : World} (hr : Region.ready md ops listed = [i]) (hi : ops[i]? = some oi)
    (h : ∀ K : Act → World → Prop, (∀ a' w', S w' → (S w' → rdAny l n P md ops Q S k (listed.setIfInBounds i true) a' w') → K a' w') →
      if Region.wanted oi (yielded ops a.tmps) = true then oi.wpIn (Fence.wide.inRound l) n P a w K Q else (∀ f, oi.about P w a.eval = some f → Fence.wide.fn f) ∧ K (a.put oi.dst undef) w) : rdAny l n P md ops Q S (k + 1) listed a w := by
  refine ⟨fun e => (by rw [e] at hr; cases hr), fun j hj => ?_⟩
  rw [hr, List.mem_singleton] at hj
  subst hj
  unfold wpOpIn
  simp only [hi]
  exact h _ fun a' w' h1 h2 => ⟨h1, h2 h1⟩
theorem rd_done {listed : Array Bool} {a : Act} {w : World} (hr : Region.ready md ops listed = []) (h : Q .normal a w) : ∀ k, rdAny l n P md ops Q S k listed a w
  | 0 => ⟨hr, h⟩
  | _ + 1 => ⟨fun _ => h, by rw [hr]; simp⟩
end
end Go.Proofs.Ytpkikhoicobmcaa

/- The iterator that tells each state's fall, level by level. Condition: a tree of at most 1000 nodes; an automaton whose falls are right for what was told. -/
namespace Go.Proofs.Ytpkikhoicobmcaa
open Go.RowKit Go.Shelf
attribute [local go_sem] Oper.semAt_some
set_option linter.unusedVariables false
open Tr Au
namespace Au
/-- the states when these were told -/
def Gf (L V : LL) (pre : List Nat) (j : Nat) : Nd := (num L j, if j ∈ pre then fallV L j else -1, if j ∈ pre then linkV L V j else -1)
theorem par_nat {L : LL} (hI : Inv L) {j : Nat} (h1 : 1 ≤ j) (hj : j < L.length) : ∃ u : Nat, parV L j = (u : Int) ∧ u < L.length ∧ dep L u + 1 = dep L j := by
  obtain ⟨a, b, c⟩ := hI.up j h1 hj
  refine ⟨idx L (L.getD j []).dropLast, by rw [par_at h1 hj, findV_mem b], idx_lt_iff.2 b, ?_⟩
  unfold dep
  rw [idx_at b, List.length_dropLast]
  have := List.length_pos_iff.2 a
  omega
theorem gf_fall {L V : LL} (hI : Inv L) {pre rest : List Nat} {j i : Nat} (h : order L = pre ++ j :: rest) (hi : i < L.length) (hd : dep L i < dep L j) : (Gf L V pre i).2.1 = fallV L i ∧ (Gf L V pre i).2.2 = linkV L V i := by
  unfold Gf
  by_cases h0 : i = 0
  · subst h0
    have hn : 0 ∉ pre := fun hm => by
      have := (mem_order hI).1 (by rw [h]; exact List.mem_append_left _ hm : (0 : Nat) ∈ order L)
      omega
    simp only [if_neg hn]
    exact ⟨(fall_zero L).symm, (link_zero hI V).symm⟩
  · have := order_ahead hI h (by omega) hi hd
    simp only [if_pos this]
    exact ⟨trivial, trivial⟩
end Au
section
variable {w : World} {B ab sb : Nat} {rv : Nat → Value} {L V : LL} {pre rest : List Nat} {j : Nat}
theorem gf_kd (hI : Inv L) : Kd L L.length (Gf L V pre) (data L V) := ⟨rfl, fun k _ => rfl, fun k _ => data_kids L V k⟩
theorem falls_fall (h : AuX w B ab sb L.length (Gf L V pre) rv (data L V)) (hI : Inv L) (ho : order L = pre ++ j :: rest) : Calls Try.prog 36 #[.pointer (some ⟨ab, 0, none⟩), .int .i64 (parV L j)] w fun e w' => e = .returned (.int .i64 (fallV L (parV L j))) ∧ Below w.heap.size w w' := by
  have hj := (mem_order hI).1 (by rw [ho]; simp : j ∈ order L)
  obtain ⟨u, hu, hul, hud⟩ := par_nat hI hj.1 hj.2
  rw [hu]
  have e : fallN L.length (Gf L V pre) u = fallV L u := by
    unfold fallN
    rw [if_neg (by omega), Int.toNat_natCast]
    exact (gf_fall hI ho hul (by omega)).1
  rw [← e]
  exact fall_au h u
theorem falls_behind (h : AuX w B ab sb L.length (Gf L V pre) rv (data L V)) (hI : Inv L) (ho : order L = pre ++ j :: rest) : Calls Try.prog 53 #[.pointer (some ⟨ab, 0, none⟩), .int .i64 (fallV L (parV L j)), .int .u64 (num L j)] w fun e w' => e = .returned (.int .i64 (fallV L j)) ∧ Below w.heap.size w w' := by
  have hj := (mem_order hI).1 (by rw [ho]; simp : j ∈ order L)
  obtain ⟨u, hu, hul, hud⟩ := par_nat hI hj.1 hj.2
  rw [hu]
  by_cases h0 : u = 0
  · subst h0
    rw [Int.natCast_zero, fall_zero, fall_first hI hj.1 hj.2 (by rw [hu]; rfl)]
    exact behind_none ab _
  · rw [fall_at (by omega) hul, fall_child hI hj.1 hj.2 hu (by omega) hul]
    refine behind_au h hI (gf_kd hI) _ (deep_lt hI _) (fun i hi hd => (gf_fall hI ho hi ?_).1) _
    have := fall_less hI (k := u) (by omega) hul
    unfold dep at *
    omega
end
def MadeF (ab tb : Nat) (w : World) (e : Ending) (w' : World) : Prop :=
  ∃ x y, e = .returned (.func (.func 87) #[] #[.pointer (some ⟨y, 0, none⟩), .pointer (some ⟨x, 0, none⟩)]) ∧ x ≠ y ∧ w.heap.size ≤ x ∧ w.heap.size ≤ y ∧ w'.cell? ⟨x, 0, none⟩ = some (.pointer (some ⟨ab, 0, none⟩)) ∧ w'.cell? ⟨y, 0, none⟩ = some (.pointer (some ⟨tb, 0, none⟩)) ∧ Below w.heap.size w w'
theorem falls_made (ab tb : Nat) (w : World) : Calls Try.prog 76 #[.pointer (some ⟨ab, 0, none⟩), .pointer (some ⟨tb, 0, none⟩)] w (MadeF ab tb w) := by
  go_enter Try.func76, Try.ntmps76
  go_wp2
  go_ret
  exact ⟨_, _, rfl, by omega, by omega, by omega, by simp [go_sem], by simp [go_sem], by go_grown⟩
/-- the blocks that the iterator stands on; those that it may turn itself -/
def Zf (x y tb nb n : Nat) (rv : Nat → Value) (w : World) (k : Nat) : Prop := k = x ∨ k = y ∨ Fp tb nb n rv k ∨ w.heap.size + 2 ≤ k
def Zn (w : World) (k : Nat) : Prop := w.heap.size + 2 ≤ k
set_option maxRecDepth 100000 in
set_option maxHeartbeats 4000000 in
theorem falls_gives {W0 : World} {Bt tb nb nc B ab sb x y : Nat} {rvt rv : Nat → Value} {L V : LL} (h : TrP W0 Bt tb nb nc rvt L V) (hI : Inv L) (hlen : L.length ≤ 1000) (cx : W0.cell? ⟨x, 0, none⟩ = some (.pointer (some ⟨ab, 0, none⟩))) (cy : W0.cell? ⟨y, 0, none⟩ = some (.pointer (some ⟨tb, 0, none⟩))) (hab : ab < W0.heap.size) :
    GivesK Fence.wide 2 Try.prog 87 #[.pointer (some ⟨y, 0, none⟩), .pointer (some ⟨x, 0, none⟩)] (fun j : Nat => #[.int .i64 (j : Int), .int .i64 (fallV L j)]) (Zf x y tb nb L.length rvt W0) (Zn W0) (order L) W0 (fun pre A => AuX A B ab sb L.length (Gf L V pre) rv (data L V)) := by
  intro l J Jx W hWs hW hJK hJxK hJ hJx hY h00
  have hlx : x < W0.heap.size := block_lt_of_cell cx
  have hly : y < W0.heap.size := block_lt_of_cell cy
  have hT : TrP W Bt tb nb nc rvt L V := TrX.of_blocks h fun g hg => hW.block g (TrX.lt h hg).2 (.inr (.inr (.inl hg)))
  have hFl : ∀ g, Fp tb nb L.length rvt g → g < W0.heap.size := fun g hg => (TrX.lt h hg).2
  have cx1 := hW.cell (.inl rfl) cx
  have cy1 := hW.cell (.inr (.inl rfl)) cy
  have hb := box1T W (.cells #[.func (.yield l) #[] #[]] 107)
  have HS := Lib.hid (Boxed.new W 107 (.func (.yield l) #[] #[]))
  have h01 : J [] (W.alloc (.cells #[.func (.yield l) #[] #[]] 107)) := hJ _ _ _ h00 (.alloc _ _ _)
  replace cx1 := cell_later hb cx1
  replace cy1 := cell_later hb cy1
  have hT1 := hT.later hb
  have hsz1 : (W.alloc (.cells #[.func (.yield l) #[] #[]] 107)).heap.size = W.heap.size + 1 := by simp
  obtain ⟨W1, hW1⟩ : ∃ W1, W.alloc (.cells #[.func (.yield l) #[] #[]] 107) = W1 := ⟨_, rfl⟩
  rw [hW1] at HS h01 cx1 cy1 hT1 hsz1
  obtain ⟨yb, hyb⟩ : ∃ yb, W.heap.size = yb := ⟨_, rfl⟩
  rw [hyb] at HS hsz1 hWs
  have HLV := Lib.hid (levels_tr hT1 hI hlen)
  have HJ := Lib.hid hJ
  have HJX := Lib.hid hJx
  have HJK := Lib.hid hJK
  have HJXK := Lib.hid hJxK
  have HY := Lib.hid hY
  have H01 := Lib.hid h01
  have HI := Lib.hid hI
  have HFL := Lib.hid hFl
  have HT1 := Lib.hid hT1
  clear h cx cy hT hb h00 hW hJ hJx hJK hJxK hY h01 hT1 hFl
  refine callsIn_of_wp_marks Try.func87 rfl trivial ?_ rfl
  simp only [Try.ntmps87, List.size_toArray, List.length_cons, List.length_nil, Nat.reduceAdd, Nat.reduceSub, Array.replicate_succ, Array.replicate_zero, List.push_toArray, List.append_toArray, List.nil_append, List.cons_append]
  gi_wp2_with (refine ⟨trivial, ?_⟩; gi_at_call 88; refine (callsIn_wide.2 HLV.out).mono ?_; rintro e W2 ⟨o, x2, a, c, rfl, ho, hx2, co, cx2, hown, hb2, hla⟩; have HLA := Lib.hid hla; have HB2 := Lib.hid hb2; have HCO := Lib.hid co; have HCX2 := Lib.hid cx2; have HOW := Lib.hid hown; have HCX := Lib.hid (cell_later hb2 cx1); have HCY := Lib.hid (cell_later hb2 cy1); have HT2 := Lib.hid (HT1.out.later hb2); have HYB := Lib.hid (cell_later hb2 HS.out.cell); clear co cx2 hown hb2 cx1 cy1 hla)
  have hs2 := HB2.out.size
  have hlo : o < W2.heap.size := block_lt_of_cell HCO.out
  have hlx2 : x2 < W2.heap.size := block_lt_of_cell HCX2.out
  have hsW : ∀ {A B : World}, Sep (fun k => Zy W2 k ∨ k = W2.heap.size ∨ k = W2.heap.size + 1) A B → Sep (Zn W0) A B := fun h => h.mono fun k e => by
    rcases e with e | e | e
    · exact e.elim
    · show W0.heap.size + 2 ≤ k; omega
    · show W0.heap.size + 2 ≤ k; omega
  have hlow : ∀ k, k < W2.heap.size → ¬ (Zy W2 k ∨ k = W2.heap.size ∨ k = W2.heap.size + 1) := fun k hk e => by
    rcases e with e | e | e
    · exact e
    · omega
    · omega
  have HSW := Lib.hid (fun A B (h : Sep (fun k => Zy W2 k ∨ k = W2.heap.size ∨ k = W2.heap.size + 1) A B) => hsW h)
  have HLOW := Lib.hid hlow
  have hZl : ∀ k, Zl o x2 a tb nb L.length rvt k → k < W2.heap.size := fun k e => by
    rcases e with e | e | e | e
    · omega
    · omega
    · exact (HLA.out k e).2
    · have := HFL.out k e; omega
  have HZL := Lib.hid hZl
  clear hsW hlow hZl
  have hyb2 : yb < W2.heap.size := by omega
  refine range_own1N (I := fun pre A => J pre A ∧ A.cell? ⟨yb, 0, none⟩ = some (.func (.yield l) #[] #[]) ∧ A.cell? ⟨x, 0, none⟩ = some (.pointer (some ⟨ab, 0, none⟩))) (Ix := fun c pre A => c = .ret ∧ Jx pre A) rfl (by omega) (gf := 94) (lb := #[.pointer (some ⟨o, 0, none⟩), .pointer (some ⟨x2, 0, none⟩)]) rfl trivial (enters_of Try.func94 (by kernel_rfl) rfl)
    (levels_gives HT2.out HCO.out HCX2.out HOW.out HI.out hlen 1 (by omega)) (fun k e => e.elim) (fun e => by have := HZL.out _ e; omega) (fun e => by have := HZL.out _ e; omega) (fun _ => rfl) ?hI ?hIx ?h0 ?_ ?assign ?body ?done ?stop
  case hI =>
    rintro pre A B' ⟨h1, h2, h3⟩ hs
    exact ⟨HJ.out _ _ _ h1 (HSW.out _ _ hs), hs.cell (HLOW.out _ hyb2) h2, hs.cell (HLOW.out _ (by omega)) h3⟩
  case hIx =>
    rintro c pre A B' ⟨h1, h2⟩ hs
    exact ⟨h1, HJX.out _ _ _ h2 (HSW.out _ _ hs)⟩
  case h0 => exact ⟨HJ.out _ _ _ H01.out (sep_belowT HB2.out), HYB.out, HCX.out⟩
  case assign =>
    intro l' j W' K hK
    gi_wp2
    exact hK
  case body =>
    rintro l' pre j rest W' hx hlt ⟨h1, h2, h3⟩
    have hA := HJK.out _ _ h1
    have hjm := (mem_order HI.out).1 (by rw [hx]; simp : j ∈ order L)
    have hjL : j < L.length := hjm.2
    have b0 := hA.boxes
    have c0 := (hA.cells hjL).1
    have hn9 := hA.len9
    have hjI : (j : Int) < (L.length : Int) := by omega
    have hj0 : (0 : Int) ≤ (j : Int) := Int.natCast_nonneg _
    have hS : W'.drew.cell? ⟨yb, 0, none⟩ = some (.func (.yield l) #[] #[]) ∧ W'.drew.cell? ⟨x, 0, none⟩ = some (.pointer (some ⟨ab, 0, none⟩)) ∧ W'.drew.cell? ⟨ab, 0, none⟩ = some (.slice (some ⟨sb, 0, none⟩) L.length L.length) ∧ W'.drew.cell? ⟨sb, j * 5, none⟩ = some (.int .u64 (num L j)) := ⟨h2, h3, b0, c0⟩
    have HA := Lib.hid hA
    have H1 := Lib.hid h1
    have HX := Lib.hid hx
    clear hA h1 h2 h3 b0 c0 hjm
    gi_wp2
    refine rd_begin (S := fun w' => w'.cell? ⟨yb, 0, none⟩ = some (.func (.yield l) #[] #[]) ∧ w'.cell? ⟨x, 0, none⟩ = some (.pointer (some ⟨ab, 0, none⟩)) ∧ w'.cell? ⟨ab, 0, none⟩ = some (.slice (some ⟨sb, 0, none⟩) L.length L.length) ∧ w'.cell? ⟨sb, j * 5, none⟩ = some (.int .u64 (num L j))) (by kernel_rfl) hS (fun _ => ?_)
    refine rd_take (i := 0) _ (.func (.yield l) #[] #[]) (by kernel_rfl) rfl (by kernel_rfl) (by kernel_rfl) (by kernel_rfl) (fun _ _ _ h => h) (Or.inl ⟨by rfl, fun w9 hSw => ?_⟩) hS ?_
    · obtain ⟨s1, s2, s3, s4⟩ := hSw
      go_simp
    (try simp only [Act.put, List.setIfInBounds_toArray])
    refine rd_take (i := 1) _ (.int .i64 (j : Int)) (by kernel_rfl) rfl (by kernel_rfl) (by kernel_rfl) (by kernel_rfl) (fun _ _ _ h => h) (Or.inl ⟨by rfl, fun w9 hSw => ?_⟩) hS ?_
    · obtain ⟨s1, s2, s3, s4⟩ := hSw
      go_simp
    (try simp only [Act.put])
    refine rd_take (i := 2) _ (.pointer (some ⟨ab, 0, none⟩)) (by kernel_rfl) rfl (by kernel_rfl) (by kernel_rfl) (by kernel_rfl) (fun _ _ _ h => h) (Or.inl ⟨by rfl, fun w9 hSw => ?_⟩) hS ?_
    · obtain ⟨s1, s2, s3, s4⟩ := hSw
      go_simp
    (try simp only [Act.put])
    refine rd_take (i := 3) _ (.pointer (some ⟨ab, 0, none⟩)) (by kernel_rfl) rfl (by kernel_rfl) (by kernel_rfl) (by kernel_rfl) (fun _ _ _ h => h) (Or.inl ⟨by rfl, fun w9 hSw => ?_⟩) hS ?_
    · obtain ⟨s1, s2, s3, s4⟩ := hSw
      go_simp
    (try simp only [Act.put])
    refine rd_take (i := 4) _ (.int .i64 (parV L j)) (by kernel_rfl) rfl (by kernel_rfl) (by kernel_rfl) (by kernel_rfl) (fun _ _ _ h => h) (Or.inl ⟨by rfl, fun w9 hSw => ?_⟩) hS ?_
    · obtain ⟨s1, s2, s3, s4⟩ := hSw
      go_simp
    (try simp only [Act.put])
    refine rd_take (i := 6) _ (.pointer (some ⟨ab, 0, none⟩)) (by kernel_rfl) rfl (by kernel_rfl) (by kernel_rfl) (by kernel_rfl) (fun _ _ _ h => h) (Or.inl ⟨by rfl, fun w9 hSw => ?_⟩) hS ?_
    · obtain ⟨s1, s2, s3, s4⟩ := hSw
      go_simp
    (try simp only [Act.put])
    refine rd_take (i := 7) _ (.pointer (some ⟨ab, 0, none⟩)) (by kernel_rfl) rfl (by kernel_rfl) (by kernel_rfl) (by kernel_rfl) (fun _ _ _ h => h) (Or.inl ⟨by rfl, fun w9 hSw => ?_⟩) hS ?_
    · obtain ⟨s1, s2, s3, s4⟩ := hSw
      go_simp
    (try simp only [Act.put])
    refine rd_take (i := 8) _ (.pointer (some ⟨ab, 0, none⟩)) (by kernel_rfl) rfl (by kernel_rfl) (by kernel_rfl) (by kernel_rfl) (fun _ _ _ h => h) (Or.inl ⟨by rfl, fun w9 hSw => ?_⟩) hS ?_
    · obtain ⟨s1, s2, s3, s4⟩ := hSw
      go_simp
    (try simp only [Act.put])
    refine rd_take (i := 9) _ (.slice (some ⟨sb, 0, none⟩) L.length L.length) (by kernel_rfl) rfl (by kernel_rfl) (by kernel_rfl) (by kernel_rfl) (fun _ _ _ h => h) (Or.inl ⟨by rfl, fun w9 hSw => ?_⟩) hS ?_
    · obtain ⟨s1, s2, s3, s4⟩ := hSw
      go_simp
    (try simp only [Act.put])
    refine rd_take (i := 10) _ (.int .i64 (j : Int)) (by kernel_rfl) rfl (by kernel_rfl) (by kernel_rfl) (by kernel_rfl) (fun _ _ _ h => h) (Or.inl ⟨by rfl, fun w9 hSw => ?_⟩) hS ?_
    · obtain ⟨s1, s2, s3, s4⟩ := hSw
      go_simp
    (try simp only [Act.put])
    refine rd_take (i := 11) _ (.pointer (some ⟨sb, j * 5, none⟩)) (by kernel_rfl) rfl (by kernel_rfl) (by kernel_rfl) (by kernel_rfl) (fun _ _ _ h => h) (Or.inl ⟨by rfl, fun w9 hSw => ?_⟩) hS ?_
    · obtain ⟨s1, s2, s3, s4⟩ := hSw
      go_simp
    (try simp only [Act.put])
    refine rd_take (i := 12) _ (.pointer (some ⟨sb, j * 5, none⟩)) (by kernel_rfl) rfl (by kernel_rfl) (by kernel_rfl) (by kernel_rfl) (fun _ _ _ h => h) (Or.inl ⟨by rfl, fun w9 hSw => ?_⟩) hS ?_
    · obtain ⟨s1, s2, s3, s4⟩ := hSw
      go_simp
    (try simp only [Act.put])
    refine rd_take (i := 13) _ (.int .u64 (num L j)) (by kernel_rfl) rfl (by kernel_rfl) (by kernel_rfl) (by kernel_rfl) (fun _ _ _ h => h) (Or.inl ⟨by rfl, fun w9 hSw => ?_⟩) hS ?_
    · obtain ⟨s1, s2, s3, s4⟩ := hSw
      go_simp
    (try simp only [Act.put])
    have HS := Lib.hid hS
    clear hS
    have HAd := Lib.hid (HA.out.later ((Below.refl W'.heap.size W').drew))
    have HC1 := Lib.hid (fun w3 (hb : Below W'.drew.heap.size W'.drew w3) => falls_behind (HAd.out.later hb) HI.out HX.out)
    have HC0 := Lib.hid (falls_fall HAd.out HI.out HX.out)
    refine rd_one (i := 5) _ (by kernel_rfl) rfl (fun K hK => ?_)
    go_simp
    refine ⟨trivial, rfl, ?_⟩
    refine (((callsIn_wide (n := _)).2 HC0.out).inRound l').mono ?_
    rintro e w3 ⟨rfl, hb3⟩
    have HB3 := Lib.hid hb3
    refine hK _ _ ⟨cell_later hb3 HS.out.1, cell_later hb3 HS.out.2.1, cell_later hb3 HS.out.2.2.1, cell_later hb3 HS.out.2.2.2⟩ (fun _ => ?_)
    clear hK K hb3
    (try simp only [Act.put, List.setIfInBounds_toArray, List.set_cons_zero, List.set_cons_succ])
    refine rd_one (i := 14) _ (by kernel_rfl) rfl (fun K hK => ?_)
    go_simp
    refine ⟨trivial, rfl, ?_⟩
    refine (((callsIn_wide (n := _)).2 (HC1.out _ HB3.out)).inRound l').mono ?_
    rintro e w4 ⟨rfl, hb4⟩
    have HB4 := Lib.hid (bel_step HB3.out hb4)
    have hb := HB4.out
    have hbW : Below W'.heap.size W' w4 := bel_und hb
    have HBW := Lib.hid hbW
    obtain ⟨fn, tmps, assign, body, hy, hR⟩ := HY.out pre j rest w4 HX.out (HJ.out _ _ _ H1.out (sep_belowT hbW))
    refine hK _ _ ⟨cell_later hb HS.out.1, cell_later hb HS.out.2.1, cell_later hb HS.out.2.2.1, cell_later hb HS.out.2.2.2⟩ (fun _ => ?_)
    have HY4 := Lib.hid (cell_later hb HS.out.1)
    have HX4 := Lib.hid (cell_later hb HS.out.2.1)
    clear hK K hb4 hb hbW
    (try simp only [Act.put, List.setIfInBounds_toArray, List.set_cons_zero, List.set_cons_succ])
    refine rd_one (i := 15) _ (by kernel_rfl) rfl (fun K hK => ?_)
    go_simp
    refine ⟨rfl, (RoundIn.inRoundW hR).mono ?_⟩
    rintro e W3 ⟨hh, hcase⟩
    have hH : Hold (fun k => Zl o x2 a tb nb L.length rvt k ∨ k = W2.heap.size ∨ k = W2.heap.size + 1) W' W3 := by
      have h1 : Hold (fun k => Zl o x2 a tb nb L.length rvt k ∨ k = W2.heap.size ∨ k = W2.heap.size + 1) W' w4 := ⟨HBW.out.size, fun k hk _ => HBW.out.block k hk⟩
      refine h1.trans (hh.mono fun k e => ?_)
      rcases e with (e | e | e | e) | e | e
      · exact .inr (.inr (.inr (by omega)))
      · exact .inr (.inr (.inr (by omega)))
      · exact .inr (.inr (.inr (by have := (HLA.out k e).1; omega)))
      · exact .inr (.inr (.inl e))
      · exact .inr (.inr (.inr (by omega)))
      · exact .inr (.inr (.inr (by omega)))
    have hA3 : AuX W3 B ab sb L.length (Gf L V (pre ++ [j])) rv (data L V) := by
      rcases hcase with ⟨_, h⟩ | ⟨_, h⟩
      · exact HJK.out _ _ h
      · exact HJXK.out _ _ h
    have hS3 : W3.cell? ⟨yb, 0, none⟩ = some (.func (.yield l) #[] #[]) ∧ W3.cell? ⟨x, 0, none⟩ = some (.pointer (some ⟨ab, 0, none⟩)) ∧ W3.cell? ⟨ab, 0, none⟩ = some (.slice (some ⟨sb, 0, none⟩) L.length L.length) ∧ W3.cell? ⟨sb, j * 5, none⟩ = some (.int .u64 (num L j)) :=
      ⟨hh.cell (.inr (.inr (.inr hWs))) HY4.out, hh.cell (.inl rfl) HX4.out, hA3.boxes, (hA3.cells hjL).1⟩
    have HH := Lib.hid hH
    have HS3 := Lib.hid hS3
    clear hR hy hh hH hA3 hS3
    rcases hcase with ⟨rfl, hJ3⟩ | ⟨rfl, hJx3⟩
    · have HJ3 := Lib.hid hJ3
      clear hJ3
      refine hK _ _ HS3.out (fun _ => ?_)
      clear hK K
      (try simp only [Act.put, List.setIfInBounds_toArray, List.set_cons_zero, List.set_cons_succ])
      refine rd_one (i := 16) _ (by kernel_rfl) rfl (fun K hK => ?_)
      go_simp
      refine hK _ _ HS3.out (fun _ => ?_)
      clear hK K
      refine rd_done (by kernel_rfl) ?_ _
      (try simp only [Act.put, List.setIfInBounds_toArray, List.set_cons_zero, List.set_cons_succ])
      gi_wp2
      exact ⟨HH.out, HJ3.out, HS3.out.1, HS3.out.2.1⟩
    · have HJ3 := Lib.hid hJx3
      clear hJx3
      refine hK _ _ HS3.out (fun _ => ?_)
      clear hK K
      (try simp only [Act.put, List.setIfInBounds_toArray, List.set_cons_zero, List.set_cons_succ])
      refine rd_one (i := 16) _ (by kernel_rfl) rfl (fun K hK => ?_)
      go_simp
      refine hK _ _ HS3.out (fun _ => ?_)
      clear hK K
      refine rd_done (by kernel_rfl) ?_ _
      (try simp only [Act.put, List.setIfInBounds_toArray, List.set_cons_zero, List.set_cons_succ])
      gi_wp2
      exact ⟨HH.out, rfl, HJ3.out⟩
  case done =>
    rintro W' ⟨h1, _, _⟩ hd
    have hlD : W2.heap.size < W'.heap.size := (Array.getElem?_eq_some_iff.1 hd).1
    gi_wp2
    refine ⟨by simp, .inl ⟨W2.heap.size, _, rfl, run_takeDeferred hd, _, results_none rfl _ _ _, ⟨_, rfl⟩, .inl ?_⟩⟩
    exact HJ.out _ _ _ h1 (Sep.putObj _ (show W0.heap.size + 2 ≤ W2.heap.size by omega) _)
  case stop =>
    rintro c pre W' hp ⟨rfl, h2⟩ hd
    gi_wp2
    refine ret_mark hd (results_none rfl _ _ _) ⟨⟨_, rfl⟩, .inr ⟨pre, hp, ?_⟩⟩
    exact HJX.out _ _ _ h2 (Sep.putObj _ (show W0.heap.size + 2 ≤ W2.heap.size by omega) _)
end Go.Proofs.Ytpkikhoicobmcaa

/- A node of a tree becomes a state. Condition: a tree of few nodes and words; an automaton that stands apart from it. -/
namespace Go.Proofs.Ytpkikhoicobmcaa
open Go.RowKit
set_option linter.unusedVariables false
open Tr Au
namespace Au
section
variable {w : World} {B ab sb n : Nat} {f : Nat → Nd} {rv : Nat → Value} {xs : Nat → List Int}
/-- behind a row's growth: what still stands -/
theorem AuX.still (h : AuX w B ab sb n f rv xs) {w1 : World} {i : Nat} (h1 : 1 ≤ i) (hi : i < 2 * n + 1) (hg : w.grownBy w1 (rv i).ownBlock) : (∀ a, a.block = sb ∨ a.block = ab → w1.cell? a = w.cell? a ∧ w1.frozen? a = w.frozen? a) := by
  intro a ha
  have hb : w1.heap[a.block]? = w.heap[a.block]? := by
    rcases ha with e | e
    · rw [e]; exact hg.block sb (h.lt (.inr (.inl rfl))).2 (fun e => h.row_ne h1 hi e.symm)
    · rw [e]; exact hg.block ab (h.lt (.inl rfl)).2 (fun e => h.box_ne h1 hi e.symm)
  exact ⟨World.cell?_of_block hb, World.frozen?_of_block hb⟩
theorem AuX.push_turn (h : AuX w B ab sb n f rv xs) {w1 : World} {i : Nat} (h1 : 1 ≤ i) (hi : i < 2 * n + 1) {v' : Value} (hg : w.grownBy w1 (rv i).ownBlock) (hat : v'.ownBlock = (rv i).ownBlock ∨ ∃ g, v'.ownBlock = some g ∧ w.heap.size ≤ g) (k : Nat) (v : Value) :
    Turn w (Fa ab sb n rv) (w1.setCell ⟨sb, k, none⟩ v) (Fa ab sb n (upd rv i v')) := by
  refine ⟨⟨hg.os, hg.tape, hg.output, by simp; exact hg.size, fun k hk hz => ?_⟩, fun g hgF => ?_⟩
  · rw [Below.heap_setCell w1 _ _ k (fun e => hz (.inr (.inl e)))]
    exact hg.block k hk (fun e => hz (.inr (.inr ⟨i, h1, hi, e.symm⟩)))
  · rcases hgF with e | e | ⟨j, hj1, hj, e⟩
    · exact .inl (.inl e)
    · exact .inl (.inr (.inl e))
    · by_cases hji : j = i
      · subst hji
        rw [upd_at] at e
        rcases hat with q1 | ⟨g', q1, q2⟩
        · rw [q1] at e; exact .inl (.inr (.inr ⟨j, hj1, hj, e⟩))
        · rw [q1] at e; injection e with e; exact .inr (by omega)
      · rw [upd_ne _ _ hji] at e; exact .inl (.inr (.inr ⟨j, hj1, hj, e⟩))
theorem set_turn (w : World) (ab sb n : Nat) (rv : Nat → Value) (k : Nat) (v : Value) : Turn w (Fa ab sb n rv) (w.setCell ⟨sb, k, none⟩ v) (Fa ab sb n rv) :=
  ⟨Sep.setCell _ (.inr (.inl rfl)) _, fun g h => .inl h⟩
end
theorem turn_below {w w' : World} {F F' : Nat → Prop} (h : Turn w F w' F') {w0 : World} (hb : Below w'.heap.size w' w0) : Turn w F w0 F' :=
  ⟨⟨hb.os.trans h.sep.os, hb.tape.trans h.sep.tape, hb.output.trans h.sep.output, Nat.le_trans h.sep.size hb.size, fun k hk hz => (hb.block k (Nat.lt_of_lt_of_le hk h.sep.size)).trans (h.sep.block k hk hz)⟩, h.foot⟩
theorem below_turn {w w' : World} (F : Nat → Prop) (hb : Below w.heap.size w w') : Turn w F w' F :=
  ⟨⟨hb.os, hb.tape, hb.output, hb.size, fun k hk _ => hb.block k hk⟩, fun g h => .inl h⟩
/-- the states behind the first i children -/
def kidF (L : LL) (K : List Nat) (f : Nat → Nd) (i : Nat) (j : Nat) : Nd := if j ∈ K.take i then (num L j, (f j).2.1, (f j).2.2) else f j
theorem kidF_zero (L : LL) (K : List Nat) (f : Nat → Nd) : kidF L K f 0 = f := by funext j; unfold kidF; simp
theorem kidF_succ (L : LL) (K : List Nat) (f : Nat → Nd) {i : Nat} (hi : i < K.length) : upd (kidF L K f i) (K.getD i 0) (num L (K.getD i 0), (kidF L K f i (K.getD i 0)).2.1, (kidF L K f i (K.getD i 0)).2.2) = kidF L K f (i + 1) := by
  funext j
  have ht : K.take (i + 1) = K.take i ++ [K.getD i 0] := by rw [List.take_succ_eq_append_getElem hi, gD hi]
  unfold upd kidF
  rw [ht]
  by_cases e : j = K.getD i 0
  · subst e
    rw [if_pos rfl]
    by_cases e2 : K.getD i 0 ∈ K.take i
    · rw [if_pos e2, if_pos (List.mem_append_left _ e2)]
    · rw [if_neg e2, if_pos (List.mem_append_right _ (List.mem_singleton.2 rfl))]
  · rw [if_neg e]
    by_cases e2 : j ∈ K.take i
    · rw [if_pos e2, if_pos (List.mem_append_left _ e2)]
    · rw [if_neg e2, if_neg (fun h => by rcases List.mem_append.1 h with h | h; exact e2 h; exact e (List.mem_singleton.1 h))]
def takeF (L : LL) (f : Nat → Nd) (k : Nat) : Nat → Nd := kidF L (kids L k) (upd f k ((f k).1, -1, -1)) (kids L k).length
theorem upd_upd {α : Type} (f : Nat → α) (i : Nat) (x y : α) : upd (upd f i x) i y = upd f i y := by funext j; unfold upd; by_cases e : j = i <;> simp [e]
theorem upd_self {α : Type} (f : Nat → α) (i : Nat) : upd f i (f i) = f := by funext j; unfold upd; by_cases e : j = i <;> simp [e]
theorem kid_child {L : LL} (hI : Inv L) {k i : Nat} (hk : k < L.length) (hi : i < (kids L k).length) : childV L k (num L ((kids L k).getD i 0)) = ((kids L k).getD i 0 : Nat) := child_hit hI hk hi rfl
end Au
set_option maxRecDepth 100000 in
set_option maxHeartbeats 2000000 in
theorem take_au {w : World} {Bt tb nb nc Ba ab sb n : Nat} {rvt : Nat → Value} {L V : LL} {f : Nat → Nd} {rv : Nat → Value} {xs : Nat → List Int} (hT : TrP w Bt tb nb nc rvt L V) (hI : Inv L) (hV : ∀ x ∈ V, x ∈ L) (hA : AuX w Ba ab sb n f rv xs) (hn : n = L.length) (hlen : L.length ≤ 1000) (hVl : V.length ≤ 1000)
    (hlow : ∀ g, Fp tb nb L.length rvt g → ¬ Fa ab sb n rv g) {k : Nat} (hk : k < n) (h1 : rv (2 * k + 1) = .slice none 0 0) (h2 : rv (2 * k + 2) = .slice none 0 0) :
    Calls Try.prog 75 #[.pointer (some ⟨ab, 0, none⟩), .pointer (some ⟨tb, 0, none⟩), .int .i64 k] w fun e w' => e = .returned (.tuple #[]) ∧ ∃ rv', AuX w' Ba ab sb n (takeF L f k) rv' (upd (upd xs (2 * k + 2) (wordsV L V k)) (2 * k + 1) (ints (kids L k))) ∧ (∀ j, j ≠ 2 * k + 1 → j ≠ 2 * k + 2 → rv' j = rv j) ∧ Turn w (Fa ab sb n rv) w' (Fa ab sb n rv') := by
  have HA := Lib.hid hA
  have HT := Lib.hid hT
  have HI := Lib.hid hI
  have HNL := Lib.hid hn
  have HLOW := Lib.hid hlow
  have hn9 : n ≤ 1000 := by omega
  have HWD := Lib.hid (words_tr hT hV (by omega) (k : Int))
  have b0 := hA.boxes
  have hkI : (k : Int) < (n : Int) := by omega
  have hk0 : (0 : Int) ≤ (k : Int) := Int.natCast_nonneg _
  have H1 := Lib.hid h1
  have H2 := Lib.hid h2
  clear hT hI hV hA hn hlen hVl hlow h1 h2
  go_enter Try.func75, Try.ntmps75
  go_upto_region 1 with fail
  go_upto_region 2 with (go_at_call 54; refine HWD.out.mono ?_; rintro e w1 ⟨v, rfl, hown, hb1⟩; have HOW := Lib.hid hown; have HB1 := Lib.hid hb1; have hA1 := HA.out.later hb1; obtain ⟨c0, c1, c2, c3, c4⟩ := hA1.cells hk; have fr1 := hA1.fr (k * 5 + 1); have fr2 := hA1.fr (k * 5 + 2); have fr4 := hA1.fr (k * 5 + 4); rw [H2.out] at c4; obtain ⟨wa, wc, rfl⟩ := Tr.own_form hown; clear hown hb1)
  have hA4 : AuX (((w1.setCell ⟨sb, k * 5 + 1, none⟩ (.int .i64 (-1))).setCell ⟨sb, k * 5 + 2, none⟩ (.int .i64 (-1))).setCell ⟨sb, k * 5 + 4, none⟩ (.slice wa (wordsV L V k).length wc)) Ba ab sb n (upd f k ((f k).1, -1, -1)) (upd rv (2 * k + 2) (.slice wa (wordsV L V k).length wc)) (upd xs (2 * k + 2) (wordsV L V k)) := by
    have q1 := hA1.fall hk (-1)
    have q2 := q1.link hk (-1)
    have q3 := q2.congr (g := upd f k ((f k).1, -1, -1)) (ys := xs) (fun j _ => by unfold upd; by_cases e : j = k <;> simp [e]) (fun _ _ _ => rfl)
    have hsb : ∀ g, (Value.slice wa (wordsV L V k).length wc).ownBlock = some g → w.heap.size ≤ g := fun g hg => (HOW.out.lt g hg).1
    have hfa : ∀ g, (Value.slice wa (wordsV L V k).length wc).ownBlock = some g → ¬ Fa ab sb n rv g := fun g hg hF => by have := hsb g hg; have := (HA.out.lt hF).2; omega
    have q4 := q3.push (i := 2 * k + 2) (by omega) (by omega) (w1 := (w1.setCell ⟨sb, k * 5 + 1, none⟩ (.int .i64 (-1))).setCell ⟨sb, k * 5 + 2, none⟩ (.int .i64 (-1))) (v' := .slice wa (wordsV L V k).length wc) (ys := wordsV L V k)
      (ownsRow_base (own_of_block HOW.out fun g hg => by
        have hne : g ≠ sb := fun e => hfa g hg (.inr (.inl e))
        rw [Below.heap_setCell _ _ _ _ hne, Below.heap_setCell _ _ _ _ hne]) (by have := (HA.out.lt (.inl rfl)); have := HA.out.low; omega)) (Nat.le_refl _) (fun _ _ _ => rfl)
      (by
        rcases ho : (Value.slice wa (wordsV L V k).length wc).ownBlock with _ | g
        · left; rw [H2.out]; rfl
        · right; exact ⟨g, rfl, hfa g ho⟩)
    rw [at5_words] at q4
    exact q4
  have hTu4 : Turn w (Fa ab sb n rv) (((w1.setCell ⟨sb, k * 5 + 1, none⟩ (.int .i64 (-1))).setCell ⟨sb, k * 5 + 2, none⟩ (.int .i64 (-1))).setCell ⟨sb, k * 5 + 4, none⟩ (.slice wa (wordsV L V k).length wc)) (Fa ab sb n (upd rv (2 * k + 2) (.slice wa (wordsV L V k).length wc))) := by
    have q := ((below_turn (Fa ab sb n rv) HB1.out).trans (set_turn w1 ab sb n rv (k * 5 + 1) (.int .i64 (-1)))).trans ((set_turn _ ab sb n rv (k * 5 + 2) (.int .i64 (-1))).trans (set_turn _ ab sb n rv (k * 5 + 4) (.slice wa (wordsV L V k).length wc)))
    refine ⟨q.sep, fun g hg => ?_⟩
    rcases hg with e | e | ⟨j, hj1, hj, e⟩
    · exact .inl (.inl e)
    · exact .inl (.inr (.inl e))
    · by_cases hji : j = 2 * k + 2
      · subst hji; rw [upd_at] at e; exact .inr (HOW.out.lt g e).1
      · rw [upd_ne _ _ hji] at e; exact .inl (.inr (.inr ⟨j, hj1, hj, e⟩))
  obtain ⟨W4, hW4⟩ : ∃ W4, ((w1.setCell ⟨sb, k * 5 + 1, none⟩ (.int .i64 (-1))).setCell ⟨sb, k * 5 + 2, none⟩ (.int .i64 (-1))).setCell ⟨sb, k * 5 + 4, none⟩ (.slice wa (wordsV L V k).length wc) = W4 := ⟨_, rfl⟩
  rw [hW4] at hA4 hTu4
  try rw [hW4]
  clear hW4
  obtain ⟨fk, hf1⟩ : ∃ f1, upd f k ((f k).1, -1, -1) = f1 := ⟨_, rfl⟩
  obtain ⟨rv4, hrv4⟩ : ∃ rv4, upd rv (2 * k + 2) (.slice wa (wordsV L V k).length wc) = rv4 := ⟨_, rfl⟩
  obtain ⟨xs4, hxs4⟩ : ∃ xs4, upd xs (2 * k + 2) (wordsV L V k) = xs4 := ⟨_, rfl⟩
  have hv0 : rv4 (2 * k + 1) = .slice none 0 0 := by rw [← hrv4, upd_ne _ _ (by omega)]; exact H1.out
  have hrvo : ∀ j, j ≠ 2 * k + 2 → rv4 j = rv j := fun j hj => by rw [← hrv4, upd_ne _ _ hj]
  have hx0 : xs4 (2 * k + 1) = [] := by
    rw [← hxs4, upd_ne _ _ (by omega)]
    have := (HA.out.rows (2 * k + 1) (by omega) (by omega)).2
    rw [H1.out] at this
    rcases this with ⟨_, e⟩ | ⟨_, _, _, e, _⟩
    · exact List.eq_nil_of_length_eq_zero e
    · cases e
  have HF1 : Hid (takeF L f k = kidF L (kids L k) fk (kids L k).length) := Lib.hid (by unfold takeF; rw [hf1])
  have HXS : Hid (upd xs (2 * k + 2) (wordsV L V k) = xs4) := Lib.hid hxs4
  rw [hf1, hrv4, hxs4] at hA4
  rw [hrv4] at hTu4
  have hT4 : TrP W4 Bt tb nb nc rvt L V := TrX.of_blocks HT.out fun g hg => hTu4.sep.block g (TrX.lt HT.out hg).2 (HLOW.out g hg)
  have hkL : k < L.length := by have := HNL.out; omega
  have HKD := Lib.hid (kids_tr hT4 (k : Int) (by have := HNL.out; omega))
  have hkv : kidsV L k = (kids L k).map (num L) := by unfold kidsV; rw [if_neg (by unfold out; omega), Int.toNat_natCast]
  rw [hkv] at HKD
  have HA4 := Lib.hid hA4
  have HT4 := Lib.hid hTu4
  have HV0 := Lib.hid hv0
  have HX0 := Lib.hid hx0
  have HRO := Lib.hid hrvo
  have HCH := Lib.hid (fun i hi => kid_child HI.out hkL (i := i) hi)
  have HKM : Hid (∀ i, i < (kids L k).length → (kids L k).getD i 0 < n) := Lib.hid fun i hi => by rw [HNL.out]; exact (kids_mem.1 (gD_mem (d := 0) hi)).1
  have hm9 : (kids L k).length ≤ 1000 := by have := kids_len L k; have := HNL.out; omega
  have HKS := Lib.hid (fun i hi => kidF_succ L (kids L k) fk (i := i) hi)
  have HK0 := Lib.hid (kidF_zero L (kids L k) fk)
  generalize hKe : kids L k = K at *
  have HKE := Lib.hid hKe
  clear hKe
  obtain ⟨m, hm⟩ : ∃ m, K.length = m := ⟨_, rfl⟩
  have HML := Lib.hid hm
  rw [hm] at HKM hm9 HF1
  clear hA4 hTu4 hT4 hkv hv0 hx0 hrvo hf1 hrv4 hxs4 hA1 c0 c1 c2 c3 c4 fr1 fr2 fr4 b0
  go_wp2_with (go_at_call 86; refine HKD.out.mono ?_; rintro e w5 ⟨v, rfl, hown, hb5⟩; have HO5 := Lib.hid hown; have HB5 := Lib.hid hb5; rw [List.length_map, HML.out] at hown; obtain ⟨pa, pc, rfl⟩ := Tr.own_form hown; clear hown hb5)
  obtain ⟨F5, hF5⟩ : ∃ F5, Fa ab sb n rv4 = F5 := ⟨_, rfl⟩
  have hpx : ∀ w', Sep F5 w5 w' → ∀ i, i < m → ∃ b o, pa = some ⟨b, o, none⟩ ∧ w'.cell? ⟨b, o + i, none⟩ = some (.int .u64 (num L (K.getD i 0))) := fun w' hs i hi => by
    have hrow : w'.ownsRow W4.heap.size 51 1 (.slice pa m pc) m ((K.map (num L)).map (Value.int .u64)) := by
      have h0 := HO5.out
      rw [List.length_map, HML.out] at h0
      exact own_of_block h0 fun g hg => hs.block g (h0.lt g hg).2 (fun e => by
        rw [← hF5] at e
        have := (HA4.out.lt e).2
        have := (h0.lt g hg).1
        omega)
    obtain ⟨g, c', ev', _, _⟩ := hrow.form (by omega)
    injection ev' with e1 e2 e3
    rw [e1] at hrow
    refine ⟨g, 0, e1, ?_⟩
    rw [Nat.zero_add, ints_cell hrow hi, gD (by rw [List.length_map, HML.out]; exact hi), gD (by rw [HML.out]; exact hi), List.getElem_map]
  have HPX := Lib.hid hpx
  have hA5 : AuX w5 Ba ab sb n (kidF L K fk 0) (upd rv4 (2 * k + 1) (.slice none 0 0)) (upd xs4 (2 * k + 1) (ints (K.take 0))) := by
    rw [HK0.out, ← HV0.out, upd_self, List.take_zero, show ints [] = xs4 (2 * k + 1) by rw [HX0.out]; rfl, upd_self]
    exact HA4.out.later HB5.out
  have hTu5 : Turn w (Fa ab sb n rv) w5 F5 := by rw [← hF5]; exact turn_below HT4.out HB5.out
  have hT55 : Turn w5 F5 w5 (Fa ab sb n (upd rv4 (2 * k + 1) (.slice none 0 0))) := by
    rw [← hF5, ← HV0.out, upd_self]; exact Turn.refl _ _
  have HA5 := Lib.hid hA5
  have HT5 := Lib.hid hTu5
  have HT55 := Lib.hid hT55
  obtain ⟨i1, hi1, hy0, hy1, hy2⟩ := info_parts Try.info_int
  clear hpx hA5 hTu5 hT55 hF5
  go_loopw [32] (fun s32 wr => ∃ i : Nat, i ≤ m ∧ s32 = .int .i64 i ∧ ∃ v, AuX wr Ba ab sb n (kidF L K fk i) (upd rv4 (2 * k + 1) v) (upd xs4 (2 * k + 1) (ints (K.take i))) ∧ Turn w5 F5 wr (Fa ab sb n (upd rv4 (2 * k + 1) v))) (fun s32 _ => m - (intOf s32).toNat)
  case atStart => exact ⟨0, Nat.zero_le _, rfl, _, HA5.out, HT55.out⟩
  case round =>
    obtain ⟨i, hi, rfl, v, hAr, hTr⟩ := hrel
    have HAr := Lib.hid hAr
    have HTr := Lib.hid hTr
    have b0 := hAr.boxes
    clear hAr hTr
    by_cases hlt : i < m
    · have hltI : (i : Int) < (m : Int) := by omega
      have hi0 : (0 : Int) ≤ (i : Int) := Int.natCast_nonneg _
      obtain ⟨b, o, rfl, hcell⟩ := HPX.out wr HTr.out.sep i hlt
      have hjn := HKM.out i hlt
      have hch := HCH.out i (by rw [HML.out]; exact hlt)
      have hks := HKS.out i (by rw [HML.out]; exact hlt)
      have htk : ints (K.take (i + 1)) = ints (K.take i) ++ [((K.getD i 0 : Nat) : Int)] := by
        unfold ints
        rw [List.take_succ_eq_append_getElem (by rw [HML.out]; exact hlt), gD (by rw [HML.out]; exact hlt), List.map_append, List.map_singleton]
      obtain ⟨j, hj⟩ : ∃ j, K.getD i 0 = j := ⟨_, rfl⟩
      rw [hj] at hcell hjn hch hks htk
      obtain ⟨p, hp⟩ : ∃ p, num L j = p := ⟨_, rfl⟩
      rw [hp] at hcell hch hks
      have hTt : TrP wr Bt tb nb nc rvt L V := TrX.of_blocks HT.out fun g hg => (HT5.out.trans HTr.out).sep.block g (TrX.lt HT.out hg).2 (HLOW.out g hg)
      have HCC := Lib.hid (child_tr hTt HI.out (k : Int) p)
      rw [hch] at HCC
      have HKS2 := Lib.hid hks
      have HTK := Lib.hid htk
      have hjI : (j : Int) < (n : Int) := by omega
      have hj0 : (0 : Int) ≤ (j : Int) := Int.natCast_nonneg _
      clear hch hks htk hj hp hTt
      go_upto_region 7 with (go_at_call 55; refine HCC.out.mono ?_; rintro e w6 ⟨rfl, hb6⟩; have HB6 := Lib.hid hb6; have hA6 := HAr.out.later hb6; have b6 := hA6.boxes; obtain ⟨c0, c1, c2, c3, c4⟩ := hA6.cells hjn; have fr0 := hA6.fr (j * 5); clear hb6 c1 c2 c3 c4)
      have hA7 := (HAr.out.later HB6.out).num hjn p
      have hT7 : Turn w5 F5 (w6.setCell ⟨sb, j * 5, none⟩ (.int .u64 p)) (Fa ab sb n (upd rv4 (2 * k + 1) v)) := (turn_below HTr.out HB6.out).trans (set_turn _ _ _ _ _ _ _)
      obtain ⟨W7, hW7⟩ : ∃ W7, w6.setCell ⟨sb, j * 5, none⟩ (.int .u64 p) = W7 := ⟨_, rfl⟩
      rw [hW7] at hA7 hT7
      try rw [hW7]
      rw [HKS2.out] at hA7
      have hr7 := hA7.rows (2 * k + 1) (by omega) (by omega)
      have hil : (ints (K.take i)).length = i := by unfold ints; rw [List.length_map, List.length_take, HML.out]; omega
      rw [upd_at, upd_at, hil] at hr7
      obtain ⟨ra, rc, rfl⟩ := Tr.own_form hr7
      have c3 := (hA7.cells hk).2.2.2.1
      rw [upd_at] at c3
      have b7 := hA7.boxes
      have fr3 := hA7.fr (k * 5 + 3)
      have hsz7 : Ba ≤ W7.heap.size := by have := hA7.lt (.inl rfl); have := hA7.low; omega
      have HR7 := Lib.hid hr7
      have HA7 := Lib.hid hA7
      have HT7 := Lib.hid hT7
      have c3a := cell_later (box1T W7 (.cells #[.int .i64 (j : Int)] 3)) c3
      have him : i < 1000 := by omega
      clear hA7 hT7 hr7 hW7 hil c0 fr0 b6 hA6 b0
      go_wp2_with (at_builtin; refine wpList_append_lies _ rfl _ _ 31 rfl Ba 3 i1 (.int .i64 0) 1 8 Try.underlying31 hi1 hy0 hy1 hy2 rfl (by decide) (.slice ra i rc) i _ rfl (HR7.out.alloc _) ⟨W7.heap.size, 0, none⟩ 1 1 [.int .i64 (j : Int)] rfl rfl (one_newT2 _ _ _) (by simp [Value.oneCell']) (by omega) (by unfold maxLen; omega) (by omega) (by simp; omega) _ rfl ?_; intro gg cc w8 hown hgrow hat _; have hg8 : W7.grownBy w8 (upd rv4 (2 * k + 1) (.slice ra i rc) (2 * k + 1)).ownBlock := (by rw [upd_at]; exact grown_trans2 hgrow); have hst := AuX.still HA7.out (by omega) (by omega) hg8; have q3 := (hst ⟨sb, k * 5 + 3, none⟩ (.inl rfl)).1.trans c3; have qf := (hst ⟨sb, k * 5 + 3, none⟩ (.inl rfl)).2.trans fr3; have HOWN := Lib.hid hown; have HG8 := Lib.hid hg8; have HAT := Lib.hid hat; clear hown hgrow hat hg8 hst)
      go_roundw
      case rel =>
        have hat8 : (Value.slice (some ⟨gg, 0, none⟩) (i + 1) cc).ownBlock = (upd rv4 (2 * k + 1) (.slice ra i rc) (2 * k + 1)).ownBlock ∨ ∃ g, (Value.slice (some ⟨gg, 0, none⟩) (i + 1) cc).ownBlock = some g ∧ W7.heap.size ≤ g := by
          rcases HAT.out with e | e
          · left; rw [upd_at]; exact e.symm
          · right; exact ⟨gg, rfl, by rw [e]; simp⟩
        have hP := HA7.out.push (i := 2 * k + 1) (by omega) (by omega) (w1 := w8) (v' := .slice (some ⟨gg, 0, none⟩) (i + 1) cc) (ys := ints (K.take (i + 1))) (by
            rw [HTK.out, List.length_append, List.length_singleton, List.map_append]
            have hil : (ints (K.take i)).length = i := by unfold ints; rw [List.length_map, List.length_take, HML.out]; omega
            rw [hil]
            exact HOWN.out) HG8.out.size (fun g hg hne => HG8.out.block g hg (fun e => hne e.symm)) (by
            rcases hat8 with e | ⟨g, e1, e2⟩
            · exact .inl e
            · exact .inr ⟨g, e1, fun hF => by have := (HA7.out.lt hF).2; omega⟩)
        have hQ := HA7.out.push_turn (i := 2 * k + 1) (by omega) (by omega) (w1 := w8) (v' := .slice (some ⟨gg, 0, none⟩) (i + 1) cc) HG8.out hat8 (k * 5 + 3) (.slice (some ⟨gg, 0, none⟩) (i + 1) cc)
        rw [at5_kids, upd_upd, upd_upd] at hP
        rw [upd_upd] at hQ
        exact ⟨i + 1, by omega, by go_num, _, hP, HT7.out.trans hQ⟩
      case measure => simp [intOf]; omega
    · obtain rfl : i = m := by omega
      have hltI : ¬ (i : Int) < (i : Int) := by omega
      go_wp2
      go_end0
      have hfin := HAr.out
      rw [List.take_of_length_le (by rw [HML.out]; exact Nat.le_refl _)] at hfin
      rw [HF1.out, HXS.out, HKE.out]
      exact ⟨rfl, _, hfin, fun j h1 h2 => by rw [upd_ne _ _ h1]; exact HRO.out j h2, HT5.out.trans HTr.out⟩
end Go.Proofs.Ytpkikhoicobmcaa

/- An automaton is made of a tree. Condition: a tree of at most 1000 nodes and words. -/
namespace Go.Proofs.Ytpkikhoicobmcaa
open Go.RowKit Go.Shelf
attribute [local go_sem] Oper.semAt_some
set_option linter.unusedVariables false
open Tr Au
theorem Try.info_state : (Try.prog.info? 96).map (fun i => (i.zero, i.size, i.bytes)) = some (some (.agg #[.int .u64 0, .int .i64 0, .int .i64 0, .slice none 0 0, .slice none 0 0]), 5, 72) := by kernel_rfl
namespace Au
def f00 : Nat → Nd := fun _ => (0, 0, 0)
def r00 : Nat → Value := fun _ => .slice none 0 0
def TF (L : LL) : Nat → Nat → Nd
  | 0 => f00
  | i + 1 => takeF L (TF L i) i
def TX (L V : LL) : Nat → Nat → List Int
  | 0 => fun _ => []
  | i + 1 => upd (upd (TX L V i) (2 * i + 2) (wordsV L V i)) (2 * i + 1) (ints (kids L i))
theorem made_states (n : Nat) : (madeCells #[.int .u64 0, .int .i64 0, .int .i64 0, .slice none 0 0, .slice none 0 0] (n * 5)).toList = nds f00 r00 n := by
  apply List.ext_getElem?
  intro i
  by_cases hi : i < n * 5
  · obtain ⟨k, c, hk, hc, rfl⟩ : ∃ k c, k < n ∧ c < 5 ∧ i = k * 5 + c := ⟨i / 5, i % 5, by omega, by omega, by omega⟩
    rw [nds_get f00 r00 hk hc]
    have hs : k * 5 + c < (madeCells #[.int .u64 0, .int .i64 0, .int .i64 0, .slice none 0 0, .slice none 0 0] (n * 5)).size := by rw [size_madeCells]; exact hi
    rw [Array.getElem?_toList, Array.getElem?_eq_getElem hs]
    simp only [madeCells, Array.getElem_map, Array.getElem_range]
    have hm : (k * 5 + c) % 5 = c := by omega
    have hcs : c = 0 ∨ c = 1 ∨ c = 2 ∨ c = 3 ∨ c = 4 := by omega
    show some (#[Value.int .u64 0, .int .i64 0, .int .i64 0, .slice none 0 0, .slice none 0 0][(k * 5 + c) % 5]!) = _
    rw [hm]
    rcases hcs with rfl | rfl | rfl | rfl | rfl <;> rfl
  · rw [List.getElem?_eq_none (by rw [Array.length_toList, size_madeCells]; omega), List.getElem?_eq_none (by rw [nds_len]; omega)]
theorem TX_at (L V : LL) : ∀ i m, TX L V i m = if 1 ≤ m ∧ m < 2 * i + 1 then data L V m else []
  | 0, m => by rw [if_neg (by omega)]; rfl
  | i + 1, m => by
    show upd (upd (TX L V i) (2 * i + 2) (wordsV L V i)) (2 * i + 1) (ints (kids L i)) m = _
    by_cases e1 : m = 2 * i + 1
    · subst e1; rw [upd_at, if_pos (by omega), data_kids]; rfl
    · rw [upd_ne _ _ e1]
      by_cases e2 : m = 2 * i + 2
      · subst e2; rw [upd_at, if_pos (by omega), data_words]
      · rw [upd_ne _ _ e2, TX_at L V i m]
        by_cases e3 : 1 ≤ m ∧ m < 2 * i + 1
        · rw [if_pos e3, if_pos (by omega)]
        · rw [if_neg e3, if_neg (by omega)]
theorem num_zero {L : LL} (hI : Inv L) : num L 0 = 0 := by unfold num; rw [hI.root]; rfl
theorem TF_at {L : LL} (hI : Inv L) {j : Nat} (hj : j < L.length) : ∀ i, i ≤ L.length → TF L i j = (if parV L j < i then num L j else 0, if j < i then -1 else 0, if j < i then -1 else 0)
  | 0, _ => by
    show f00 j = _
    have hp := (parV_in L j).1
    rw [if_neg (show ¬ j < 0 by omega)]
    by_cases e : parV L j < (0 : Nat)
    · rw [if_pos e]
      by_cases h0 : j = 0
      · subst h0; rw [num_zero hI]; rfl
      · obtain ⟨u, hu, _⟩ := par_nat hI (by omega : 1 ≤ j) hj
        rw [hu] at e; omega
    · rw [if_neg e]; rfl
  | i + 1, hi => by
    have ih := TF_at hI hj i (by omega)
    have ihi : TF L (i + 1) j = takeF L (TF L i) i j := rfl
    rw [ihi]
    unfold takeF kidF
    rw [List.take_of_length_le (Nat.le_refl _)]
    have hm : j ∈ kids L i ↔ parV L j = (i : Int) := by
      rw [kids_mem]; unfold isKid; rw [decide_eq_true_iff]
      exact ⟨fun h => h.2, fun h => ⟨hj, h⟩⟩
    have hf : ∀ z, (upd (TF L i) i ((TF L i i).1, -1, -1) z) = if z = i then ((TF L i i).1, -1, -1) else TF L i z := fun z => rfl
    by_cases e1 : j = i
    · subst e1
      rw [hf, if_pos rfl, ih, if_pos (show j < j + 1 by omega)]
      by_cases e2 : parV L j = (j : Int)
      · rw [if_pos (hm.2 e2), if_pos (show parV L j < ((j + 1 : Nat) : Int) by omega)]
      · rw [if_neg (fun h => e2 (hm.1 h))]
        by_cases e3 : parV L j < (j : Int)
        · rw [if_pos e3, if_pos (show parV L j < ((j + 1 : Nat) : Int) by omega)]
        · rw [if_neg e3, if_neg (show ¬ parV L j < ((j + 1 : Nat) : Int) by omega)]
    · rw [hf, if_neg e1, ih]
      have hlt : ∀ (a b : Int), (if j < i + 1 then a else b) = if j < i then a else b := fun a b => by
        by_cases q : j < i
        · rw [if_pos q, if_pos (by omega)]
        · rw [if_neg q, if_neg (by omega)]
      rw [hlt]
      by_cases e2 : parV L j = (i : Int)
      · rw [if_pos (hm.2 e2), if_pos (show parV L j < ((i + 1 : Nat) : Int) by omega)]
      · rw [if_neg (fun h => e2 (hm.1 h))]
        by_cases e3 : parV L j < (i : Int)
        · rw [if_pos e3, if_pos (show parV L j < ((i + 1 : Nat) : Int) by omega)]
        · rw [if_neg e3, if_neg (show ¬ parV L j < ((i + 1 : Nat) : Int) by omega)]
theorem TF_all {L V : LL} (hI : Inv L) {j : Nat} (hj : j < L.length) : TF L L.length j = Gf L V [] j := by
  rw [TF_at hI hj _ (Nat.le_refl _), if_pos (by have := parV_in L j; omega), if_pos hj]
  rfl
theorem TX_all (L V : LL) {m : Nat} (h1 : 1 ≤ m) (h2 : m < 2 * L.length + 1) : TX L V L.length m = data L V m := by rw [TX_at, if_pos ⟨h1, h2⟩]
/-- new states lie there -/
theorem AuX.made {w W : World} {sb ab n : Nat} (L V : LL) (hB : w.heap.size ≤ sb) (hB2 : w.heap.size ≤ ab) (hn : n ≤ 1000) (h1 : W.heap[sb]? = some (.cells (madeCells #[.int .u64 0, .int .i64 0, .int .i64 0, .slice none 0 0, .slice none 0 0] (n * 5)) 96 (0, 0))) (h2 : W.heap[ab]? = some (.cells #[.slice (some ⟨sb, 0, none⟩) n n] 101 (0, 0))) :
    AuX W w.heap.size ab sb n (TF L 0) r00 (TX L V 0) := by
  refine ⟨hB2, h2, ⟨by rw [show TF L 0 = f00 from rfl, nds_len], .inr ⟨sb, n, _, rfl, hB, h1, Nat.le_refl _, by unfold maxLen; omega, by rw [size_madeCells], by rw [made_states, List.take_of_length_le (by rw [nds_len]; exact Nat.le_refl _)]; rfl⟩⟩, fun i _ _ => World.ownsRow_nil _ _ _ _, fun i j _ _ _ _ _ => .inl rfl⟩
end Au
theorem falls_end {w : World} {B ab sb : Nat} {rv : Nat → Value} {L V : LL} {pre rest : List Nat} {j : Nat} (h : AuX w B ab sb L.length (Gf L V pre) rv (data L V)) (hI : Iw L V) (ho : order L = pre ++ j :: rest) : Calls Try.prog 57 #[.pointer (some ⟨ab, 0, none⟩), .int .i64 (fallV L j)] w fun e w' => e = .returned (.int .i64 (linkV L V j)) ∧ Below w.heap.size w w' := by
  have hj := (mem_order hI.inv).1 (by rw [ho]; simp : j ∈ order L)
  have hk := deep_lt hI.inv (L.getD j []).tail
  have hd := fall_less hI.inv hj.1 hj.2
  have hc := end_au h (fallV L j)
  rw [fall_at hj.1 hj.2] at hc ⊢
  rw [link_fall hI.inv (fun x hx => (hI.ws x hx).1) hj.2]
  generalize deep L (L.getD j []).tail = k at *
  have e : endN L.length (Gf L V pre) (data L V) k = endV L V k := by
    unfold endN
    rw [if_neg (by omega), Int.toNat_natCast, data_words]
    by_cases hw : wordsV L V k = []
    · rw [if_pos hw, end_link hI.inv hk hw]
      exact (gf_fall hI.inv ho hk hd).2
    · rw [if_neg hw, end_words hI.inv hk hw (fun h0 => (hI.ws [] h0).2 rfl)]
  rw [← e]
  exact hc
theorem gf_snoc {L V : LL} {pre : List Nat} {j : Nat} (k : Nat) : upd (upd (Gf L V pre) j ((Gf L V pre j).1, fallV L j, (Gf L V pre j).2.2)) j ((upd (Gf L V pre) j ((Gf L V pre j).1, fallV L j, (Gf L V pre j).2.2) j).1, (upd (Gf L V pre) j ((Gf L V pre j).1, fallV L j, (Gf L V pre j).2.2) j).2.1, linkV L V j) k = Gf L V (pre ++ [j]) k := by
  by_cases e : k = j
  · subst e
    simp only [upd_at]
    unfold Gf
    simp
  · rw [upd_ne _ _ e, upd_ne _ _ e]
    unfold Gf
    simp [e]
set_option maxRecDepth 100000 in
set_option maxHeartbeats 4000000 in
theorem new_au {w : World} {Bt tb nb nc : Nat} {rvt : Nat → Value} {L V : LL} (hT : TrP w Bt tb nb nc rvt L V) (hI : Iw L V) (hlen : L.length ≤ 1000) (hVl : V.length ≤ 1000) :
    Calls Try.prog 49 #[.pointer (some ⟨tb, 0, none⟩)] w fun e w' => ∃ ab sb rv, e = .returned (.pointer (some ⟨ab, 0, none⟩)) ∧ AuX w' w.heap.size ab sb L.length (Gf L V (order L)) rv (data L V) ∧ Below w.heap.size w w' := by
  have HLE := Lib.hid (len_tr hT)
  obtain ⟨i0, hi, hz0, hz1, hz2⟩ := info_parts Try.info_state
  obtain ⟨n, hn⟩ : ∃ n, L.length = n := ⟨_, rfl⟩
  have hn9 : n ≤ 1000 := by omega
  have hmk : (Instr.makeSlice 99 (.int .i64 (n : Int)) (.int .i64 (n : Int))).run Try.prog w = .ok (.slice (some ⟨w.heap.size, 0, none⟩) n n) (w.alloc (.cells (madeCells #[.int .u64 0, .int .i64 0, .int .i64 0, .slice none 0 0, .slice none 0 0] (n * 5)) 96)) := by
    have h := run_make (P := Try.prog) w 99 96 i0 _ Try.underlying99 hi hz0 .i64 .i64 (n : Int) (n : Int) (by omega) (Int.le_refl _) (by rw [hz2]; omega) (by omega)
    rw [hz1, Int.toNat_natCast] at h
    exact h
  have hb1 := box1T w (.cells (madeCells #[.int .u64 0, .int .i64 0, .int .i64 0, .slice none 0 0, .slice none 0 0] (n * 5)) 96)
  have hsb := World.alloc_heap_new w (.cells (madeCells #[.int .u64 0, .int .i64 0, .int .i64 0, .slice none 0 0, .slice none 0 0] (n * 5)) 96)
  have hs1 : (w.alloc (.cells (madeCells #[.int .u64 0, .int .i64 0, .int .i64 0, .slice none 0 0, .slice none 0 0] (n * 5)) 96)).heap.size = w.heap.size + 1 := by simp
  obtain ⟨W1, hW1⟩ : ∃ W1, w.alloc (.cells (madeCells #[.int .u64 0, .int .i64 0, .int .i64 0, .slice none 0 0, .slice none 0 0] (n * 5)) 96) = W1 := ⟨_, rfl⟩
  rw [hW1] at hmk hb1 hsb hs1
  obtain ⟨sb, hsbe⟩ : ∃ sb, w.heap.size = sb := ⟨_, rfl⟩
  rw [hsbe] at hmk hsb hs1
  rw [hn] at HLE
  have HT := Lib.hid hT
  have HI := Lib.hid hI
  have HN := Lib.hid hn
  have HSB := Lib.hid hsb
  have HB1 := Lib.hid hb1
  have HVL := Lib.hid hVl
  have HFL : Hid (∀ g, Fp tb nb L.length rvt g → g < w.heap.size) := Lib.hid fun g hg => (TrX.lt hT hg).2
  clear hT hI hn hsb hb1 hW1 hVl hlen hi hz0 hz1 hz2
  refine calls_of_marks Try.func49 rfl ?_
  simp only [Try.ntmps49, List.size_toArray, List.length_cons, List.length_nil, Nat.reduceAdd, Nat.reduceSub, Array.replicate_succ, Array.replicate_zero, List.push_toArray, List.append_toArray, List.nil_append, List.cons_append]
  go_upto_region 2 with (go_at_call 74; refine HLE.out.mono ?_; rintro e w1 ⟨rfl, rfl⟩)
  have HSE := Lib.hid hsbe
  obtain ⟨W2, hW2⟩ : ∃ W2, W1.alloc (.cells #[.slice (some ⟨sb, 0, none⟩) n n] 101) = W2 := ⟨_, rfl⟩
  have hb2 : Below W1.heap.size W1 W2 := by rw [← hW2]; exact box1T _ _
  have hab2 : W2.heap[sb + 1]? = some (.cells #[.slice (some ⟨sb, 0, none⟩) n n] 101 (0, 0)) := by
    have := World.alloc_heap_new W1 (.cells #[.slice (some ⟨sb, 0, none⟩) n n] 101)
    rwa [hW2, hs1] at this
  have hs2 : W2.heap.size = sb + 2 := by rw [← hW2]; simp [hs1]
  rw [hW2]
  obtain ⟨W3, hW3⟩ : ∃ W3, W2.alloc (.cells #[.pointer (some ⟨sb + 1, 0, none⟩)] 60) = W3 := ⟨_, rfl⟩
  have hb3 : Below W2.heap.size W2 W3 := by rw [← hW3]; exact box1T _ _
  have cq : W3.cell? ⟨sb + 1 + 1, 0, none⟩ = some (.pointer (some ⟨sb + 1, 0, none⟩)) := by
    have := (Boxed.new W2 60 (.pointer (some ⟨sb + 1, 0, none⟩))).cell
    rwa [hW3, hs2] at this
  rw [hW3]
  have hsb3 : W3.heap[sb]? = _ := (hb3.block sb (by omega)).trans ((hb2.block sb (by omega)).trans HSB.out)
  have hab3 := (hb3.block (sb + 1) (by omega)).trans hab2
  have hb03 : Below w.heap.size w W3 := bel_step (bel_step HB1.out hb2) hb3
  obtain ⟨ab, hab⟩ : ∃ ab, sb + 1 = ab := ⟨_, rfl⟩
  rw [hab] at hab3 cq
  rw [hab]
  obtain ⟨q, hq⟩ : ∃ q, ab + 1 = q := ⟨_, rfl⟩
  rw [hq] at cq
  rw [hq]
  have hA3 := AuX.made L V (show w.heap.size ≤ sb by omega) (show w.heap.size ≤ ab by omega) hn9 hsb3 hab3
  have HB3 := Lib.hid hb03
  have HA3 := Lib.hid hA3
  have HCQ := Lib.hid cq
  have b0 := hA3.boxes
  have HQ : Hid (sb < q ∧ ab < q ∧ w.heap.size ≤ q) := Lib.hid (by omega)
  clear hb2 hab2 hs2 hW2 hW3 hb3 hsb3 hab3 hb03 hA3 hs1 hmk hab hq hsbe HLE
  go_wp2
  go_loopw [17] (fun s17 wr => ∃ i : Nat, i ≤ n ∧ s17 = .int .i64 i ∧ ∃ rv, AuX wr w.heap.size ab sb n (TF L i) rv (TX L V i) ∧ (∀ j, 2 * i + 1 ≤ j → rv j = .slice none 0 0) ∧ wr.cell? ⟨q, 0, none⟩ = some (.pointer (some ⟨ab, 0, none⟩)) ∧ Below w.heap.size w wr ∧ ¬ Fa ab sb n rv q) (fun s17 _ => n - (intOf s17).toNat)
  case atStart =>
    refine ⟨0, Nat.zero_le _, rfl, r00, HA3.out, fun _ _ => rfl, HCQ.out, HB3.out, fun h => ?_⟩
    have := HQ.out
    rcases h with e | e | ⟨j, _, _, e⟩
    · omega
    · omega
    · cases e
  case round =>
    obtain ⟨i, hi, rfl, rv, hA, hnil, hcq, hb, hnq⟩ := hrel
    have HA := Lib.hid hA
    have HB := Lib.hid hb
    have HCQr := Lib.hid hcq
    have HNQ := Lib.hid hnq
    have HNIL := Lib.hid hnil
    by_cases hlt : i < n
    · have hltI : (i : Int) < (n : Int) := by omega
      have hi0 : (0 : Int) ≤ (i : Int) := Int.natCast_nonneg _
      have hTr := HT.out.later hb
      have hTK := take_au hTr HI.out.inv (fun x hx => (HI.out.ws x hx).1) hA HN.out.symm (by rw [HN.out]; exact hn9) HVL.out (fun g hg hF => by have := HFL.out g hg; have := (hA.lt hF).1; omega) hlt (hnil _ (by omega)) (hnil _ (by omega))
      have HTK := Lib.hid hTK
      clear hTK hTr hA hnil hb hnq b0
      go_wp2_with (go_at_call 75; refine HTK.out.mono ?_; rintro e w5 ⟨rfl, rv', hA5, hrv5, hTu5⟩; have HA5 := Lib.hid hA5; have HRV5 := Lib.hid hrv5; have HTU5 := Lib.hid hTu5; clear hA5 hrv5 hTu5)
      go_roundw
      case rel =>
        refine ⟨i + 1, by omega, by go_num, rv', HA5.out, fun j hj => ?_, HTU5.out.sep.cell HNQ.out HCQr.out, ?_, fun hF => ?_⟩
        · rw [HRV5.out j (by omega) (by omega)]; exact HNIL.out j (by omega)
        · refine HB.out.trans ⟨HTU5.out.sep.os, HTU5.out.sep.tape, HTU5.out.sep.output, HTU5.out.sep.size, fun k hk => HTU5.out.sep.block k (Nat.lt_of_lt_of_le hk HB.out.size) (fun hF => by have := (HA.out.lt hF).1; omega)⟩
        · rcases HTU5.out.foot q hF with e | e
          · exact HNQ.out e
          · have h9 : q < wr.heap.size := block_lt_of_cell HCQr.out
            omega
      case measure => simp [intOf]; omega
    · obtain rfl : i = n := by omega
      have hltI : ¬ (i : Int) < (i : Int) := by omega
      have hA0 : AuX wr w.heap.size ab sb L.length (Gf L V []) rv (data L V) := by
        have h := hA.congr (g := Gf L V []) (ys := data L V) (fun j hj => by rw [← HN.out] at hj ⊢; exact TF_all HI.out.inv hj) (fun m h1 h2 => by rw [← HN.out] at h2 ⊢; exact TX_all L V h1 h2)
        rwa [← HN.out] at h
      have HA0 := Lib.hid hA0
      clear hA hA0 hnil HNIL HA HA3
      go_wp2_with (go_at_call 76; refine (falls_made _ _ _).mono ?_; rintro e w4 ⟨x, y, rfl, hxy, hx, hy, cx, cy, hb4⟩; have HB4 := Lib.hid hb4; have HCX := Lib.hid cx; have HCY := Lib.hid cy; clear hb4 cx cy)
      have hs4 := HB4.out.size
      have hxl : x < w4.heap.size := block_lt_of_cell HCX.out
      have hyl : y < w4.heap.size := block_lt_of_cell HCY.out
      have hql : q < wr.heap.size := block_lt_of_cell HCQr.out
      have HFA : Hid (∀ g, Fa ab sb L.length rv g → g < w4.heap.size) := Lib.hid fun g hg => by have := (HA0.out.lt hg).2; omega
      have HT4 := Lib.hid ((HT.out.later HB.out).later HB4.out)
      have hFw : ∀ g, Fp tb nb L.length rvt g → g < w4.heap.size := fun g hg => (TrX.lt HT4.out hg).2
      have HFW := Lib.hid hFw
      clear hFw hcq hb hnq
      refine range_wpK (gf := 87) (lb := #[.pointer (some ⟨y, 0, none⟩), .pointer (some ⟨x, 0, none⟩)]) rfl (enters_of Try.func87 (by kernel_rfl) rfl)
        (falls_gives (B := w.heap.size) (sb := sb) (rv := rv) HT4.out HI.out.inv (by rw [HN.out]; exact hn9) HCX.out HCY.out (HFA.out ab (.inl rfl)))
        (fun k e => .inr (.inr (.inr e))) (by rintro (e | e | e | e) <;> first | omega | (have := HFW.out _ e; omega)) (by rintro (e | e | e | e) <;> first | omega | (have := HFW.out _ e; omega)) (fun _ => rfl)
        (fun pre A => AuX A w.heap.size ab sb L.length (Gf L V pre) rv (data L V) ∧ A.cell? ⟨q, 0, none⟩ = some (.pointer (some ⟨ab, 0, none⟩)) ∧ Below w.heap.size w A) (fun _ _ _ => False)
        (fun _ _ h => h.1) (fun _ _ _ h => h.elim) ?hI (fun _ _ _ _ h _ => h) ⟨HA0.out.later HB4.out, cell_later HB4.out HCQr.out, bel_step HB.out HB4.out⟩ ?_ ?assign ?body ?done (fun _ _ _ _ h _ => h.elim)
      case hI =>
        rintro pre A B' ⟨h1, h2, h3⟩ hs
        have hlow : ∀ k, k < w4.heap.size → ¬ (Zn w4 k ∨ k = w4.heap.size ∨ k = w4.heap.size + 1) := fun k hk e => by
          rcases e with e | e | e
          · have : w4.heap.size + 2 ≤ k := e
            omega
          · omega
          · omega
        have h3s := h3.size
        have hws := HB.out.size
        exact ⟨h1.of_blocks fun g hg => hs.block g (h1.lt hg).2 (hlow g (HFA.out g hg)), hs.cell (hlow q (by omega)) h2, h3.trans (hs.below h3s fun k hk => hlow k (by omega))⟩
      case assign =>
        intro l' j W' K hK
        gi_wp2
        exact hK
      case body =>
        rintro l' pre j rest W' hx hlt9 ⟨hA, hcq, hB⟩
        have hjm := (mem_order HI.out.inv).1 (by rw [hx]; simp : j ∈ order L)
        have hjL : j < L.length := hjm.2
        have b0 := hA.boxes
        have hln9 := hA.len9
        have hjI : (j : Int) < (L.length : Int) := by omega
        have hj0 : (0 : Int) ≤ (j : Int) := Int.natCast_nonneg _
        have hS : W'.drew.cell? ⟨q, 0, none⟩ = some (.pointer (some ⟨ab, 0, none⟩)) ∧ W'.drew.cell? ⟨ab, 0, none⟩ = some (.slice (some ⟨sb, 0, none⟩) L.length L.length) := ⟨hcq, b0⟩
        have HA2 := Lib.hid hA
        have HCE := Lib.hid (falls_end (hA.later ((Below.refl W'.heap.size W').drew)) HI.out hx)
        have HBW := Lib.hid hB
        have hqab : q ≠ sb ∧ ab ≠ sb := ⟨by have := HQ.out; omega, hA.ab_ne⟩
        have HQA := Lib.hid hqab
        clear hA hcq b0 hjm hB hqab
        gi_wp2
        refine rd_begin (S := fun w' => w'.cell? ⟨q, 0, none⟩ = some (.pointer (some ⟨ab, 0, none⟩)) ∧ w'.cell? ⟨ab, 0, none⟩ = some (.slice (some ⟨sb, 0, none⟩) L.length L.length)) (by kernel_rfl) hS (fun _ => ?_)
        refine rd_take (i := 0) _ (.pointer (some ⟨ab, 0, none⟩)) (by kernel_rfl) rfl (by kernel_rfl) (by kernel_rfl) (by kernel_rfl) (fun _ _ _ h => h) (Or.inl ⟨by rfl, fun w9 hSw => ?_⟩) hS ?_
        · obtain ⟨s1, s2⟩ := hSw
          go_simp
        (try simp only [Act.put, List.setIfInBounds_toArray])
        refine rd_take (i := 1) _ (.pointer (some ⟨ab, 0, none⟩)) (by kernel_rfl) rfl (by kernel_rfl) (by kernel_rfl) (by kernel_rfl) (fun _ _ _ h => h) (Or.inl ⟨by rfl, fun w9 hSw => ?_⟩) hS ?_
        · obtain ⟨s1, s2⟩ := hSw
          go_simp
        (try simp only [Act.put])
        refine rd_take (i := 2) _ (.pointer (some ⟨ab, 0, none⟩)) (by kernel_rfl) rfl (by kernel_rfl) (by kernel_rfl) (by kernel_rfl) (fun _ _ _ h => h) (Or.inl ⟨by rfl, fun w9 hSw => ?_⟩) hS ?_
        · obtain ⟨s1, s2⟩ := hSw
          go_simp
        (try simp only [Act.put])
        refine rd_take (i := 3) _ (.slice (some ⟨sb, 0, none⟩) L.length L.length) (by kernel_rfl) rfl (by kernel_rfl) (by kernel_rfl) (by kernel_rfl) (fun _ _ _ h => h) (Or.inl ⟨by rfl, fun w9 hSw => ?_⟩) hS ?_
        · obtain ⟨s1, s2⟩ := hSw
          go_simp
        (try simp only [Act.put])
        refine rd_take (i := 4) _ (.int .i64 (j : Int)) (by kernel_rfl) rfl (by kernel_rfl) (by kernel_rfl) (by kernel_rfl) (fun _ _ _ h => h) (Or.inl ⟨by rfl, fun w9 hSw => ?_⟩) hS ?_
        · obtain ⟨s1, s2⟩ := hSw
          go_simp
        (try simp only [Act.put])
        refine rd_take (i := 5) _ (.pointer (some ⟨ab, 0, none⟩)) (by kernel_rfl) rfl (by kernel_rfl) (by kernel_rfl) (by kernel_rfl) (fun _ _ _ h => h) (Or.inl ⟨by rfl, fun w9 hSw => ?_⟩) hS ?_
        · obtain ⟨s1, s2⟩ := hSw
          go_simp
        (try simp only [Act.put])
        refine rd_take (i := 6) _ (.pointer (some ⟨ab, 0, none⟩)) (by kernel_rfl) rfl (by kernel_rfl) (by kernel_rfl) (by kernel_rfl) (fun _ _ _ h => h) (Or.inl ⟨by rfl, fun w9 hSw => ?_⟩) hS ?_
        · obtain ⟨s1, s2⟩ := hSw
          go_simp
        (try simp only [Act.put])
        refine rd_take (i := 7) _ (.pointer (some ⟨ab, 0, none⟩)) (by kernel_rfl) rfl (by kernel_rfl) (by kernel_rfl) (by kernel_rfl) (fun _ _ _ h => h) (Or.inl ⟨by rfl, fun w9 hSw => ?_⟩) hS ?_
        · obtain ⟨s1, s2⟩ := hSw
          go_simp
        (try simp only [Act.put])
        refine rd_take (i := 8) _ (.slice (some ⟨sb, 0, none⟩) L.length L.length) (by kernel_rfl) rfl (by kernel_rfl) (by kernel_rfl) (by kernel_rfl) (fun _ _ _ h => h) (Or.inl ⟨by rfl, fun w9 hSw => ?_⟩) hS ?_
        · obtain ⟨s1, s2⟩ := hSw
          go_simp
        (try simp only [Act.put])
        refine rd_take (i := 9) _ (.int .i64 (j : Int)) (by kernel_rfl) rfl (by kernel_rfl) (by kernel_rfl) (by kernel_rfl) (fun _ _ _ h => h) (Or.inl ⟨by rfl, fun w9 hSw => ?_⟩) hS ?_
        · obtain ⟨s1, s2⟩ := hSw
          go_simp
        (try simp only [Act.put])
        refine rd_take (i := 10) _ (.int .i64 (fallV L j)) (by kernel_rfl) rfl (by kernel_rfl) (by kernel_rfl) (by kernel_rfl) (fun _ _ _ h => h) (Or.inl ⟨by rfl, fun w9 hSw => ?_⟩) hS ?_
        · obtain ⟨s1, s2⟩ := hSw
          go_simp
        (try simp only [Act.put])
        refine rd_take (i := 11) _ (.pointer (some ⟨ab, 0, none⟩)) (by kernel_rfl) rfl (by kernel_rfl) (by kernel_rfl) (by kernel_rfl) (fun _ _ _ h => h) (Or.inl ⟨by rfl, fun w9 hSw => ?_⟩) hS ?_
        · obtain ⟨s1, s2⟩ := hSw
          go_simp
        (try simp only [Act.put])
        refine rd_take (i := 12) _ (.int .i64 (fallV L j)) (by kernel_rfl) rfl (by kernel_rfl) (by kernel_rfl) (by kernel_rfl) (fun _ _ _ h => h) (Or.inl ⟨by rfl, fun w9 hSw => ?_⟩) hS ?_
        · obtain ⟨s1, s2⟩ := hSw
          go_simp
        (try simp only [Act.put])
        refine rd_one (i := 13) _ (by kernel_rfl) rfl (fun K hK => ?_)
        go_simp
        refine ⟨trivial, ?_⟩
        refine (((callsIn_wide (n := _)).2 HCE.out).inRound l').mono ?_
        rintro e w5 ⟨rfl, hb5⟩
        have hS5 := And.intro (cell_later hb5 hS.1) (cell_later hb5 hS.2)
        have hA5 := HA2.out.later (bel_und hb5)
        have HB5 := Lib.hid (bel_und hb5)
        obtain ⟨c0, c1, c2, c3, c4⟩ := hA5.cells hjL
        have fr1 := hA5.fr (j * 5 + 1)
        have fr2 := hA5.fr (j * 5 + 2)
        have HA5 := Lib.hid hA5
        refine hK _ _ hS5 (fun _ => ?_)
        clear hK K hb5 hS hA5 c0 c3 c4
        have hS := hS5
        clear hS5
        (try simp only [Act.put, List.setIfInBounds_toArray, List.set_cons_zero, List.set_cons_succ])
        refine rd_take (i := 14) _ (.pointer (some ⟨sb, j * 5, none⟩)) (by kernel_rfl) rfl (by kernel_rfl) (by kernel_rfl) (by kernel_rfl) (fun _ _ _ h => h) (Or.inl ⟨by rfl, fun w9 hSw => ?_⟩) hS ?_
        · obtain ⟨s1, s2⟩ := hSw
          go_simp
        (try simp only [Act.put, List.setIfInBounds_toArray])
        refine rd_take (i := 15) _ (.pointer (some ⟨sb, j * 5 + 1, none⟩)) (by kernel_rfl) rfl (by kernel_rfl) (by kernel_rfl) (by kernel_rfl) (fun _ _ _ h => h) (Or.inl ⟨by rfl, fun w9 hSw => ?_⟩) hS ?_
        · obtain ⟨s1, s2⟩ := hSw
          go_simp
        (try simp only [Act.put])
        refine rd_one (i := 16) _ (by kernel_rfl) rfl (fun K hK => ?_)
        go_simp
        have hS6 : (w5.setCell ⟨sb, j * 5 + 1, none⟩ (.int .i64 (fallV L j))).cell? ⟨q, 0, none⟩ = some (.pointer (some ⟨ab, 0, none⟩)) ∧ (w5.setCell ⟨sb, j * 5 + 1, none⟩ (.int .i64 (fallV L j))).cell? ⟨ab, 0, none⟩ = some (.slice (some ⟨sb, 0, none⟩) L.length L.length) :=
          ⟨(World.cell?_setCell_far w5 _ _ _ (fun e => HQA.out.1 e.symm)).trans hS.1, (World.cell?_setCell_far w5 _ _ _ (fun e => HQA.out.2 e.symm)).trans hS.2⟩
        have hA6 := HA5.out.fall hjL (fallV L j)
        obtain ⟨_, _, d2, _, _⟩ := hA6.cells hjL
        have fr6 := hA6.fr (j * 5 + 2)
        have HA6 := Lib.hid hA6
        refine hK _ _ hS6 (fun _ => ?_)
        clear hK K hS hA6 c1 c2 fr1 fr2
        have hS := hS6
        clear hS6
        (try simp only [Act.put, List.setIfInBounds_toArray, List.set_cons_zero, List.set_cons_succ])
        refine rd_take (i := 17) _ (.pointer (some ⟨sb, j * 5, none⟩)) (by kernel_rfl) rfl (by kernel_rfl) (by kernel_rfl) (by kernel_rfl) (fun _ _ _ h => h) (Or.inl ⟨by rfl, fun w9 hSw => ?_⟩) hS ?_
        · obtain ⟨s1, s2⟩ := hSw
          go_simp
        (try simp only [Act.put, List.setIfInBounds_toArray])
        refine rd_take (i := 18) _ (.pointer (some ⟨sb, j * 5 + 2, none⟩)) (by kernel_rfl) rfl (by kernel_rfl) (by kernel_rfl) (by kernel_rfl) (fun _ _ _ h => h) (Or.inl ⟨by rfl, fun w9 hSw => ?_⟩) hS ?_
        · obtain ⟨s1, s2⟩ := hSw
          go_simp
        (try simp only [Act.put])
        refine rd_one (i := 19) _ (by kernel_rfl) rfl (fun K hK => ?_)
        go_simp
        have hS7 : ((w5.setCell ⟨sb, j * 5 + 1, none⟩ (.int .i64 (fallV L j))).setCell ⟨sb, j * 5 + 2, none⟩ (.int .i64 (linkV L V j))).cell? ⟨q, 0, none⟩ = some (.pointer (some ⟨ab, 0, none⟩)) ∧ ((w5.setCell ⟨sb, j * 5 + 1, none⟩ (.int .i64 (fallV L j))).setCell ⟨sb, j * 5 + 2, none⟩ (.int .i64 (linkV L V j))).cell? ⟨ab, 0, none⟩ = some (.slice (some ⟨sb, 0, none⟩) L.length L.length) :=
          ⟨(World.cell?_setCell_far _ _ _ _ (fun e => HQA.out.1 e.symm)).trans hS.1, (World.cell?_setCell_far _ _ _ _ (fun e => HQA.out.2 e.symm)).trans hS.2⟩
        have hA7 := (HA6.out.link hjL (linkV L V j)).congr (g := Gf L V (pre ++ [j])) (ys := data L V) (fun k _ => gf_snoc k) (fun _ _ _ => rfl)
        have hsb4 := HFA.out sb (.inr (.inl rfl))
        have hws := HB.out.size
        have hsbw := (HA0.out.lt (.inr (.inl rfl))).2
        have hsbl := (HA0.out.lt (.inr (.inl rfl))).1
        have hHold : Hold (fun k => Zf x y tb nb L.length rvt w4 k ∨ k = w4.heap.size ∨ k = w4.heap.size + 1) W' ((w5.setCell ⟨sb, j * 5 + 1, none⟩ (.int .i64 (fallV L j))).setCell ⟨sb, j * 5 + 2, none⟩ (.int .i64 (linkV L V j))) := by
          have hz : ¬ (Zf x y tb nb L.length rvt w4 sb ∨ sb = w4.heap.size ∨ sb = w4.heap.size + 1) := by
            rintro ((e | e | e | e) | e | e)
            · omega
            · omega
            · have := HFL.out _ e; omega
            · omega
            · omega
            · omega
          have h0 : Hold (fun k => Zf x y tb nb L.length rvt w4 k ∨ k = w4.heap.size ∨ k = w4.heap.size + 1) W' w5 := ⟨HB5.out.size, fun k hk _ => HB5.out.block k hk⟩
          exact (h0.trans (.setCell _ hz _)).trans (.setCell _ hz _)
        have hBel : Below w.heap.size w ((w5.setCell ⟨sb, j * 5 + 1, none⟩ (.int .i64 (fallV L j))).setCell ⟨sb, j * 5 + 2, none⟩ (.int .i64 (linkV L V j))) :=
          ((bel_step HBW.out HB5.out).setCell (by simpa using hsbl) _).setCell (by simpa using hsbl) _
        have HFIN := Lib.hid (And.intro hHold (And.intro hA7 (And.intro hS7.1 hBel)))
        refine hK _ _ hS7 (fun _ => ?_)
        clear hK K hS hA7 hS7 hHold hBel d2 fr6
        refine rd_done (by kernel_rfl) ?_ _
        (try simp only [Act.put, List.setIfInBounds_toArray, List.set_cons_zero, List.set_cons_succ])
        gi_wp2
        exact HFIN.out
      case done =>
        rintro W' ⟨h1, h2, h3⟩ hd
        have hlD : w4.heap.size < W'.heap.size := (Array.getElem?_eq_some_iff.1 hd).1
        have H1 := Lib.hid h1
        have H3 := Lib.hid h3
        clear h1 h3
        go_wp2
        refine ret_mark hd (results_tmp rfl _ _ _) ?_
        refine ⟨ab, sb, rv, rfl, H1.out.of_blocks fun g hg => World.putObj_heap_other (by have := HFA.out g hg; omega), Below.putObj H3.out (by have := HB.out.size; omega) _⟩
end Go.Proofs.Ytpkikhoicobmcaa

/- What an automaton that was made tells of a state. Condition: it stands, of a tree of at most 1000 nodes. -/
namespace Go.Proofs.Ytpkikhoicobmcaa
open Go.RowKit
set_option linter.unusedVariables false
open Tr Au
/-- the automaton of these paths and words in memory -/
def AuP (w : World) (B ab sb : Nat) (rv : Nat → Value) (L V : LL) : Prop := AuX w B ab sb L.length (Gf L V (order L)) rv (data L V)
theorem AuP.later {w w' : World} {B ab sb : Nat} {rv : Nat → Value} {L V : LL} (h : AuP w B ab sb rv L V) (hb : Below w.heap.size w w') : AuP w' B ab sb rv L V := AuX.later h hb
namespace Au
theorem gf_all {L V : LL} (hI : Inv L) {k : Nat} (hk : k < L.length) : (Gf L V (order L) k).2.1 = fallV L k ∧ (Gf L V (order L) k).2.2 = linkV L V k := by
  unfold Gf
  by_cases h0 : k = 0
  · subst h0
    have hn : 0 ∉ order L := fun hm => by have := (mem_order hI).1 hm; omega
    simp only [if_neg hn]
    exact ⟨(fall_zero L).symm, (link_zero hI V).symm⟩
  · have := (mem_order hI).2 ⟨by omega, hk⟩
    simp only [if_pos this]
    exact ⟨trivial, trivial⟩
theorem in_nat {L : LL} {k : Int} (h : ¬ (k < 0 ∨ (L.length : Int) ≤ k)) : ∃ m : Nat, k = (m : Int) ∧ m < L.length := ⟨k.toNat, by omega, by omega⟩
theorem fallN_all {L V : LL} (hI : Inv L) (k : Int) : fallN L.length (Gf L V (order L)) k = fallV L k := by
  unfold fallN
  by_cases h : k < 0 ∨ (L.length : Int) ≤ k
  · rw [if_pos h, fall_out h]
  · obtain ⟨m, rfl, hm⟩ := in_nat h
    rw [if_neg h, Int.toNat_natCast]
    exact (gf_all hI hm).1
theorem linkN_all {L V : LL} (hI : Inv L) (k : Int) : linkN L.length (Gf L V (order L)) k = linkV L V k := by
  unfold linkN
  by_cases h : k < 0 ∨ (L.length : Int) ≤ k
  · rw [if_pos h, link_out h]
  · obtain ⟨m, rfl, hm⟩ := in_nat h
    rw [if_neg h, Int.toNat_natCast]
    exact (gf_all hI hm).2
theorem endN_all {L V : LL} (hI : Iw L V) (k : Int) : endN L.length (Gf L V (order L)) (data L V) k = endV L V k := by
  unfold endN
  by_cases h : k < 0 ∨ (L.length : Int) ≤ k
  · rw [if_pos h, end_out h]
  · obtain ⟨m, rfl, hm⟩ := in_nat h
    rw [if_neg h, Int.toNat_natCast, data_words]
    by_cases hw : wordsV L V m = []
    · rw [if_pos hw, end_link hI.inv hm hw]
      exact (gf_all hI.inv hm).2
    · rw [if_neg hw, end_words hI.inv hm hw (fun h0 => (hI.ws [] h0).2 rfl)]
end Au
section
variable {w : World} {B ab sb : Nat} {rv : Nat → Value} {L V : LL}
theorem fall_P (h : AuP w B ab sb rv L V) (hI : Iw L V) (k : Int) : Calls Try.prog 36 #[.pointer (some ⟨ab, 0, none⟩), .int .i64 k] w fun e w' => e = .returned (.int .i64 (fallV L k)) ∧ Below w.heap.size w w' := by
  have := fall_au h k
  rwa [fallN_all hI.inv] at this
theorem link_P (h : AuP w B ab sb rv L V) (hI : Iw L V) (k : Int) : Calls Try.prog 58 #[.pointer (some ⟨ab, 0, none⟩), .int .i64 k] w fun e w' => e = .returned (.int .i64 (linkV L V k)) ∧ Below w.heap.size w w' := by
  have := link_au h k
  rwa [linkN_all hI.inv] at this
theorem end_P (h : AuP w B ab sb rv L V) (hI : Iw L V) (k : Int) : Calls Try.prog 57 #[.pointer (some ⟨ab, 0, none⟩), .int .i64 k] w fun e w' => e = .returned (.int .i64 (endV L V k)) ∧ Below w.heap.size w w' := by
  have := end_au h k
  rwa [endN_all hI] at this
theorem behind_P (h : AuP w B ab sb rv L V) (hI : Iw L V) {k : Nat} (hk : k < L.length) (p : Int) : Calls Try.prog 53 #[.pointer (some ⟨ab, 0, none⟩), .int .i64 k, .int .u64 p] w fun e w' => e = .returned (.int .i64 (nextV L k p)) ∧ Below w.heap.size w w' :=
  behind_au h hI.inv (gf_kd hI.inv) k hk (fun i hi _ => (gf_all hI.inv hi).1) p
theorem next_P (h : AuP w B ab sb rv L V) (hI : Iw L V) (k p : Int) : Calls Try.prog 37 #[.pointer (some ⟨ab, 0, none⟩), .int .i64 k, .int .u64 p] w fun e w' => e = .returned (.int .i64 (nextV L k p)) ∧ Below w.heap.size w w' := by
  by_cases hk : k < 0 ∨ (L.length : Int) ≤ k
  · have hc := has_no ab sb L.length k w hk (AuX.len9 h) (AuX.boxes h)
    rw [next_out hk]
    clear h hI hk
    go_enter Try.func37, Try.ntmps37
    go_wp2_with (go_at_call 52; refine hc.mono ?_; rintro e w1 ⟨rfl, rfl⟩)
    go_ret
    exact ⟨rfl, Below.refl _ _⟩
  · obtain ⟨m, rfl, hm⟩ := in_nat hk
    have hc := has_yes ab sb L.length m w hm (AuX.len9 h) (AuX.boxes h)
    have hb := behind_P h hI hm p
    generalize nextV L m p = z at hb ⊢
    clear h hI hk hm
    go_enter Try.func37, Try.ntmps37
    go_wp2_with (first
      | (go_at_call 52; refine hc.mono ?_; rintro e w1 ⟨rfl, rfl⟩)
      | (go_at_call 53; refine hb.mono ?_; rintro e w1 ⟨rfl, hb1⟩; have HB := Lib.hid hb1; clear hb1))
    go_ret
    exact ⟨rfl, HB.out⟩
def sameV (L V : LL) (k m : Int) : Bool := decide (0 ≤ k ∧ k < L.length ∧ 0 ≤ m ∧ m < L.length ∧ endV L V k = endV L V m)
end
end Go.Proofs.Ytpkikhoicobmcaa

/- slices.Sort of integers, laid for this program. No condition. -/
namespace Go.Proofs.Ytpkikhoicobmcaa
open Go.Shelf Go.RowKit
def Ly.lays189_ren : Go.Shelf.Ren := ⟨fun | 189 => 31 | 125 => 47 | 257 => 46 | 128 => 70 | 129 => 71 | 294 => 61 | 295 => 62 | 296 => 63 | 297 => 64 | 298 => 65 | 299 => 66 | 216 => 67 | 300 => 68 | 301 => 69 | 328 => 80 | 329 => 81 | 330 => 82 | 331 => 83 | 332 => 84 | 215 => 85 | 343 => 91 | n => n, fun | 28 => 31 | 3 => 3 | 46 => 88 | 0 => 0 | 51 => 112 | 53 => 50 | 4 => 4 | 183 => 104 | 182 => 103 | 131 => 109 | 5 => 5 | 9 => 9 | 218 => 125 | 222 => 129 | 228 => 134 | 229 => 74 | n => n, fun | n => n⟩
theorem Ly.lays189 : Go.Proofs.Lays.n189 Try.prog Ly.lays189_ren := {
  mixed := by kernel_rfl
  f125 := Try.func47.trans (congrArg some (by kernel_rfl))
  f128 := Try.func70.trans (congrArg some (by kernel_rfl))
  f129 := Try.func71.trans (congrArg some (by kernel_rfl))
  f189 := Try.func31.trans (congrArg some (by kernel_rfl))
  f215 := Try.func85.trans (congrArg some (by kernel_rfl))
  f216 := Try.func67.trans (congrArg some (by kernel_rfl))
  f257 := Try.func46.trans (congrArg some (by kernel_rfl))
  f294 := Try.func61.trans (congrArg some (by kernel_rfl))
  f295 := Try.func62.trans (congrArg some (by kernel_rfl))
  f296 := Try.func63.trans (congrArg some (by kernel_rfl))
  f297 := Try.func64.trans (congrArg some (by kernel_rfl))
  f298 := Try.func65.trans (congrArg some (by kernel_rfl))
  f299 := Try.func66.trans (congrArg some (by kernel_rfl))
  f300 := Try.func68.trans (congrArg some (by kernel_rfl))
  f301 := Try.func69.trans (congrArg some (by kernel_rfl))
  f328 := Try.func80.trans (congrArg some (by kernel_rfl))
  f329 := Try.func81.trans (congrArg some (by kernel_rfl))
  f330 := Try.func82.trans (congrArg some (by kernel_rfl))
  f331 := Try.func83.trans (congrArg some (by kernel_rfl))
  f332 := Try.func84.trans (congrArg some (by kernel_rfl))
  f343 := Try.func91.trans (congrArg some (by kernel_rfl))
  t0 := Try.underlying0
  a0 := Try.isAgg0
  z0 := Try.sizeOf0
  v0 := Try.zeroValue0
  t3 := Try.underlying3
  a3 := Try.isAgg3
  z3 := Try.sizeOf3
  v3 := Try.zeroValue3
  t4 := Try.underlying4
  a4 := Try.isAgg4
  z4 := Try.sizeOf4
  v4 := Try.zeroValue4
  t5 := Try.underlying5
  a5 := Try.isAgg5
  z5 := Try.sizeOf5
  v5 := Try.zeroValue5
  t9 := Try.underlying9
  a9 := Try.isAgg9
  z9 := Try.sizeOf9
  v9 := Try.zeroValue9
  t28 := Try.underlying31
  a28 := Try.isAgg31
  z28 := Try.sizeOf31
  v28 := Try.zeroValue31
  t46 := Try.underlying88
  a46 := Try.isAgg88
  z46 := Try.sizeOf88
  v46 := Try.zeroValue88
  t51 := Try.underlying112
  a51 := Try.isAgg112
  z51 := Try.sizeOf112
  v51 := Try.zeroValue112
  t53 := Try.underlying50
  a53 := Try.isAgg50
  z53 := Try.sizeOf50
  v53 := Try.zeroValue50
  t131 := Try.underlying109
  a131 := Try.isAgg109
  z131 := Try.sizeOf109
  v131 := Try.zeroValue109
  t182 := Try.underlying103
  a182 := Try.isAgg103
  z182 := Try.sizeOf103
  v182 := Try.zeroValue103
  t183 := Try.underlying104
  a183 := Try.isAgg104
  z183 := Try.sizeOf104
  v183 := Try.zeroValue104
  t218 := Try.underlying125
  a218 := Try.isAgg125
  z218 := Try.sizeOf125
  v218 := Try.zeroValue125
  t222 := Try.underlying129
  a222 := Try.isAgg129
  z222 := Try.sizeOf129
  v222 := Try.zeroValue129
  t228 := Try.underlying134
  a228 := Try.isAgg134
  z228 := Try.sizeOf134
  v228 := Try.zeroValue134
  t229 := Try.underlying74
  a229 := Try.isAgg74
  z229 := Try.sizeOf74
  v229 := Try.zeroValue74 }
end Go.Proofs.Ytpkikhoicobmcaa

/- The states behind numbers; what ends at a state. Condition: an automaton that was made stands, of a tree of at most 1000 nodes and words. -/
namespace Go.Proofs.Ytpkikhoicobmcaa
open Go.RowKit Go.Shelf Go.Sort
set_option linter.unusedVariables false
open Tr Au
namespace Au
/-- the state behind the first i numbers -/
def st (L : LL) (k : Int) (l : List Int) : Nat → Int
  | 0 => k
  | i + 1 => nextV L (st L k l i) (l.getD i 0)
def runs (L : LL) (k : Int) (l : List Int) (i : Nat) : List Int := (List.range i).map fun j => st L k l (j + 1)
theorem runs_len (L : LL) (k : Int) (l : List Int) (i : Nat) : (runs L k l i).length = i := by simp [runs]
theorem runs_succ (L : LL) (k : Int) (l : List Int) (i : Nat) : runs L k l (i + 1) = runs L k l i ++ [st L k l (i + 1)] := by unfold runs; rw [List.range_succ, List.map_append, List.map_singleton]
theorem st_in {L : LL} (hI : Inv L) {k : Nat} (hk : k < L.length) (l : List Int) : ∀ i, ∃ m : Nat, st L k l i = (m : Int) ∧ m < L.length
  | 0 => ⟨k, rfl, hk⟩
  | i + 1 => by
    obtain ⟨m, e, hm⟩ := st_in hI hk l i
    refine ⟨_, ?_, deep_lt hI (L.getD m [] ++ [l.getD i 0])⟩
    show nextV L (st L k l i) _ = _
    rw [e, next_at hm]
def RunR (L : LL) (k : Int) (l : List Int) (w : World) (e : Ending) (w' : World) : Prop := ∃ a c, e = .returned (.slice a (if k < 0 ∨ (L.length : Int) ≤ k then 0 else l.length) c) ∧ OwnK .i64 w.heap.size w' a (if k < 0 ∨ (L.length : Int) ≤ k then [] else runs L k l l.length) ∧ Below w.heap.size w w'
end Au
theorem sort_int (blk off cap : Nat) (zs : List Int) (w : World) (hH : Holds (Value.int .i64) w blk off zs.toArray) (hblk : blk < w.heap.size) (hsz : zs.length < 4611686018427387904) :
    Calls Try.prog 31 #[.slice (some ⟨blk, off, none⟩) zs.length cap] w fun e w' =>
      e = .returned (.tuple #[]) ∧ ∃ n os, w' = grow (putRow (Value.int .i64) (Go.Sort.ahead w n) blk off (zs.mergeSort fun x y => decide (x ≤ y)).toArray) os :=
  Any.slices_Sort_int Ly.lays189 blk off cap zs w hH hblk hsz
theorem sort_int_none (a : Option Addr) (cap : Nat) (w : World) : Calls Try.prog 31 #[.slice a 0 cap] w fun e w' => e = .returned (.tuple #[]) ∧ w' = w :=
  Any.slices_Sort_int_none Ly.lays189 a cap w
/-- a row of numbers of the call's own, sorted -/
theorem sort_own {w0 w : World} {a : Option Addr} {n cap : Nat} {zs : List Int} (ho : w.ownsRow w0.heap.size 3 1 (.slice a n cap) n (zs.map (Value.int .i64))) (hb : Below w0.heap.size w0 w) (hn : n ≤ 1000) :
    Calls Try.prog 31 #[.slice a n cap] w fun e w' => e = .returned (.tuple #[]) ∧ OwnK .i64 w0.heap.size w' a (zs.mergeSort fun x y => decide (x ≤ y)) ∧ Below w0.heap.size w0 w' := by
  have hzl := ho.1
  rw [List.length_map, Nat.mul_one] at hzl
  by_cases h0 : n = 0
  · have hz : zs = [] := List.eq_nil_of_length_eq_zero (by omega)
    subst hz
    rw [h0]
    refine (sort_int_none a cap w).mono ?_
    rintro e w' ⟨he, rfl⟩
    exact ⟨he, .inl (by simp), hb⟩
  · obtain ⟨g, c', ev, hg1, hg2⟩ := ho.form (by omega)
    injection ev with e1 e2 e3
    subst e1
    have hcell := fun i (hi : i < n) => ints_cell ho hi
    have hfr := fun i => ho.frozenAt i
    obtain ⟨hl1, hl2⟩ := ho.lt g rfl
    have hH : Holds (Value.int .i64) w g 0 zs.toArray := fun j hj => by
      have hj' : j < zs.length := by simpa using hj
      rw [getElem!_pos _ j hj, Nat.zero_add]
      refine ⟨?_, hfr j⟩
      rw [hcell j (by omega), gD hj']; simp
    have := sort_int g 0 cap zs w hH hl2 (by omega)
    rw [hzl] at this
    refine this.mono ?_
    rintro e w' ⟨he, q, os, hw⟩
    have hw2 : w' = sortWorld (Value.int .i64) w g 0 q (zs.mergeSort fun x y => decide (x ≤ y)).toArray os := hw
    have hml : (zs.mergeSort fun x y => decide (x ≤ y)).length = n := by rw [List.length_mergeSort]; exact hzl
    have hSW : SW (Value.int .i64) w g 0 (zs.mergeSort fun x y => decide (x ≤ y)).toArray w' := ⟨q, os, hw2⟩
    refine ⟨he, .inr ⟨g, rfl, hl1, ?_, fun i hi => ?_, fun i => ?_⟩, ?_⟩
    · rw [hw2]; exact Nat.lt_of_lt_of_le hl2 (sw_size _ _ _ _ _ _)
    · have h9 := (hSW.holds hl2 hH (by simp [hml, hzl]) i (by simpa using hi)).1
      rw [Nat.zero_add] at h9
      rw [h9, getElem!_pos _ i (by simpa using hi), gD hi]; simp
    · rw [hw2, sw_frozen hl2]; exact hfr i
    · rw [hw2]; exact sw_below hb hl1
end Go.Proofs.Ytpkikhoicobmcaa

/- What ends at a state, sorted. Condition: an automaton that was made stands, of a tree of at most 1000 nodes and words. -/
namespace Go.Proofs.Ytpkikhoicobmcaa
open Go.RowKit Go.Shelf
set_option linter.unusedVariables false
open Tr Au
namespace Au
/-- what is still to be told from a state on -/
def restV (L V : LL) (z : Int) : List Int := if z < 0 then [] else chain V (L.getD z.toNat [])
theorem rest_node {L V : LL} (hI : Iw L V) (l : List Int) : restV L V (nodeV L (lnk V l)) = chain V l := by
  rcases node_in (fun x hx => (hI.ws x hx).1) l with h | ⟨e, h, _, he, _, _⟩
  · have hn : lnk V l = [] := by
      apply Classical.byContradiction
      intro hn
      unfold nodeV at h
      rw [if_neg hn] at h
      omega
    rw [h, chain_lnk, hn]; rfl
  · rw [h]
    unfold restV
    rw [if_neg (by omega), Int.toNat_natCast, he, ← chain_lnk]
/-- where a state is that something ends at -/
def Zs (L : LL) (z : Int) : Prop := z = -1 ∨ ∃ e : Nat, z = (e : Int) ∧ e < L.length ∧ L.getD e [] ≠ []
theorem node_zs {L V : LL} (hI : Iw L V) (l : List Int) : Zs L (nodeV L (lnk V l)) := by
  rcases node_in (fun x hx => (hI.ws x hx).1) l with h | ⟨e, h, h1, he, _, h2⟩
  · exact .inl h
  · exact .inr ⟨e, h, h1, by rw [he]; exact h2⟩
theorem node_dep {L V : LL} (hI : Iw L V) (l : List Int) {m : Nat} (h : l.length < m) : depM L (nodeV L (lnk V l)) < m + 1 := by
  rcases node_in (fun x hx => (hI.ws x hx).1) l with h1 | ⟨e, h1, _, he, _, _⟩
  · rw [h1, depM_neg]; omega
  · rw [h1, depM_nat]
    unfold dep
    rw [he]
    have := (lnk_suffix V l).length_le
    omega
def EndsR (L V : LL) (k : Int) (w : World) (e : Ending) (w' : World) : Prop := ∃ a c, e = .returned (.slice a (finV L V k).length c) ∧ OwnK .i64 w.heap.size w' a (finV L V k) ∧ Below w.heap.size w w'
end Au
set_option maxRecDepth 100000 in
set_option maxHeartbeats 2000000 in
theorem ends_P {w : World} {B ab sb : Nat} {rv : Nat → Value} {L V : LL} (h : AuP w B ab sb rv L V) (hI : Iw L V) (hVl : V.length ≤ 1000) (k : Int) :
    Calls Try.prog 41 #[.pointer (some ⟨ab, 0, none⟩), .int .i64 k] w (EndsR L V k w) := by
  obtain ⟨i0, hi, hz0, hz1, hz2⟩ := info_parts Try.info_int
  have hV0 : [] ∉ V := fun h0 => (hI.ws [] h0).2 rfl
  obtain ⟨P, hP⟩ : ∃ P, (if k < 0 ∨ (L.length : Int) ≤ k then [] else L.getD k.toNat []) = P := ⟨_, rfl⟩
  have hfin : (chain V P).mergeSort (fun x y => decide (x ≤ y)) = finV L V k := by
    rw [← hP]
    unfold finV
    by_cases hk : k < 0 ∨ (L.length : Int) ≤ k
    · rw [if_pos hk, if_pos hk]; simp [chain]
    · rw [if_neg hk, if_neg hk, sort_chain hV0]
  have hstart : Zs L (endV L V k) ∧ restV L V (endV L V k) = chain V P := by
    rw [← hP]
    unfold endV
    by_cases hk : k < 0 ∨ (L.length : Int) ≤ k
    · rw [if_pos hk, if_pos hk]; exact ⟨.inl rfl, rfl⟩
    · rw [if_neg hk, if_neg hk]; exact ⟨node_zs hI _, rest_node hI _⟩
  have hcl : (chain V P).length ≤ 1000 := Nat.le_trans (chain_len hV0 P) hVl
  have HF := Lib.hid hfin
  have HST := Lib.hid hstart
  have HCL := Lib.hid hcl
  have HP := Lib.hid h
  have HI := Lib.hid hI
  have HE := Lib.hid (end_P h hI k)
  have HO0 := Lib.hid (fun W : World => World.ownsRow_nil W w.heap.size 3 1)
  have hL9 := AuX.len9 h
  obtain ⟨C, hC⟩ : ∃ C, chain V P = C := ⟨_, rfl⟩
  rw [hC] at HF HST HCL
  obtain ⟨z0, hz⟩ : ∃ z, endV L V k = z := ⟨_, rfl⟩
  rw [hz] at HE HST
  clear h hI hV0 hP hfin hstart hcl hC hz hVl
  go_enter Try.func41, Try.ntmps41
  go_wp2_with (go_at_call 57; refine HE.out.mono ?_; rintro e w1 ⟨rfl, hb⟩; have HB1 := Lib.hid hb; clear hb)
  go_loopw [6, 5] (fun s6 s5 wr => ∃ (z : Int) (acc : List Int), s6 = .int .i64 z ∧ Zs L z ∧ acc ++ restV L V z = C ∧ wr.ownsRow w.heap.size 3 1 s5 acc.length (acc.map (Value.int .i64)) ∧ Below w.heap.size w wr) (fun s6 _ _ => depM L (intOf s6))
  case atStart => exact ⟨z0, [], rfl, HST.out.1, HST.out.2, HO0.out _, HB1.out⟩
  case round =>
    obtain ⟨z, acc, rfl, hzs, hac, hrow, hb⟩ := hrel
    have HROW := Lib.hid hrow
    have HB := Lib.hid hb
    have hsz := hb.size
    have hacl : acc.length ≤ 1000 := by have := congrArg List.length hac; rw [List.length_append] at this; have := HCL.out; omega
    have HAC := Lib.hid hac
    rcases hzs with rfl | ⟨e, rfl, he, hne⟩
    · have hCa : acc = C := by have := hac; unfold restV at this; rwa [if_pos (by omega), List.append_nil] at this
      obtain ⟨n, hn⟩ : ∃ n, acc.length = n := ⟨_, rfl⟩
      rw [hn] at HROW hacl
      obtain ⟨a, c, rfl⟩ := Tr.own_form HROW.out
      have HSO := Lib.hid (sort_own HROW.out hb hacl)
      have HCA := Lib.hid hCa
      have HNL : Hid (n = (finV L V k).length) := Lib.hid (by rw [← hn, hCa, ← HF.out, List.length_mergeSort])
      clear hrow hb hac hCa hn
      go_wp2_with (go_at_call 31; refine HSO.out.mono ?_; rintro e w5 ⟨rfl, hown, hb5⟩; have HOW := Lib.hid hown; have HB5 := Lib.hid hb5; clear hown hb5)
      go_ret
      have h9 := HOW.out
      rw [HCA.out, HF.out] at h9
      exact ⟨a, c, by rw [← HNL.out]; rfl, h9, HB5.out⟩
    · have hA := AuX.later HP.out hb
      have b0 := hA.boxes
      obtain ⟨c0, c1, c2, c3, c4⟩ := hA.cells he
      obtain ⟨wa, wc, ev⟩ := hA.form (i := 2 * e + 2) (by omega) (by omega)
      have hwr := hA.rows (2 * e + 2) (by omega) (by omega)
      rw [ev, data_words] at hwr
      rw [ev, data_words] at c4
      have hss : SlK .i64 wr wa (wordsV L V e).length (wordsV L V e) := by
        obtain ⟨ad, cp, e1, hO, _⟩ := ownK_row rfl hwr
        injection e1 with e1 _ _
        subst e1
        exact hO.sl
      have hsame := same_words HI.out.inv he (W := V)
      have hch := chain_step (W := V) hne
      have hnl : restV L V (linkV L V e) = chain V (L.getD e []).tail := by rw [link_at he, rest_node HI.out]
      have hac2 : (acc ++ wordsV L V e) ++ restV L V (linkV L V e) = C := by
        rw [← hac, hnl, hsame, List.append_assoc, ← hch]
        unfold restV
        rw [if_neg (by omega), Int.toNat_natCast]
      have hwl : acc.length + (wordsV L V e).length ≤ 1000 := by have := congrArg List.length hac2; rw [List.length_append, List.length_append] at this; have := HCL.out; omega
      have hzs2 : Zs L (linkV L V e) := by rw [link_at he]; exact node_zs HI.out _
      have hdm : depM L (linkV L V e) < depM L (e : Int) := by
        rw [link_at he, depM_nat]
        refine node_dep HI.out _ ?_
        have := List.length_pos_iff.2 hne
        unfold dep
        rw [List.length_tail]; omega
      have HLK := Lib.hid (fun w' (hb' : Below w.heap.size w w') => link_P (HP.out.later hb') HI.out (e : Int))
      have HAC2 := Lib.hid hac2
      have HZS2 := Lib.hid hzs2
      have HDM := Lib.hid hdm
      have HSS := Lib.hid hss
      have HA := Lib.hid hA
      obtain ⟨ws, hws⟩ : ∃ ws, wordsV L V e = ws := ⟨_, rfl⟩
      rw [hws] at HAC2 HSS c4 hwl
      obtain ⟨y, hy⟩ : ∃ y, linkV L V e = y := ⟨_, rfl⟩
      rw [hy] at HAC2 HZS2 HDM HLK
      obtain ⟨na, hna⟩ : ∃ na, acc.length = na := ⟨_, rfl⟩
      obtain ⟨nw, hnw⟩ : ∃ nw, ws.length = nw := ⟨_, rfl⟩
      rw [hna] at HROW hwl
      rw [hnw] at HSS c4 hwl
      have HNA := Lib.hid (show (acc ++ ws).length = na + nw by rw [List.length_append, hna, hnw])
      have heI : (e : Int) < (L.length : Int) := by omega
      have he0 : (0 : Int) ≤ (e : Int) := Int.natCast_nonneg _
      have hne1 : ((e : Int) != -1) = true := by rw [bne_iff_ne]; omega
      clear hrow hb hac hA c0 c1 c2 c3 ev hwr hss hsame hch hnl hac2 hzs2 hdm hws hy hna hnw hne
      go_wp2_with (first
        | (at_builtin; refine wpList_app rfl _ _ 31 rfl w.heap.size 3 i0 .i64 8 Try.underlying31 hi hz0 hz1 hz2 _ na _ rfl HROW.out wa nw wc ws rfl HSS.out (by unfold maxLen; omega) (by omega) hsz ?_; intro v5 w5 hown hgrow _; have HOWN := Lib.hid hown; have HB5 := Lib.hid (HB.out.grown hgrow hsz (fun j e => (HROW.out.lt j e).1)); have HG5 := Lib.hid hgrow; clear hown hgrow)
        | (go_at_call 58; refine (HLK.out _ HB5.out).mono ?_; rintro e w6 ⟨rfl, hb6⟩; have HB6 := Lib.hid hb6; clear hb6))
      go_roundw
      case rel =>
        refine ⟨y, acc ++ ws, rfl, HZS2.out, HAC2.out, ?_, bel_step HB5.out HB6.out⟩
        rw [HNA.out, List.map_append]
        exact own_of_block HOWN.out fun g hg => HB6.out.block g (HOWN.out.lt g hg).2
      case measure => exact HDM.out
end Go.Proofs.Ytpkikhoicobmcaa

/- When two lists of numbers are the same, by the document's own answer, over any memory. Condition: a length fits an int. -/
namespace Go.Proofs.Ytpkikhoicobmcaa
open Go.RowKit
set_option linter.unusedVariables false

namespace Sm
def Alike (x y : List Int) (k : Nat) : Prop := ∀ i, i < k → x.getD i 0 = y.getD i 0
theorem alike_all {x y : List Int} {n : Nat} (hx : x.length = n) (hy : y.length = n) (h : Alike x y n) : x = y := by
  refine List.ext_getElem (by rw [hx, hy]) fun i h1 h2 => ?_
  have := h i (by omega)
  rw [List.getD_eq_getElem?_getD, List.getD_eq_getElem?_getD, List.getElem?_eq_getElem h1, List.getElem?_eq_getElem h2] at this
  simpa using this
theorem alike_succ {x y : List Int} {k : Nat} (h : Alike x y k) (e : x.getD k 0 = y.getD k 0) : Alike x y (k + 1) := fun i hi => by
  rcases Nat.lt_or_ge i k with h1 | h1
  · exact h i h1
  · obtain rfl : i = k := by omega
    exact e

theorem bret {a b : Bool} (h : a = b) : Ending.returned (.bool a) = .returned (.bool b) := by rw [h]
theorem bdn {B : Nat} {a w : World} (h : Below B a w) (n : Nat) : Below B a (w.drewN n) := h.trans ⟨rfl, rfl, rfl, Nat.le_refl _, fun _ _ => rfl⟩
set_option maxHeartbeats 1000000 in
theorem same_any (a b : Option Addr) (n m ca cb : Nat) (x y : List Int) (w : World) (hn : n ≤ 9223372036854775807) (ha : SlK .i64 w a n x) (hb : SlK .i64 w b m y) :
    Calls Try.prog 13 #[.slice a n ca, .slice b m cb] w fun e w' => e = .returned (.bool (decide (x = y))) ∧ Below w.heap.size w w' := by
  by_cases h : n = m
  · subst h
    obtain ⟨lx, ha⟩ := ha
    obtain ⟨ly, hb⟩ := hb
    have LX := Lib.hid lx; clear lx
    have LY := Lib.hid ly; clear ly
    by_cases h0 : n = 0
    · subst h0
      have X := Lib.hid (show decide (x = y) = true by rw [decide_eq_true_iff, List.eq_nil_of_length_eq_zero LX.out, List.eq_nil_of_length_eq_zero LY.out])
      clear ha hb
      go_enter Try.func13, Try.ntmps13
      go_wp2
      go_rounds 1
      go_ret
      exact ⟨bret X.out.symm, Below.refl _ _⟩
    · rcases ha with ha | ⟨ba, oa, rfl, ha⟩
      · omega
      rcases hb with hb | ⟨bb, ob, rfl, hb⟩
      · omega
      have HA := Lib.hid ha; clear ha
      have HB := Lib.hid hb; clear hb
      go_enter Try.func13, Try.ntmps13
      go_wp2
      go_loopw [5] (fun i wr => ∃ k q : Nat, k ≤ n ∧ i = .int .i64 k ∧ Alike x y k ∧ wr = w.drewN q) (fun i _ => n - (intOf i).toNat)
      case atStart => exact ⟨0, 0, Nat.zero_le _, rfl, (fun i hi => by omega), rfl⟩
      case round =>
        obtain ⟨k, q, hk, rfl, hal, rfl⟩ := hrel
        by_cases hlt : k < n
        · have hx := HA.out k hlt
          have hy := HB.out k hlt
          obtain ⟨u, hu⟩ : ∃ u, x.getD k 0 = u := ⟨_, rfl⟩
          obtain ⟨v, hv⟩ : ∃ v, y.getD k 0 = v := ⟨_, rfl⟩
          rw [hu] at hx; rw [hv] at hy
          have HU := Lib.hid hu; clear hu
          have HV := Lib.hid hv; clear hv
          have i0 : (0 : Int) ≤ (k : Int) := Int.natCast_nonneg _
          have i1 : (k : Int) < (n : Int) := by omega
          by_cases huv : u = v
          · subst huv
            go_wp2_with (go_quiet (fail))
            go_roundw
            case rel => exact ⟨k + 1, _, by omega, by go_num, alike_succ hal (by rw [HU.out, HV.out]), rfl⟩
            case measure => simp [intOf]; omega
          · have kk : (u != v) = true := by rw [bne_iff_ne]; exact huv
            have X := Lib.hid (show decide (x = y) = false by rw [decide_eq_false_iff_not]; intro e; apply huv; rw [← HU.out, ← HV.out, e])
            go_wp2_with (go_quiet (fail))
            go_ret
            exact ⟨bret X.out.symm, bdn (bdn (Below.refl _ _) _) _⟩
        · obtain rfl : k = n := by omega
          have X := Lib.hid (show decide (x = y) = true by rw [decide_eq_true_iff]; exact alike_all LX.out LY.out hal)
          go_wp2
          go_ret
          exact ⟨bret X.out.symm, bdn (Below.refl _ _) _⟩
  · have X := Lib.hid (show decide (x = y) = false by rw [decide_eq_false_iff_not]; intro e; apply h; rw [← ha.1, ← hb.1, e])
    have k : ((n : Int) != m) = true := by simp; omega
    go_enter Try.func13, Try.ntmps13
    go_wp2
    go_ret
    exact ⟨bret X.out.symm, Below.refl _ _⟩
theorem same_self (a b : Option Addr) (n m ca cb : Nat) (x : List Int) (w : World) (hn : n ≤ 9223372036854775807) (ha : SlK .i64 w a n x) (hb : SlK .i64 w b m x) :
    Calls Try.prog 13 #[.slice a n ca, .slice b m cb] w fun e w' => e = .returned (.bool true) ∧ Below w.heap.size w w' := by
  refine (same_any a b n m ca cb x x w hn ha hb).mono ?_
  rintro e w' ⟨rfl, h⟩
  exact ⟨bret (by simp), h⟩
end Sm
end Go.Proofs.Ytpkikhoicobmcaa
