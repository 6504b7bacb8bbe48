/- A number put into a row of the call's own, by slices.Insert. No condition but the model's bounds. -/
import Derived.Test.YtehmbnloplamaaaTrE
import Derived.Test.YtehmbnloplamaaaTrLay
namespace Go.Proofs.Ytehmbnloplamaaa
open Go.RowKit Go.Shelf
set_option linter.unusedVariables false
open Tr
theorem heapNewT (w : World) (o : Obj) : (w.alloc o).heap[w.heap.size]? = some o := World.alloc_heap_new w o
namespace Tr
def writeL (l : List Value) (o : Nat) : List Value → List Value
  | [] => l
  | v :: vs => writeL (l.set o v) (o + 1) vs
theorem writeL_len : ∀ (vs l : List Value) (o : Nat), (writeL l o vs).length = l.length
  | [], l, o => rfl
  | v :: vs, l, o => by unfold writeL; rw [writeL_len vs, List.length_set]
theorem writeL_eq : ∀ (vs l : List Value) (o : Nat), o + vs.length ≤ l.length → writeL l o vs = l.take o ++ vs ++ l.drop (o + vs.length)
  | [], l, o, h => by simp [writeL]
  | v :: vs, l, o, h => by
    rw [List.length_cons] at h
    unfold writeL
    rw [writeL_eq vs _ _ (by rw [List.length_set]; omega), List.length_cons, show o + 1 + vs.length = o + (vs.length + 1) by omega]
    rw [List.drop_set_of_lt (by omega), List.set_eq_take_append_cons_drop, if_pos (by omega)]
    rw [show l.take o ++ v :: l.drop (o + 1) = (l.take o ++ [v]) ++ l.drop (o + 1) by simp]
    have e : (l.take o ++ [v]).length = o + 1 := by rw [List.length_append, List.length_take, List.length_singleton]; omega
    rw [List.take_append_of_le_length (by omega), List.take_of_length_le (by omega)]
    simp
theorem heap_setCells {b : Nat} {t : TypeId} : ∀ (vs : List Value) (o : Nat) (w : World) (cur : Array Value), w.heap[b]? = some (.cells cur t (0, 0)) → (w.setCells b o vs).heap[b]? = some (.cells (writeL cur.toList o vs).toArray t (0, 0))
  | [], o, w, cur, h => by simpa [writeL, World.setCells] using h
  | v :: vs, o, w, cur, h => by
    unfold World.setCells writeL
    have h1 := set_same o v h
    have := heap_setCells vs (o + 1) _ _ h1
    rwa [Array.toList_setIfInBounds] at this
theorem heap_setCells_far {b : Nat} : ∀ (vs : List Value) (o : Nat) (w : World) (k : Nat), k ≠ b → (w.setCells b o vs).heap[k]? = w.heap[k]? ∧ (w.setCells b o vs).heap.size = w.heap.size ∧ (w.setCells b o vs).os = w.os ∧ (w.setCells b o vs).tape = w.tape ∧ (w.setCells b o vs).output = w.output
  | [], o, w, k, h => ⟨rfl, rfl, rfl, rfl, rfl⟩
  | v :: vs, o, w, k, h => by
    unfold World.setCells
    obtain ⟨h1, h2, h3, h4, h5⟩ := heap_setCells_far vs (o + 1) (w.setCell ⟨b, o, none⟩ v) k h
    exact ⟨h1.trans (Below.heap_setCell _ _ _ _ h), by rw [h2]; simp, h3, h4, h5⟩
/-- a block is turned, or blocks are made: the rest lies on -/
theorem grown_cells {w : World} {b : Nat} (o : Nat) (vs : List Value) {row : Option Nat} (hr : row = some b) : w.grownBy (w.setCells b o vs) row := by
  have hs := heap_setCells_far (b := b) vs o w (b + 1) (by omega)
  refine ⟨hs.2.2.1, hs.2.2.2.1, hs.2.2.2.2, Nat.le_of_eq hs.2.1.symm, fun k hk hne => ?_⟩
  refine (heap_setCells_far vs o w k (fun e => hne ?_)).1
  rw [hr, e]
theorem grown_trans' {a b c : World} {row : Option Nat} (h : a.grownBy b row) (k : b.grownBy c row) : a.grownBy c row :=
  ⟨k.os.trans h.os, k.tape.trans h.tape, k.output.trans h.output, Nat.le_trans h.size k.size, fun j hj hne => (k.block j (Nat.lt_of_lt_of_le hj h.size) hne).trans (h.block j hj hne)⟩
theorem grown_drew (w : World) (row : Option Nat) : w.grownBy w.drew row := ⟨rfl, rfl, rfl, Nat.le_refl _, fun _ _ _ => rfl⟩
theorem grown_new (w : World) (o : Obj) (i j : Nat) (vs us : List Value) (row : Option Nat) : w.grownBy ((((w.alloc o).drew.setCells w.heap.size i vs).drew).setCells w.heap.size j us) row := by
  have h1 := fun k hk => heap_setCells_far (b := w.heap.size) vs i (w.alloc o).drew k hk
  have h2 := fun k hk => heap_setCells_far (b := w.heap.size) us j ((w.alloc o).drew.setCells w.heap.size i vs).drew k hk
  have a := h1 (w.heap.size + 1) (by omega)
  have b := h2 (w.heap.size + 1) (by omega)
  refine ⟨b.2.2.1.trans a.2.2.1, b.2.2.2.1.trans a.2.2.2.1, b.2.2.2.2.trans a.2.2.2.2, ?_, fun k hk _ => ?_⟩
  · rw [b.2.1]
    show w.heap.size ≤ ((w.alloc o).drew.setCells w.heap.size i vs).heap.size
    rw [a.2.1]
    show w.heap.size ≤ (w.alloc o).heap.size
    simp
  · exact ((h2 k (by omega)).1.trans (h1 k (by omega)).1).trans (heap_alloc_old w o k hk)
theorem ins_list {cs L : List Value} {n i : Nat} {x : Value} (hL : L.take n = cs) (hn : n + 1 ≤ L.length) (hi : i ≤ n) (hc : cs.length = n) :
    (writeL (writeL L (i + 1) (cs.drop i)) i [x]).take (n + 1) = cs.take i ++ x :: cs.drop i := by
  have hd : (cs.drop i).length = n - i := by rw [List.length_drop, hc]
  have e1 : writeL L (i + 1) (cs.drop i) = L.take (i + 1) ++ cs.drop i ++ L.drop (i + 1 + (n - i)) := by rw [writeL_eq _ _ _ (by rw [hd]; omega), hd]
  have l1 : (writeL L (i + 1) (cs.drop i)).length = L.length := writeL_len _ _ _
  rw [writeL_eq _ _ _ (by rw [l1]; simp; omega), List.length_singleton, e1]
  have t1 : (L.take (i + 1)).length = i + 1 := by rw [List.length_take]; omega
  have e2 : (L.take (i + 1) ++ cs.drop i ++ L.drop (i + 1 + (n - i))).take i = cs.take i := by
    rw [List.append_assoc, List.take_append_of_le_length (by omega), List.take_take, Nat.min_eq_left (by omega), ← hL, List.take_take, Nat.min_eq_left hi]
  have e3 : (L.take (i + 1) ++ cs.drop i ++ L.drop (i + 1 + (n - i))).drop (i + 1) = cs.drop i ++ L.drop (i + 1 + (n - i)) := by
    rw [List.append_assoc, List.drop_append_of_le_length (by omega), List.drop_of_length_le (by omega), List.nil_append]
  rw [e2, e3]
  rw [show cs.take i ++ [x] ++ (cs.drop i ++ L.drop (i + 1 + (n - i))) = (cs.take i ++ x :: cs.drop i) ++ L.drop (i + 1 + (n - i)) by simp]
  have e4 : (cs.take i ++ x :: cs.drop i).length = n + 1 := by rw [List.length_append, List.length_take, List.length_cons, hd]; omega
  rw [List.take_append_of_le_length (by omega), List.take_of_length_le (by omega)]
end Tr
theorem ints_one1 (q : IntKind) (l : List Int) : ∀ v ∈ l.map (Value.int q), v.oneCell' = true := by
  intro u hu; obtain ⟨x, _, rfl⟩ := List.mem_map.1 hu; rfl
set_option maxHeartbeats 1000000 in
theorem insert_tr (B : Nat) (v : Value) (n i : Nat) (zs : List Int) (x : Int) (vb : Nat) (w : World) (h : w.ownsRow B 3 1 v n (zs.map (Value.int .i64))) (hi : i ≤ n) (hn : n ≤ 1000000) (hB : B ≤ w.heap.size) (hvb : w.heap[vb]? = some (.cells #[.int .i64 x] 3 (0, 0))) (hne : v.ownBlock ≠ some vb) :
    Calls Try.prog 62 #[v, .int .i64 i, .slice (some ⟨vb, 0, none⟩) 1 1] w fun e w' => ∃ g c, e = .returned (.slice (some ⟨g, 0, none⟩) (n + 1) c) ∧ w'.ownsRow B 3 1 (.slice (some ⟨g, 0, none⟩) (n + 1) c) (n + 1) ((zs.take i ++ x :: zs.drop i).map (Value.int .i64)) ∧ w.grownBy w' v.ownBlock ∧ (v.ownBlock = some g ∨ g = w.heap.size) := by
  have hl : zs.length = n := by have := h.1; rw [List.length_map] at this; omega
  have hvs : ∀ j u, [Value.int .i64 x][j]? = some u → w.cell? ⟨vb, 0 + j, none⟩ = some u := fun j u hu => by
    have hj : j < 1 := by have := (List.getElem?_eq_some_iff.1 hu).1; simpa using this
    obtain rfl : j = 0 := by omega
    simp at hu; subst hu
    simp [World.cell?, hvb]
  have h1v : ∀ u ∈ [Value.int .i64 x], u.oneCell' = true := fun u hu => by simp at hu; subst hu; rfl
  have hm : (zs.take i ++ x :: zs.drop i).map (Value.int .i64) = (zs.map (Value.int .i64)).take i ++ .int .i64 x :: (zs.map (Value.int .i64)).drop i := by
    rw [List.map_append, List.map_cons, List.map_take, List.map_drop]
  rw [hm]
  have hc : (zs.map (Value.int .i64)).length = n := by rw [List.length_map, hl]
  have h1c := ints_one1 .i64 zs
  generalize zs.map (Value.int .i64) = cs at h hc h1c
  have hL := Ly.lays21
  have hz1 : (Value.int IntKind.i64 0).cells.size = 1 := rfl
  rcases h.2 with ⟨rfl, rfl⟩ | ⟨g, cap, cur, rfl, hbg, hg, hle, hmx, hsz, htk⟩
  · obtain rfl : i = 0 := by omega
    have e0 : cs = [] := List.length_eq_zero_iff.1 hc
    subst e0
    refine (Any2.slices_Insert_int_end_grow hL none 0 0 vb 0 1 1 [] [.int .i64 x] w (by omega) (by omega) (by omega) (by omega) rfl rfl (fun _ => rfl) (fun a h => by cases h) hvs h1v).mono ?_
    rintro e w' ⟨rfl, rfl⟩
    refine ⟨_, _, rfl, ⟨by simp, .inr ⟨_, _, _, rfl, hB, heapNewT w.drew _, ?_, ?_, ?_, ?_⟩⟩, ?_, .inr rfl⟩
    · exact grownCap_ge _ _ _ _
    · exact grownCap_le_maxLen _ _ _ _ (by unfold maxLen; omega)
    · rw [Array.size_append, size_zeroCells, hz1]
      have := grownCap_ge w (0 + 1) 0 (Ly.lays21_ren.t 3)
      generalize grownCap w (0 + 1) 0 (Ly.lays21_ren.t 3) = C at *
      simp; omega
    · rw [Array.toList_append]; simp
    · exact grown_trans' (grown_drew w _) (World.grownBy_alloc _ _ _)
  · rw [Nat.mul_one] at hsz htk
    have hcell : ∀ j, j < cap → w.cell? ⟨g, j, none⟩ = cur[j]? := fun j hj => by simp [World.cell?, hg]
    have hsome : ∀ j, j < cap → (w.cell? ⟨g, j, none⟩).isSome = true := fun j hj => by rw [hcell j hj, Array.getElem?_eq_getElem (by omega)]; rfl
    have hfz : ∀ j, w.frozen? ⟨g, j, none⟩ = false := fun j => by simp [World.frozen?, hg]
    have hcs : ∀ j u, cs[j]? = some u → w.cell? ⟨g, 0 + j, none⟩ = some u := fun j u hu => by
      have hj : j < n := by have := (List.getElem?_eq_some_iff.1 hu).1; omega
      rw [Nat.zero_add, h.cellAt j (by omega)]; exact hu
    have hgl : g < w.heap.size := (Array.getElem?_eq_some_iff.1 hg).1
    have hgvb : vb ≠ g := fun e => hne (by rw [e]; rfl)
    have hcl : cur.toList.length = cap := by simpa using hsz
    have hmx' : cap ≤ 9223372036854775807 := by unfold maxLen at hmx; omega
    by_cases hroom : n + 1 ≤ cap
    · have hfin := ins_list (x := .int .i64 x) htk (by rw [hcl]; omega) hi hc
      by_cases hin : i < n
      · refine (Any2.slices_Insert_int_shift hL g 0 n cap i vb 0 1 1 cs [.int .i64 x] w hin (by omega) hroom hmx' hgvb hc rfl hcs (fun j hj => by rw [Nat.zero_add]; exact hsome j (by omega)) (fun j hj => by rw [Nat.zero_add]; exact hfz j) hvs h1c h1v 3 3 1 cap (by simp [World.shape?, hvb]) (by simp [World.shape?, hg, hsz]) (by omega) (by simp [World.frozen?, hvb]) (by simp [World.frozen?, hvb])).mono ?_
        rintro e w' ⟨rfl, rfl⟩
        have hg1 : w.drew.heap[g]? = some (.cells cur 3 (0, 0)) := hg
        have h1 := heap_setCells (cs.drop i) (0 + (i + 1)) w.drew cur hg1
        have h2 := heap_setCells [.int .i64 x] (0 + i) _ _ h1
        rw [Nat.zero_add, Nat.zero_add] at h2
        refine ⟨g, cap, rfl, ⟨?_, .inr ⟨g, cap, _, rfl, hbg, (by rw [Nat.zero_add, Nat.zero_add]; exact h2), hroom, hmx, ?_, ?_⟩⟩, ?_, .inl rfl⟩
        · rw [List.length_append, List.length_take, List.length_cons, List.length_drop, hc]; omega
        · rw [Nat.mul_one, List.size_toArray, writeL_len]; simp [writeL_len]; omega
        · rw [Nat.mul_one]
          simpa using hfin
        · exact grown_trans' (grown_trans' (grown_drew w _) (grown_cells _ _ rfl)) (grown_cells _ _ rfl)
      · obtain rfl : i = n := by omega
        refine (Any2.slices_Insert_int_end_room hL g 0 i cap vb 0 1 1 [.int .i64 x] w (by omega) hroom hmx' rfl (fun j hj => by rw [Nat.zero_add]; exact hsome _ (by omega)) (fun j hj => hfz _) hvs h1v).mono ?_
        rintro e w' ⟨rfl, rfl⟩
        have h2 := heap_setCells [.int .i64 x] (0 + i) w cur hg
        rw [Nat.zero_add] at h2
        have e0 : cs.drop i = [] := List.drop_of_length_le (by omega)
        rw [e0] at hfin ⊢
        refine ⟨g, cap, rfl, ⟨?_, .inr ⟨g, cap, _, rfl, hbg, (by rw [Nat.zero_add]; exact h2), hroom, hmx, ?_, ?_⟩⟩, ?_, .inl rfl⟩
        · rw [List.length_append, List.length_take, List.length_singleton, hc]; omega
        · rw [Nat.mul_one, List.size_toArray, writeL_len]; exact hcl
        · rw [Nat.mul_one]
          simpa [writeL] using hfin
        · exact grown_cells _ _ rfl
    · have hcap : n = cap := by omega
      by_cases hin : i < n
      · refine (Any2.slices_Insert_int_grow hL g 0 n cap i vb 0 1 1 cs [.int .i64 x] w hin (by omega) hle (by omega) (by omega) hc rfl hcs hvs h1c h1v).mono ?_
        rintro e w' ⟨rfl, rfl⟩
        have hge := grownCap_ge w (n + 1) cap (Ly.lays21_ren.t 3)
        have hmxg := grownCap_le_maxLen w (n + 1) cap (Ly.lays21_ren.t 3) (by unfold maxLen; omega)
        generalize grownCap w (n + 1) cap (Ly.lays21_ren.t 3) = C at *
        have h0 := heapNewT w (.cells ((cs.take i).toArray ++ Builtin.zeroCells (Value.int .i64 0).cells (n + 1 - i) ++ Builtin.zeroCells (Value.int .i64 0).cells (C - (n + 1))) 3)
        generalize hA : (cs.take i).toArray ++ Builtin.zeroCells (Value.int .i64 0).cells (n + 1 - i) ++ Builtin.zeroCells (Value.int .i64 0).cells (C - (n + 1)) = A at *
        have hAs : A.size = C := by
          rw [← hA, Array.size_append, Array.size_append, size_zeroCells, size_zeroCells, hz1, List.size_toArray, List.length_take, hc]; omega
        have hAt : A.toList.take i = cs.take i := by
          rw [← hA, Array.toList_append, Array.toList_append, List.append_assoc, List.take_append_of_le_length (by simp; omega), List.take_of_length_le (by simp; omega)]
        have h1 := heap_setCells [.int .i64 x] i _ A (show (w.alloc (.cells A 3)).drew.heap[w.heap.size]? = _ from h0)
        have h2 := heap_setCells (cs.drop i) (i + 1) _ _ (show ((w.alloc (.cells A 3)).drew.setCells w.heap.size i [.int .i64 x]).drew.heap[w.heap.size]? = _ from h1)
        have hAl : A.toList.length = C := by simpa using hAs
        have hdl : (cs.drop i).length = n - i := by rw [List.length_drop, hc]
        have hw1 : writeL A.toList i [.int .i64 x] = A.toList.take i ++ [.int .i64 x] ++ A.toList.drop (i + 1) := by rw [writeL_eq _ _ _ (by simp; omega)]; rfl
        have hw1l : (writeL A.toList i [.int .i64 x]).length = C := by rw [writeL_len, hAl]
        refine ⟨_, _, rfl, ⟨?_, .inr ⟨_, C, _, rfl, hB, h2, hge, hmxg, ?_, ?_⟩⟩, ?_, .inr rfl⟩
        · rw [List.length_append, List.length_take, List.length_cons, List.length_drop, hc]; omega
        · rw [Nat.mul_one, List.size_toArray, writeL_len]; simpa using hw1l
        · rw [Nat.mul_one]
          show (writeL (writeL A.toList i [.int .i64 x]) (i + 1) (cs.drop i)).take (n + 1) = _
          rw [writeL_eq _ _ _ (by rw [hw1l, hdl]; omega), hw1, hAt]
          have e1 : (cs.take i ++ [Value.int .i64 x] ++ A.toList.drop (i + 1)).take (i + 1) = cs.take i ++ [.int .i64 x] := by
            rw [List.take_append_of_le_length (by rw [List.length_append, List.length_take, List.length_singleton, hc]; omega), List.take_of_length_le (by rw [List.length_append, List.length_take, List.length_singleton, hc]; omega)]
          rw [e1]
          have e2 : (cs.take i ++ [Value.int .i64 x] ++ cs.drop i).length = n + 1 := by rw [List.length_append, List.length_append, List.length_take, List.length_singleton, hdl, hc]; omega
          rw [List.take_append_of_le_length (by omega), List.take_of_length_le (by omega)]
          simp
        · exact grown_new w _ _ _ _ _ _
      · obtain rfl : i = n := by omega
        refine (Any2.slices_Insert_int_end_grow hL (some ⟨g, 0, none⟩) i cap vb 0 1 1 cs [.int .i64 x] w (by omega) hle (by omega) (by omega) hc rfl (fun e => by cases e) (fun a ha j u hu => by cases ha; rw [addrK_add]; exact hcs j u hu) hvs h1v).mono ?_
        rintro e w' ⟨rfl, rfl⟩
        have e0 : cs.drop i = [] := List.drop_of_length_le (by omega)
        have e1 : cs.take i = cs := List.take_of_length_le (by omega)
        rw [e0, e1]
        have hge := grownCap_ge w (i + 1) cap (Ly.lays21_ren.t 3)
        have hmxg := grownCap_le_maxLen w (i + 1) cap (Ly.lays21_ren.t 3) (by unfold maxLen; omega)
        generalize grownCap w (i + 1) cap (Ly.lays21_ren.t 3) = C at *
        refine ⟨_, _, rfl, ⟨by rw [List.length_append, hc]; simp, .inr ⟨_, _, _, rfl, hB, heapNewT w.drew _, hge, hmxg, ?_, ?_⟩⟩, ?_, .inr rfl⟩
        · rw [Array.size_append, size_zeroCells, hz1, List.size_toArray, List.length_append, hc, List.length_singleton]; omega
        · rw [Array.toList_append, Nat.mul_one, List.take_append_of_le_length (by simp; omega), List.take_of_length_le (by simp; omega)]
        · exact grown_trans' (grown_drew w _) (World.grownBy_alloc _ _ _)
end Go.Proofs.Ytehmbnloplamaaa
