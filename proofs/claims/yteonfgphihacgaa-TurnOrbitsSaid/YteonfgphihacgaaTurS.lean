/- All ways to lay a matrix that are not the same, as a plain function; rows of ints in blocks; a matrix that can't be laid, in turn's add. Condition: as said at each. -/
import Derived.Test.YteonfgphihacgaaTurR
namespace Go.Proofs.Yteonfgphihacgaa
open Go.RowKit
set_option linter.unusedVariables false

/-- ints in a block, known whole -/
def OwnI (w : World) (b : Nat) (ty : TypeId) (L : List Int) : Prop := w.heap[b]? = some (.cells (L.map (Value.int .i64)).toArray ty (0, 0))
section
variable {w w' : World} {b : Nat} {ty : TypeId} {L : List Int}
theorem OwnI.lt (h : OwnI w b ty L) : b < w.heap.size := (Array.getElem?_eq_some_iff.1 h).1
theorem OwnI.cell (h : OwnI w b ty L) {i : Nat} (hi : i < L.length) : w.cell? ⟨b, i, none⟩ = some (.int .i64 (L.getD i 0)) := by
  have h' : w.heap[b]? = _ := h
  simp [World.cell?, h', List.getD_eq_getElem?_getD, List.getElem?_eq_getElem hi]
theorem OwnI.fr (h : OwnI w b ty L) (k : Nat) : w.frozen? ⟨b, k, none⟩ = false := by
  have h' : w.heap[b]? = _ := h
  simp [World.frozen?, h']
theorem OwnI.later (h : OwnI w b ty L) (hb : Below w.heap.size w w') : OwnI w' b ty L := (hb.block b h.lt).trans h
theorem OwnI.put (h : OwnI w b ty L) (k : Nat) (v : Int) : OwnI (w.setCell ⟨b, k, none⟩ (.int .i64 v)) b ty (L.set k v) := by
  unfold OwnI
  rw [Go.heap_setCell_same w b k _ _ _ h]
  simp [List.map_set]
theorem OwnI.set (h : OwnI w b ty L) (a : Addr) (y : Value) (hne : b ≠ a.block) : OwnI (w.setCell a y) b ty L := heapSet w a y h hne
theorem OwnI.alloc (h : OwnI w b ty L) (o : Obj) : OwnI (w.alloc o) b ty L := heapOld w o h
theorem OwnI.grown {n base : Nat} {v : Value} {xs : List Value} {e : TypeId} {size : Nat} (h : OwnI w b ty L) (hlt : b < base) (hrow : w.ownsRow base e size v n xs) (hg : w.grownBy w' v.ownBlock) : OwnI w' b ty L := by
  unfold OwnI
  rw [hg.block b h.lt (fun he => by have := (hrow.lt b he.symm).1; omega)]
  exact h
end
theorem Sb.grown {w w' : World} {b n base : Nat} {t e : TypeId} {size : Nat} {u v x V : Value} {xs : List Value} (h : Sb w b t u v x) (hlt : b < base) (hrow : w.ownsRow base e size V n xs) (hg : w.grownBy w' V.ownBlock) : Sb w' b t u v x := by
  unfold Sb
  rw [hg.block b h.lt (fun he => by have := (hrow.lt b he.symm).1; omega)]
  exact h
theorem Lie.set {n b : Nat} {w : World} {ty : TypeId} {L : List Int} {es : List Ent} (h : Lie n w es) (hb : OwnI w b ty L) (hty : ty ≠ 76) (k : Nat) (y : Value) : Lie n (w.setCell ⟨b, k, none⟩ y) es := fun e he => by
  obtain ⟨h1, h2⟩ := h e he
  refine ⟨h1.set _ y ?_, h2⟩
  intro e'
  have hb' : w.heap[b]? = _ := hb
  have e2 : e.2.2.1 = b := e'
  have := h1.2
  rw [e2, hb'] at this
  injection this with this
  injection this with _ ht _
  exact hty ht
namespace Tu
def keyOf (W H : Nat) (L : List Int) (g : Nat) : Option (Nat × Nat × List Int) := if Rc.sized (sw g W H : Nat) (sw g H W : Nat) = true then some (sw g W H, sw g H W, layL g W H L) else none
def addK (ks : List (Nat × Nat × List Int)) : Option (Nat × Nat × List Int) → List (Nat × Nat × List Int) × Int
  | none => (ks, -1)
  | some t => if placeK ks t < 0 then (ks ++ [t], (ks.length : Int)) else (ks, placeK ks t)
def stepO (W H : Nat) (L : List Int) (ks : List (Nat × Nat × List Int)) (t : Int) : List (Nat × Nat × List Int) × Int := if isT t = true then addK ks (keyOf W H L t.toNat) else (ks, -1)
def orbO (W H : Nat) (L : List Int) (ts : List Int) : List (Nat × Nat × List Int) × List Int := ts.foldl (fun s t => ((stepO W H L s.1 t).1, s.2 ++ [(stepO W H L s.1 t).2])) ([], [])
theorem orb_more (W H : Nat) (L ts : List Int) (t : Int) : orbO W H L (ts ++ [t]) = ((stepO W H L (orbO W H L ts).1 t).1, (orbO W H L ts).2 ++ [(stepO W H L (orbO W H L ts).1 t).2]) := by
  unfold orbO; rw [List.foldl_append]; rfl
theorem orb_take (W H : Nat) (L ts : List Int) {i : Nat} (hi : i < ts.length) : orbO W H L (ts.take (i + 1)) = ((stepO W H L (orbO W H L (ts.take i)).1 (ts.getD i 0)).1, (orbO W H L (ts.take i)).2 ++ [(stepO W H L (orbO W H L (ts.take i)).1 (ts.getD i 0)).2]) := by
  rw [List.take_add_one, List.getElem?_eq_getElem hi]
  have : ts.getD i 0 = ts[i] := by rw [List.getD_eq_getElem?_getD, List.getElem?_eq_getElem hi]; rfl
  rw [this]
  exact orb_more ..
theorem addK_len (ks : List (Nat × Nat × List Int)) (o : Option (Nat × Nat × List Int)) : (addK ks o).1.length ≤ ks.length + 1 := by
  cases o with
  | none => simp [addK]
  | some t => simp only [addK]; split <;> simp
theorem firstI_neg {p : Nat → Bool} {k : Nat} (h : firstI p k < 0) : ∀ i, i < k → p i = false := by
  intro i hi
  cases e : p i with
  | false => rfl
  | true =>
    exfalso
    unfold firstI at h
    cases hf : (List.range k).find? p with
    | none =>
      rw [List.find?_eq_none] at hf
      exact hf i (List.mem_range.2 hi) e
    | some j => rw [hf] at h; simp at h; omega
theorem find_first (p : Nat → Bool) (i : Nat) {k : Nat} (hi : i < k) (e : p i = true) : ∃ m, (List.range k).find? p = some m ∧ m ≤ i := by
  have hx : ∃ m, m ≤ i ∧ p m = true ∧ ∀ j, j < m → p j = false := by
    clear hi
    induction i using Nat.strongRecOn with
    | ind i ih =>
      by_cases hall : ∀ j, j < i → p j = false
      · exact ⟨i, Nat.le_refl _, e, hall⟩
      · have : ∃ j, j < i ∧ p j = true := by
          apply Classical.byContradiction
          intro hno
          apply hall
          intro j hj
          cases ej : p j with
          | false => rfl
          | true => exact absurd ⟨j, hj, ej⟩ hno
        obtain ⟨j, hj, ej⟩ := this
        obtain ⟨m, h1, h2, h3⟩ := ih j hj ej
        exact ⟨m, by omega, h2, h3⟩
  obtain ⟨m, h1, h2, h3⟩ := hx
  exact ⟨m, find_range (by omega) h3 h2, h1⟩
theorem firstI_some {p : Nat → Bool} {k : Nat} {j : Int} (h : firstI p k = j) (h0 : 0 ≤ j) : ∃ n : Nat, j = n ∧ n < k ∧ p n = true ∧ ∀ i, i < n → p i = false := by
  unfold firstI at h
  cases hf : (List.range k).find? p with
  | none => rw [hf] at h; simp at h; omega
  | some n =>
    rw [hf] at h
    refine ⟨n, h.symm, List.mem_range.1 (List.mem_of_find?_eq_some hf), List.find?_some hf, fun i hi => ?_⟩
    cases e : p i with
    | false => rfl
    | true =>
      exfalso
      have hn := List.mem_range.1 (List.mem_of_find?_eq_some hf)
      have := find_first p i (by omega : i < k) e
      obtain ⟨m, hm, hm2⟩ := this
      rw [hf] at hm
      injection hm with hm
      omega
theorem place_more {ks : List (Nat × Nat × List Int)} {t x : Nat × Nat × List Int} (h : 0 ≤ placeK ks t) : placeK (ks ++ [x]) t = placeK ks t := by
  obtain ⟨n, h1, h2, h3, h4⟩ := firstI_some (rfl : placeK ks t = _) h
  rw [h1]
  refine firstI_hit (by rw [List.length_append]; omega) (fun i hi => ?_) ?_
  · rw [List.getElem?_append_left (by omega)]; exact h4 i hi
  · rw [List.getElem?_append_left h2]; exact h3
theorem key_self (t : Nat × Nat × List Int) : isKey t t = true := by simp [isKey, eqM]
theorem place_new {ks : List (Nat × Nat × List Int)} {t : Nat × Nat × List Int} (h : placeK ks t < 0) : placeK (ks ++ [t]) t = ks.length := by
  have h1 := firstI_neg h
  refine firstI_hit (by rw [List.length_append]; simp) (fun i hi => ?_) ?_
  · rw [List.getElem?_append_left hi]; exact h1 i hi
  · rw [List.getElem?_append_right (Nat.le_refl _)]; simp [key_self]
/-- what is known of each turn -/
def Known (W H : Nat) (L : List Int) (ks : List (Nat × Nat × List Int)) (kn : List Int) : Prop := kn.length = 8 ∧ ∀ g, g < 8 → kn.getD g 0 = -1 ∨ (0 ≤ kn.getD g 0 ∧ ∃ t, keyOf W H L g = some t ∧ placeK ks t = kn.getD g 0)
theorem addK_place (ks : List (Nat × Nat × List Int)) (t : Nat × Nat × List Int) : 0 ≤ (addK ks (some t)).2 ∧ placeK (addK ks (some t)).1 t = (addK ks (some t)).2 := by
  simp only [addK]
  by_cases h : placeK ks t < 0
  · rw [if_pos h]; exact ⟨by simp, place_new h⟩
  · rw [if_neg h]; exact ⟨by simpa using h, rfl⟩
theorem addK_keep {ks : List (Nat × Nat × List Int)} {o : Option (Nat × Nat × List Int)} {t : Nat × Nat × List Int} (h : 0 ≤ placeK ks t) : placeK (addK ks o).1 t = placeK ks t := by
  cases o with
  | none => rfl
  | some x =>
    simp only [addK]
    split
    · exact place_more h
    · rfl
theorem known_set {W H : Nat} {L : List Int} {ks : List (Nat × Nat × List Int)} {kn : List Int} (h : Known W H L ks kn) {g : Nat} (hg : g < 8) : Known W H L (addK ks (keyOf W H L g)).1 (kn.set g (addK ks (keyOf W H L g)).2) := by
  obtain ⟨h1, h2⟩ := h
  refine ⟨by rw [List.length_set]; exact h1, fun i hi => ?_⟩
  by_cases e : i = g
  · subst e
    have e1 : (kn.set i (addK ks (keyOf W H L i)).2).getD i 0 = (addK ks (keyOf W H L i)).2 := by
      rw [List.getD_eq_getElem?_getD, List.getElem?_set_self (by omega)]; rfl
    rw [e1]
    cases hk : keyOf W H L i with
    | none => exact .inl rfl
    | some t => exact .inr ⟨(addK_place ks t).1, t, rfl, (addK_place ks t).2⟩
  · have e1 : (kn.set g (addK ks (keyOf W H L g)).2).getD i 0 = kn.getD i 0 := by
      rw [List.getD_eq_getElem?_getD, List.getElem?_set_ne (Ne.symm e), List.getD_eq_getElem?_getD]
    rw [e1]
    rcases h2 i hi with h | ⟨h3, t, h4, h5⟩
    · exact .inl h
    · exact .inr ⟨h3, t, h4, by rw [addK_keep (by rw [h5]; exact h3), h5]⟩
theorem known_hit {W H : Nat} {L : List Int} {ks : List (Nat × Nat × List Int)} {kn : List Int} (h : Known W H L ks kn) {g : Nat} (hg : g < 8) (hne : ¬ kn.getD g 0 = -1) : addK ks (keyOf W H L g) = (ks, kn.getD g 0) := by
  rcases h.2 g hg with h1 | ⟨h1, t, h2, h3⟩
  · exact absurd h1 hne
  · rw [h2]; simp only [addK]; rw [if_neg (by omega), h3]
end Tu
set_option maxHeartbeats 2000000 in
/-- it can't be laid so -/
theorem add_no (v : Value) (W H g : Nat) (n : Nat) (a : Option Addr) (c : Nat) (w : World)
    (hLay : ∀ w2, Below w.heap.size w w2 → Calls Try.prog 82 #[.agg #[.int .i64 W, .int .i64 H, .slice a n c], .int .i64 g] w2 fun e w' => e = .returned (.tuple #[.agg #[.int .i64 0, .int .i64 0, .slice none 0 0], .int .i64 4]) ∧ Below w2.heap.size w2 w') :
    Calls Try.prog 80 #[v, .agg #[.int .i64 W, .int .i64 H, .slice a n c], .int .i64 g] w fun e w' => e = .returned (.tuple #[v, .int .i64 (-1)]) ∧ Below w.heap.size w w' := by
  have B := box1 w (.cells #[.int .i64 W, .int .i64 H, .slice a n c] 54)
  have HL := Lib.hid (hLay _ B)
  clear hLay
  go_enter Try.func80, Try.ntmps80
  go_wp2_with fail
  refine HL.out.mono ?_
  rintro e w1 ⟨rfl, hb1⟩
  replace B := bel_step B hb1
  go_wp2
  go_ret2
  exact ⟨rfl, B.alloc B.size _⟩
end Go.Proofs.Yteonfgphihacgaa
