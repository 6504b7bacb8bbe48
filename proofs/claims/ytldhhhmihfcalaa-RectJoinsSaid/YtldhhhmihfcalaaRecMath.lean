/- Rectangles of numbers as plain lists: rows one behind the other, parts, where one stands in another. No run of a program. No condition. -/
import Derived.Laws.CopyOwn
namespace Go.Proofs.Ytldhhhmihfcalaa
set_option linter.unusedVariables false
namespace Rc
open Go (splice)

def rowsOf (f : Nat → List Int) (n : Nat) : List Int := (List.range n).flatMap f
theorem rowsOf_zero (f : Nat → List Int) : rowsOf f 0 = [] := rfl
theorem rowsOf_succ (f : Nat → List Int) (n : Nat) : rowsOf f (n + 1) = rowsOf f n ++ f n := by simp [rowsOf, List.range_succ]
theorem rowsOf_congr {f g : Nat → List Int} : ∀ {n : Nat}, (∀ k, k < n → f k = g k) → rowsOf f n = rowsOf g n
  | 0, _ => rfl
  | n + 1, h => by rw [rowsOf_succ, rowsOf_succ, rowsOf_congr (fun k hk => h k (by omega)), h n (by omega)]
theorem rowsOf_length {f : Nat → List Int} {W : Nat} : ∀ {n : Nat}, (∀ k, k < n → (f k).length = W) → (rowsOf f n).length = n * W
  | 0, _ => by simp [rowsOf_zero]
  | n + 1, h => by rw [rowsOf_succ, List.length_append, rowsOf_length (fun k hk => h k (by omega)), h n (by omega), Nat.succ_mul]
theorem rowsOf_add (f : Nat → List Int) (a : Nat) : ∀ b, rowsOf f (a + b) = rowsOf f a ++ rowsOf (fun k => f (a + k)) b
  | 0 => by simp [rowsOf_zero]
  | b + 1 => by rw [← Nat.add_assoc, rowsOf_succ, rowsOf_add f a b, rowsOf_succ, List.append_assoc]
theorem rowsOf_split (f : Nat → List Int) {n y : Nat} (hy : y < n) : rowsOf f n = rowsOf f y ++ (f y ++ rowsOf (fun k => f (y + 1 + k)) (n - y - 1)) := by
  have e : n = (y + 1) + (n - y - 1) := by omega
  conv => lhs; rw [e]
  rw [rowsOf_add, rowsOf_succ, List.append_assoc]
theorem cut_rowsOf {f : Nat → List Int} {n y W x m : Nat} (hy : y < n) (hf : ∀ k, k < n → (f k).length = W) (hx : x + m ≤ W) :
    ((rowsOf f n).drop (y * W + x)).take m = ((f y).drop x).take m := by
  rw [rowsOf_split f hy]
  have e : (rowsOf f y).length = y * W := rowsOf_length (fun k hk => hf k (by omega))
  have ey := hf y hy
  rw [List.drop_append, List.drop_of_length_le (by rw [e]; omega), List.nil_append, e, Nat.add_sub_cancel_left, List.drop_append, List.take_append]
  rw [show m - ((f y).drop x).length = 0 by rw [List.length_drop]; omega]
  simp
theorem splice_rowsOf {f : Nat → List Int} {n y W x : Nat} {p : List Int} (hy : y < n) (hf : ∀ k, k < n → (f k).length = W) (hx : x + p.length ≤ W) :
    splice (rowsOf f n) (y * W + x) p = rowsOf (fun k => if k = y then splice (f y) x p else f k) n := by
  have e : (rowsOf f y).length = y * W := rowsOf_length (fun k hk => hf k (by omega))
  have ey := hf y hy
  rw [rowsOf_split f hy, rowsOf_split (fun k => if k = y then splice (f y) x p else f k) hy]
  rw [rowsOf_congr (f := fun k => if k = y then splice (f y) x p else f k) (g := f) (n := y) (fun k hk => by simp [Nat.ne_of_lt hk])]
  rw [rowsOf_congr (f := fun k => (fun k => if k = y then splice (f y) x p else f k) (y + 1 + k)) (g := fun k => f (y + 1 + k)) (fun k hk => by simp; intro h; omega)]
  simp only [if_true]
  generalize rowsOf f y = A at e ⊢
  generalize rowsOf (fun k => f (y + 1 + k)) (n - y - 1) = B
  unfold splice
  rw [List.take_append, List.take_of_length_le (by rw [e]; omega), e, Nat.add_sub_cancel_left, List.take_append]
  rw [show x - (f y).length = 0 by omega, List.take_zero, List.append_nil]
  rw [List.drop_append, List.drop_of_length_le (l := A) (by rw [e]; omega), List.nil_append, e, show y * W + x + p.length - y * W = x + p.length by omega, List.drop_append, show x + p.length - (f y).length = 0 by omega, List.drop_zero]
  simp [List.append_assoc]
theorem splice_whole {p q : List Int} (h : q.length = p.length) : splice q 0 p = p := by simp [splice, ← h]
/-- one row more is filled -/
theorem fill_row {f z : Nat → List Int} {n k m : Nat} (hk : k < n) (hf : ∀ j, j < n → (f j).length = m) (hz : ∀ j, j < n → (z j).length = m) :
    splice (rowsOf (fun j => if j < k then f j else z j) n) (k * m) (f k) = rowsOf (fun j => if j < k + 1 then f j else z j) n := by
  have h := splice_rowsOf (f := fun j => if j < k then f j else z j) (W := m) (x := 0) (p := f k) hk (fun j hj => by split; exact hf j hj; exact hz j hj) (by rw [hf k hk]; omega)
  rw [Nat.add_zero] at h
  rw [h]
  refine rowsOf_congr fun j hj => ?_
  by_cases e : j = k
  · subst e; simp; exact splice_whole (by rw [hf j hk, hz j hk])
  · by_cases e2 : j < k
    · simp [e, e2, Nat.lt_succ_of_lt e2]
    · have e3 : ¬ j < k + 1 := by omega
      simp [e, e2, e3]
theorem rows_self {W : Nat} : ∀ {n : Nat} {L : List Int}, L.length = n * W → L = rowsOf (fun k => (L.drop (k * W)).take W) n
  | 0, L, h => by rw [Nat.zero_mul] at h; rw [rowsOf_zero]; exact List.eq_nil_of_length_eq_zero h
  | n + 1, L, h => by
    rw [Nat.succ_mul] at h
    have ih := rows_self (W := W) (n := n) (L := L.take (n * W)) (by rw [List.length_take]; omega)
    rw [rowsOf_succ]
    have e1 : (L.drop (n * W)).take W = L.drop (n * W) := List.take_of_length_le (by rw [List.length_drop]; omega)
    rw [e1]
    have e2 : rowsOf (fun k => (L.drop (k * W)).take W) n = L.take (n * W) := by
      rw [ih]
      refine rowsOf_congr fun k hk => ?_
      show _ = List.take W (List.drop (k * W) (List.take (n * W) L))
      rw [List.drop_take, List.take_take]
      congr 1
      have : (k + 1) * W ≤ n * W := Nat.mul_le_mul_right W hk
      rw [Nat.succ_mul] at this
      omega
    rw [e2, List.take_append_drop]
theorem rowsOf_inj {f g : Nat → List Int} : ∀ {n : Nat}, (∀ k, k < n → (f k).length = (g k).length) → rowsOf f n = rowsOf g n → ∀ k, k < n → f k = g k
  | 0, _, _, k, hk => by omega
  | n + 1, hl, h, k, hk => by
    rw [rowsOf_succ, rowsOf_succ] at h
    have h2 := List.append_inj' h (hl n (by omega))
    rcases Nat.lt_or_ge k n with hk' | hk'
    · exact rowsOf_inj (fun k hk => hl k (by omega)) h2.1 k hk'
    · obtain rfl : k = n := by omega
      exact h2.2

/-! what a matrix is, by numbers -/
def sized (w h : Int) : Bool := decide (1 ≤ w) && (decide (w ≤ 4096) && (decide (1 ≤ h) && (decide (h ≤ 65536) && decide (w * h ≤ 16777216))))
def mayV (w h : Int) (n : Nat) : Bool := sized w h && decide ((n : Int) = w * h)
def insV (x n all : Int) : Bool := decide (0 ≤ x) && (decide (1 ≤ n) && (decide (n ≤ all) && decide (x ≤ all - n)))
theorem sized_iff {w h : Int} : sized w h = true ↔ 1 ≤ w ∧ w ≤ 4096 ∧ 1 ≤ h ∧ h ≤ 65536 ∧ w * h ≤ 16777216 := by simp [sized]
theorem mayV_iff {w h : Int} {n : Nat} : mayV w h n = true ↔ (1 ≤ w ∧ w ≤ 4096 ∧ 1 ≤ h ∧ h ≤ 65536 ∧ w * h ≤ 16777216) ∧ (n : Int) = w * h := by simp [mayV, sized_iff]
theorem insV_iff {x n all : Int} : insV x n all = true ↔ 0 ≤ x ∧ 1 ≤ n ∧ n ≤ all ∧ x ≤ all - n := by simp [insV]
def cutL (L : List Int) (W x y n : Int) : List Int := (L.drop (y.toNat * W.toNat + x.toNat)).take n.toNat
def subL (L : List Int) (W x y w h : Int) : List Int := rowsOf (fun k => cutL L W x (y + k) w) h.toNat
def subV (W H : Int) (L : List Int) (x y w h : Int) : Int × Int × List Int × Bool := if (insV x w W && insV y h H) = true then (w, h, subL L W x y w h, true) else (0, 0, [], false)
def atV (W H : Int) (L : List Int) (x y : Int) : Int × Bool := if (insV x 1 W && insV y 1 H) = true then (L.getD (y.toNat * W.toNat + x.toNat) 0, true) else (0, false)
def hasV (W H : Int) (L : List Int) (w h : Int) (M : List Int) (x y : Int) : Bool := (insV x w W && insV y h H) && decide (subL L W x y w h = M)
/-- what holds of a matrix that may be, by numbers -/
def Ok (W H : Int) (L : List Int) : Prop := 1 ≤ W ∧ W ≤ 4096 ∧ 1 ≤ H ∧ H ≤ 65536 ∧ W * H ≤ 16777216 ∧ L.length = H.toNat * W.toNat
theorem ok_may {W H : Int} {L : List Int} (h : Ok W H L) : mayV W H L.length = true := by
  obtain ⟨h1, h2, h3, h4, h5, h6⟩ := h
  rw [mayV_iff]
  refine ⟨⟨h1, h2, h3, h4, h5⟩, ?_⟩
  rw [h6, Int.natCast_mul, Int.toNat_of_nonneg (by omega), Int.toNat_of_nonneg (by omega), Int.mul_comm]
theorem may_ok {W H : Int} {L : List Int} (h : mayV W H L.length = true) : Ok W H L := by
  obtain ⟨⟨h1, h2, h3, h4, h5⟩, h6⟩ := mayV_iff.1 h
  refine ⟨h1, h2, h3, h4, h5, ?_⟩
  have : ((L.length : Nat) : Int) = ((H.toNat * W.toNat : Nat) : Int) := by
    rw [h6, Int.natCast_mul, Int.toNat_of_nonneg (by omega), Int.toNat_of_nonneg (by omega), Int.mul_comm]
  exact_mod_cast this
theorem cutL_length {L : List Int} {W H x y w : Int} (hL : L.length = H.toNat * W.toNat) (hx : insV x w W = true) (hy : insV y 1 H = true) : (cutL L W x y w).length = w.toNat := by
  obtain ⟨a1, a2, a3, a4⟩ := insV_iff.1 hx
  obtain ⟨b1, b2, b3, b4⟩ := insV_iff.1 hy
  rw [cutL, List.length_take, List.length_drop, hL]
  have : (y.toNat + 1) * W.toNat ≤ H.toNat * W.toNat := Nat.mul_le_mul_right _ (by omega)
  rw [Nat.succ_mul] at this
  omega
theorem insV_row {y h H : Int} (hy : insV y h H = true) {k : Nat} (hk : k < h.toNat) : insV (y + k) 1 H = true := by
  obtain ⟨b1, b2, b3, b4⟩ := insV_iff.1 hy
  rw [insV_iff]; omega
theorem subL_length {L : List Int} {W H x y w h : Int} (hL : L.length = H.toNat * W.toNat) (hx : insV x w W = true) (hy : insV y h H = true) : (subL L W x y w h).length = h.toNat * w.toNat :=
  rowsOf_length fun k hk => cutL_length hL hx (insV_row hy hk)
theorem sub_ok {L : List Int} {W H x y w h : Int} (ho : Ok W H L) (hx : insV x w W = true) (hy : insV y h H = true) : Ok w h (subL L W x y w h) := by
  obtain ⟨h1, h2, h3, h4, h5, h6⟩ := ho
  have hl := subL_length h6 hx hy
  obtain ⟨a1, a2, a3, a4⟩ := insV_iff.1 hx
  obtain ⟨b1, b2, b3, b4⟩ := insV_iff.1 hy
  refine ⟨a2, by omega, b2, by omega, ?_, hl⟩
  exact Int.le_trans (Int.mul_le_mul a3 b3 (by omega) (by omega)) h5

/-! one in another: row by row -/
def eqAt (L : List Int) (W w h : Int) (M : List Int) (x y : Int) : Bool := decide (∀ r, r < h.toNat → cutL L W x (y + r) w = cutL M w 0 r w)
theorem rows_cut {M : List Int} {w h : Int} (hM : M.length = h.toNat * w.toNat) : M = rowsOf (fun r => cutL M w 0 (r : Int) w) h.toNat := by
  conv => lhs; rw [rows_self hM]
  refine rowsOf_congr fun k hk => ?_
  simp [cutL]
theorem eqAt_eq {L M : List Int} {W H w h x y : Int} (hL : L.length = H.toNat * W.toNat) (hM : M.length = h.toNat * w.toNat) (hw : 1 ≤ w) (hx : insV x w W = true) (hy : insV y h H = true) :
    eqAt L W w h M x y = decide (subL L W x y w h = M) := by
  unfold eqAt
  congr 1
  refine propext ⟨fun e => ?_, fun e => ?_⟩
  · conv => rhs; rw [rows_cut hM]
    exact rowsOf_congr e
  · rw [rows_cut hM] at e
    refine rowsOf_inj (fun k hk => ?_) (by exact e)
    rw [cutL_length hL hx (insV_row hy hk), cutL_length (H := h) hM (by rw [insV_iff]; omega) (by rw [insV_iff]; omega)]
/-- all places -/
def findV (W H : Int) (L : List Int) (w h : Int) (M : List Int) : List (Int × Int) :=
  (List.range H.toNat).flatMap fun (y : Nat) => (List.range W.toNat).flatMap fun (x : Nat) => if hasV W H L w h M (x : Int) (y : Int) = true then [((x : Int), (y : Int))] else []
def searchV (L : List Int) (W w h : Int) (M : List Int) (fx fy : Int) (nx ny : Nat) : List (Int × Int) :=
  (List.range ny).flatMap fun (j : Nat) => (List.range nx).flatMap fun (i : Nat) => if eqAt L W w h M (fx + i) (fy + j) = true then [(fx + i, fy + j)] else []
theorem flatMap_range_more {α : Type} (f : Nat → List α) (a : Nat) (h : ∀ k, a ≤ k → f k = []) : ∀ b, (List.range (a + b)).flatMap f = (List.range a).flatMap f
  | 0 => rfl
  | b + 1 => by rw [← Nat.add_assoc, List.range_succ, List.flatMap_append, flatMap_range_more f a h b]; simp [h (a + b) (by omega)]
theorem flatMap_range_of_le {α : Type} (f : Nat → List α) {a n : Nat} (ha : a ≤ n) (h : ∀ k, a ≤ k → f k = []) : (List.range n).flatMap f = (List.range a).flatMap f := by
  have := flatMap_range_more f a h (n - a)
  rwa [show a + (n - a) = n by omega] at this
theorem flatMap_range_congr {α : Type} {f g : Nat → List α} {n : Nat} (h : ∀ k, k < n → f k = g k) : (List.range n).flatMap f = (List.range n).flatMap g := by
  rw [List.flatMap_def, List.flatMap_def]
  congr 1
  exact List.map_congr_left fun k hk => h k (List.mem_range.1 hk)
theorem find_eq {W H w h : Int} {L M : List Int} (hL : Ok W H L) (hM : Ok w h M) : findV W H L w h M = searchV L W w h M 0 0 (W - w + 1).toNat (H - h + 1).toNat := by
  obtain ⟨a1, a2, a3, a4, a5, a6⟩ := hL
  obtain ⟨b1, b2, b3, b4, b5, b6⟩ := hM
  unfold findV searchV
  have hno : ∀ x y : Nat, ¬ (insV (x : Int) w W = true ∧ insV (y : Int) h H = true) → hasV W H L w h M (x : Int) (y : Int) = false := by
    intro x y hn
    unfold hasV
    cases e1 : insV (x : Int) w W <;> cases e2 : insV (y : Int) h H <;> simp_all
  rw [flatMap_range_of_le _ (a := (H - h + 1).toNat) (by omega) (fun k hk => ?_)]
  · refine flatMap_range_congr fun j hj => ?_
    rw [flatMap_range_of_le _ (a := (W - w + 1).toNat) (by omega) (fun k hk => ?_)]
    · refine flatMap_range_congr fun i hi => ?_
      have hx : insV (i : Int) w W = true := by rw [insV_iff]; omega
      have hy : insV (j : Int) h H = true := by rw [insV_iff]; omega
      rw [Int.zero_add, Int.zero_add, eqAt_eq a6 b6 b1 hx hy]
      simp [hasV, hx, hy]
    · have : hasV W H L w h M (k : Int) (j : Int) = false := hno k j (fun ⟨h1, h2⟩ => by rw [insV_iff] at h1; omega)
      simp [this]
  · rw [flatMap_range_congr (g := fun _ => []) (fun i _ => ?_)]
    · simp
    · have : hasV W H L w h M (i : Int) (k : Int) = false := hno i k (fun ⟨h1, h2⟩ => by rw [insV_iff] at h2; omega)
      simp [this]
end Rc
end Go.Proofs.Ytldhhhmihfcalaa
