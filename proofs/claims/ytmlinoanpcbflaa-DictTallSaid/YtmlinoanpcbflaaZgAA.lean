/- The document's number made to lie below another one, over any memory. Condition: numbers fit their kinds. -/
import Derived.Test.YtmlinoanpcbflaaProg
import Derived.WalkKit
import Derived.WalkSpells
import Derived.WalkLawsBesides
import Derived.Handy
import Derived.Lib.Hide
import Derived.Laws.CopyOwn
import Derived.Laws.BitsAllLaws
namespace Go.Proofs.Ytmlinoanpcbflaa
open Go.RowKit
set_option linter.unusedVariables false
namespace Ar
def around (n most : Int) : Int := (if n < 0 then -(n + 1) else n) % most
theorem around_lt (n most : Int) (h : 0 < most) : 0 ≤ around n most ∧ around n most < most := by
  unfold around; exact ⟨Int.emod_nonneg _ (by omega), Int.emod_lt_of_pos _ h⟩
theorem ret_i {k : IntKind} {a b : Int} (h : a = b) : Ending.returned (.int k a) = .returned (.int k b) := by rw [h]
end Ar
theorem aroundOf (n m : Int) (h1 : -9223372036854775808 ≤ n) (h2 : n ≤ 9223372036854775807) (hm : 0 < m) (hm' : m ≤ 9223372036854775807) (w : World) :
    Calls Try.prog 7 #[.int .i64 n, .int .i64 m] w fun e w' => e = .returned (.int .i64 (Ar.around n m)) ∧ w = w' := by
  have hz : (m == 0) = false := by simp; omega
  by_cases h : n < 0
  · have X := Lib.hid (show -((n + 1).tmod m) = Ar.around n m by unfold Ar.around; rw [if_pos h, ← Int.neg_tmod, Int.tmod_eq_emod_of_nonneg (by omega)])
    have e1 : 0 ≤ -(n + 1) := by omega
    go_enter Try.func7, Try.ntmps7
    go_wp2
    go_ret
    exact ⟨Ar.ret_i X.out, rfl⟩
  · have X := Lib.hid (show n % m = Ar.around n m by unfold Ar.around; rw [if_neg h])
    go_enter Try.func7, Try.ntmps7
    go_wp2
    go_ret
    exact ⟨Ar.ret_i X.out, rfl⟩
end Go.Proofs.Ytmlinoanpcbflaa

/- Rectangles of numbers as plain lists: rows one behind the other, parts, where one stands in another. No run of a program. No condition. -/
namespace Go.Proofs.Ytmlinoanpcbflaa
set_option linter.unusedVariables false
namespace Rc
open Go (splice)

def rowsOf (f : Nat → List Int) (n : Nat) : List Int := (List.range n).flatMap f
theorem rowsOf_zero (f : Nat → List Int) : rowsOf f 0 = [] := rfl
theorem rowsOf_succ (f : Nat → List Int) (n : Nat) : rowsOf f (n + 1) = rowsOf f n ++ f n := by simp [rowsOf, List.range_succ]
theorem rowsOf_congr {f g : Nat → List Int} : ∀ {n : Nat}, (∀ k, k < n → f k = g k) → rowsOf f n = rowsOf g n
  | 0, _ => rfl
  | n + 1, h => by rw [rowsOf_succ, rowsOf_succ, rowsOf_congr (fun k hk => h k (by omega)), h n (by omega)]
theorem rowsOf_length {f : Nat → List Int} {W : Nat} : ∀ {n : Nat}, (∀ k, k < n → (f k).length = W) → (rowsOf f n).length = n * W
  | 0, _ => by simp [rowsOf_zero]
  | n + 1, h => by rw [rowsOf_succ, List.length_append, rowsOf_length (fun k hk => h k (by omega)), h n (by omega), Nat.succ_mul]
theorem rowsOf_add (f : Nat → List Int) (a : Nat) : ∀ b, rowsOf f (a + b) = rowsOf f a ++ rowsOf (fun k => f (a + k)) b
  | 0 => by simp [rowsOf_zero]
  | b + 1 => by rw [← Nat.add_assoc, rowsOf_succ, rowsOf_add f a b, rowsOf_succ, List.append_assoc]
theorem rowsOf_split (f : Nat → List Int) {n y : Nat} (hy : y < n) : rowsOf f n = rowsOf f y ++ (f y ++ rowsOf (fun k => f (y + 1 + k)) (n - y - 1)) := by
  have e : n = (y + 1) + (n - y - 1) := by omega
  conv => lhs; rw [e]
  rw [rowsOf_add, rowsOf_succ, List.append_assoc]
theorem cut_rowsOf {f : Nat → List Int} {n y W x m : Nat} (hy : y < n) (hf : ∀ k, k < n → (f k).length = W) (hx : x + m ≤ W) :
    ((rowsOf f n).drop (y * W + x)).take m = ((f y).drop x).take m := by
  rw [rowsOf_split f hy]
  have e : (rowsOf f y).length = y * W := rowsOf_length (fun k hk => hf k (by omega))
  have ey := hf y hy
  rw [List.drop_append, List.drop_of_length_le (by rw [e]; omega), List.nil_append, e, Nat.add_sub_cancel_left, List.drop_append, List.take_append]
  rw [show m - ((f y).drop x).length = 0 by rw [List.length_drop]; omega]
  simp
theorem splice_rowsOf {f : Nat → List Int} {n y W x : Nat} {p : List Int} (hy : y < n) (hf : ∀ k, k < n → (f k).length = W) (hx : x + p.length ≤ W) :
    splice (rowsOf f n) (y * W + x) p = rowsOf (fun k => if k = y then splice (f y) x p else f k) n := by
  have e : (rowsOf f y).length = y * W := rowsOf_length (fun k hk => hf k (by omega))
  have ey := hf y hy
  rw [rowsOf_split f hy, rowsOf_split (fun k => if k = y then splice (f y) x p else f k) hy]
  rw [rowsOf_congr (f := fun k => if k = y then splice (f y) x p else f k) (g := f) (n := y) (fun k hk => by simp [Nat.ne_of_lt hk])]
  rw [rowsOf_congr (f := fun k => (fun k => if k = y then splice (f y) x p else f k) (y + 1 + k)) (g := fun k => f (y + 1 + k)) (fun k hk => by simp; intro h; omega)]
  simp only [if_true]
  generalize rowsOf f y = A at e ⊢
  generalize rowsOf (fun k => f (y + 1 + k)) (n - y - 1) = B
  unfold splice
  rw [List.take_append, List.take_of_length_le (by rw [e]; omega), e, Nat.add_sub_cancel_left, List.take_append]
  rw [show x - (f y).length = 0 by omega, List.take_zero, List.append_nil]
  rw [List.drop_append, List.drop_of_length_le (l := A) (by rw [e]; omega), List.nil_append, e, show y * W + x + p.length - y * W = x + p.length by omega, List.drop_append, show x + p.length - (f y).length = 0 by omega, List.drop_zero]
  simp [List.append_assoc]
theorem splice_whole {p q : List Int} (h : q.length = p.length) : splice q 0 p = p := by simp [splice, ← h]
/-- one row more is filled -/
theorem fill_row {f z : Nat → List Int} {n k m : Nat} (hk : k < n) (hf : ∀ j, j < n → (f j).length = m) (hz : ∀ j, j < n → (z j).length = m) :
    splice (rowsOf (fun j => if j < k then f j else z j) n) (k * m) (f k) = rowsOf (fun j => if j < k + 1 then f j else z j) n := by
  have h := splice_rowsOf (f := fun j => if j < k then f j else z j) (W := m) (x := 0) (p := f k) hk (fun j hj => by split; exact hf j hj; exact hz j hj) (by rw [hf k hk]; omega)
  rw [Nat.add_zero] at h
  rw [h]
  refine rowsOf_congr fun j hj => ?_
  by_cases e : j = k
  · subst e; simp; exact splice_whole (by rw [hf j hk, hz j hk])
  · by_cases e2 : j < k
    · simp [e, e2, Nat.lt_succ_of_lt e2]
    · have e3 : ¬ j < k + 1 := by omega
      simp [e, e2, e3]
theorem rows_self {W : Nat} : ∀ {n : Nat} {L : List Int}, L.length = n * W → L = rowsOf (fun k => (L.drop (k * W)).take W) n
  | 0, L, h => by rw [Nat.zero_mul] at h; rw [rowsOf_zero]; exact List.eq_nil_of_length_eq_zero h
  | n + 1, L, h => by
    rw [Nat.succ_mul] at h
    have ih := rows_self (W := W) (n := n) (L := L.take (n * W)) (by rw [List.length_take]; omega)
    rw [rowsOf_succ]
    have e1 : (L.drop (n * W)).take W = L.drop (n * W) := List.take_of_length_le (by rw [List.length_drop]; omega)
    rw [e1]
    have e2 : rowsOf (fun k => (L.drop (k * W)).take W) n = L.take (n * W) := by
      rw [ih]
      refine rowsOf_congr fun k hk => ?_
      show _ = List.take W (List.drop (k * W) (List.take (n * W) L))
      rw [List.drop_take, List.take_take]
      congr 1
      have : (k + 1) * W ≤ n * W := Nat.mul_le_mul_right W hk
      rw [Nat.succ_mul] at this
      omega
    rw [e2, List.take_append_drop]
theorem rowsOf_inj {f g : Nat → List Int} : ∀ {n : Nat}, (∀ k, k < n → (f k).length = (g k).length) → rowsOf f n = rowsOf g n → ∀ k, k < n → f k = g k
  | 0, _, _, k, hk => by omega
  | n + 1, hl, h, k, hk => by
    rw [rowsOf_succ, rowsOf_succ] at h
    have h2 := List.append_inj' h (hl n (by omega))
    rcases Nat.lt_or_ge k n with hk' | hk'
    · exact rowsOf_inj (fun k hk => hl k (by omega)) h2.1 k hk'
    · obtain rfl : k = n := by omega
      exact h2.2

/-! what a matrix is, by numbers -/
def sized (w h : Int) : Bool := decide (1 ≤ w) && (decide (w ≤ 4096) && (decide (1 ≤ h) && (decide (h ≤ 65536) && decide (w * h ≤ 16777216))))
def mayV (w h : Int) (n : Nat) : Bool := sized w h && decide ((n : Int) = w * h)
def insV (x n all : Int) : Bool := decide (0 ≤ x) && (decide (1 ≤ n) && (decide (n ≤ all) && decide (x ≤ all - n)))
theorem sized_iff {w h : Int} : sized w h = true ↔ 1 ≤ w ∧ w ≤ 4096 ∧ 1 ≤ h ∧ h ≤ 65536 ∧ w * h ≤ 16777216 := by simp [sized]
theorem mayV_iff {w h : Int} {n : Nat} : mayV w h n = true ↔ (1 ≤ w ∧ w ≤ 4096 ∧ 1 ≤ h ∧ h ≤ 65536 ∧ w * h ≤ 16777216) ∧ (n : Int) = w * h := by simp [mayV, sized_iff]
theorem insV_iff {x n all : Int} : insV x n all = true ↔ 0 ≤ x ∧ 1 ≤ n ∧ n ≤ all ∧ x ≤ all - n := by simp [insV]
def cutL (L : List Int) (W x y n : Int) : List Int := (L.drop (y.toNat * W.toNat + x.toNat)).take n.toNat
def subL (L : List Int) (W x y w h : Int) : List Int := rowsOf (fun k => cutL L W x (y + k) w) h.toNat
def subV (W H : Int) (L : List Int) (x y w h : Int) : Int × Int × List Int × Bool := if (insV x w W && insV y h H) = true then (w, h, subL L W x y w h, true) else (0, 0, [], false)
def atV (W H : Int) (L : List Int) (x y : Int) : Int × Bool := if (insV x 1 W && insV y 1 H) = true then (L.getD (y.toNat * W.toNat + x.toNat) 0, true) else (0, false)
def hasV (W H : Int) (L : List Int) (w h : Int) (M : List Int) (x y : Int) : Bool := (insV x w W && insV y h H) && decide (subL L W x y w h = M)
/-- what holds of a matrix that may be, by numbers -/
def Ok (W H : Int) (L : List Int) : Prop := 1 ≤ W ∧ W ≤ 4096 ∧ 1 ≤ H ∧ H ≤ 65536 ∧ W * H ≤ 16777216 ∧ L.length = H.toNat * W.toNat
theorem ok_may {W H : Int} {L : List Int} (h : Ok W H L) : mayV W H L.length = true := by
  obtain ⟨h1, h2, h3, h4, h5, h6⟩ := h
  rw [mayV_iff]
  refine ⟨⟨h1, h2, h3, h4, h5⟩, ?_⟩
  rw [h6, Int.natCast_mul, Int.toNat_of_nonneg (by omega), Int.toNat_of_nonneg (by omega), Int.mul_comm]
theorem may_ok {W H : Int} {L : List Int} (h : mayV W H L.length = true) : Ok W H L := by
  obtain ⟨⟨h1, h2, h3, h4, h5⟩, h6⟩ := mayV_iff.1 h
  refine ⟨h1, h2, h3, h4, h5, ?_⟩
  have : ((L.length : Nat) : Int) = ((H.toNat * W.toNat : Nat) : Int) := by
    rw [h6, Int.natCast_mul, Int.toNat_of_nonneg (by omega), Int.toNat_of_nonneg (by omega), Int.mul_comm]
  exact_mod_cast this
theorem cutL_length {L : List Int} {W H x y w : Int} (hL : L.length = H.toNat * W.toNat) (hx : insV x w W = true) (hy : insV y 1 H = true) : (cutL L W x y w).length = w.toNat := by
  obtain ⟨a1, a2, a3, a4⟩ := insV_iff.1 hx
  obtain ⟨b1, b2, b3, b4⟩ := insV_iff.1 hy
  rw [cutL, List.length_take, List.length_drop, hL]
  have : (y.toNat + 1) * W.toNat ≤ H.toNat * W.toNat := Nat.mul_le_mul_right _ (by omega)
  rw [Nat.succ_mul] at this
  omega
theorem insV_row {y h H : Int} (hy : insV y h H = true) {k : Nat} (hk : k < h.toNat) : insV (y + k) 1 H = true := by
  obtain ⟨b1, b2, b3, b4⟩ := insV_iff.1 hy
  rw [insV_iff]; omega
theorem subL_length {L : List Int} {W H x y w h : Int} (hL : L.length = H.toNat * W.toNat) (hx : insV x w W = true) (hy : insV y h H = true) : (subL L W x y w h).length = h.toNat * w.toNat :=
  rowsOf_length fun k hk => cutL_length hL hx (insV_row hy hk)
theorem sub_ok {L : List Int} {W H x y w h : Int} (ho : Ok W H L) (hx : insV x w W = true) (hy : insV y h H = true) : Ok w h (subL L W x y w h) := by
  obtain ⟨h1, h2, h3, h4, h5, h6⟩ := ho
  have hl := subL_length h6 hx hy
  obtain ⟨a1, a2, a3, a4⟩ := insV_iff.1 hx
  obtain ⟨b1, b2, b3, b4⟩ := insV_iff.1 hy
  refine ⟨a2, by omega, b2, by omega, ?_, hl⟩
  exact Int.le_trans (Int.mul_le_mul a3 b3 (by omega) (by omega)) h5

/-! one in another: row by row -/
def eqAt (L : List Int) (W w h : Int) (M : List Int) (x y : Int) : Bool := decide (∀ r, r < h.toNat → cutL L W x (y + r) w = cutL M w 0 r w)
theorem rows_cut {M : List Int} {w h : Int} (hM : M.length = h.toNat * w.toNat) : M = rowsOf (fun r => cutL M w 0 (r : Int) w) h.toNat := by
  conv => lhs; rw [rows_self hM]
  refine rowsOf_congr fun k hk => ?_
  simp [cutL]
theorem eqAt_eq {L M : List Int} {W H w h x y : Int} (hL : L.length = H.toNat * W.toNat) (hM : M.length = h.toNat * w.toNat) (hw : 1 ≤ w) (hx : insV x w W = true) (hy : insV y h H = true) :
    eqAt L W w h M x y = decide (subL L W x y w h = M) := by
  unfold eqAt
  congr 1
  refine propext ⟨fun e => ?_, fun e => ?_⟩
  · conv => rhs; rw [rows_cut hM]
    exact rowsOf_congr e
  · rw [rows_cut hM] at e
    refine rowsOf_inj (fun k hk => ?_) (by exact e)
    rw [cutL_length hL hx (insV_row hy hk), cutL_length (H := h) hM (by rw [insV_iff]; omega) (by rw [insV_iff]; omega)]
/-- all places -/
def findV (W H : Int) (L : List Int) (w h : Int) (M : List Int) : List (Int × Int) :=
  (List.range H.toNat).flatMap fun (y : Nat) => (List.range W.toNat).flatMap fun (x : Nat) => if hasV W H L w h M (x : Int) (y : Int) = true then [((x : Int), (y : Int))] else []
def searchV (L : List Int) (W w h : Int) (M : List Int) (fx fy : Int) (nx ny : Nat) : List (Int × Int) :=
  (List.range ny).flatMap fun (j : Nat) => (List.range nx).flatMap fun (i : Nat) => if eqAt L W w h M (fx + i) (fy + j) = true then [(fx + i, fy + j)] else []
theorem flatMap_range_more {α : Type} (f : Nat → List α) (a : Nat) (h : ∀ k, a ≤ k → f k = []) : ∀ b, (List.range (a + b)).flatMap f = (List.range a).flatMap f
  | 0 => rfl
  | b + 1 => by rw [← Nat.add_assoc, List.range_succ, List.flatMap_append, flatMap_range_more f a h b]; simp [h (a + b) (by omega)]
theorem flatMap_range_of_le {α : Type} (f : Nat → List α) {a n : Nat} (ha : a ≤ n) (h : ∀ k, a ≤ k → f k = []) : (List.range n).flatMap f = (List.range a).flatMap f := by
  have := flatMap_range_more f a h (n - a)
  rwa [show a + (n - a) = n by omega] at this
theorem flatMap_range_congr {α : Type} {f g : Nat → List α} {n : Nat} (h : ∀ k, k < n → f k = g k) : (List.range n).flatMap f = (List.range n).flatMap g := by
  rw [List.flatMap_def, List.flatMap_def]
  congr 1
  exact List.map_congr_left fun k hk => h k (List.mem_range.1 hk)
theorem find_eq {W H w h : Int} {L M : List Int} (hL : Ok W H L) (hM : Ok w h M) : findV W H L w h M = searchV L W w h M 0 0 (W - w + 1).toNat (H - h + 1).toNat := by
  obtain ⟨a1, a2, a3, a4, a5, a6⟩ := hL
  obtain ⟨b1, b2, b3, b4, b5, b6⟩ := hM
  unfold findV searchV
  have hno : ∀ x y : Nat, ¬ (insV (x : Int) w W = true ∧ insV (y : Int) h H = true) → hasV W H L w h M (x : Int) (y : Int) = false := by
    intro x y hn
    unfold hasV
    cases e1 : insV (x : Int) w W <;> cases e2 : insV (y : Int) h H <;> simp_all
  rw [flatMap_range_of_le _ (a := (H - h + 1).toNat) (by omega) (fun k hk => ?_)]
  · refine flatMap_range_congr fun j hj => ?_
    rw [flatMap_range_of_le _ (a := (W - w + 1).toNat) (by omega) (fun k hk => ?_)]
    · refine flatMap_range_congr fun i hi => ?_
      have hx : insV (i : Int) w W = true := by rw [insV_iff]; omega
      have hy : insV (j : Int) h H = true := by rw [insV_iff]; omega
      rw [Int.zero_add, Int.zero_add, eqAt_eq a6 b6 b1 hx hy]
      simp [hasV, hx, hy]
    · have : hasV W H L w h M (k : Int) (j : Int) = false := hno k j (fun ⟨h1, h2⟩ => by rw [insV_iff] at h1; omega)
      simp [this]
  · rw [flatMap_range_congr (g := fun _ => []) (fun i _ => ?_)]
    · simp
    · have : hasV W H L w h M (i : Int) (k : Int) = false := hno i k (fun ⟨h1, h2⟩ => by rw [insV_iff] at h2; omega)
      simp [this]
end Rc
end Go.Proofs.Ytmlinoanpcbflaa

/- The eight ways to lay a rectangle of numbers, as plain lists. No run of a program. No condition. -/
namespace Go.Proofs.Ytmlinoanpcbflaa
set_option linter.unusedVariables false
namespace Tu
/-- numbers by their places, row by row -/
def grid (w h : Nat) (f : Nat → Nat → Int) : List Int := (List.range (w * h)).map fun i => f (i % w) (i / w)
def atL (L : List Int) (w x y : Nat) : Int := L.getD (y * w + x) 0
theorem grid_len (w h : Nat) (f : Nat → Nat → Int) : (grid w h f).length = w * h := by simp [grid]
theorem pos_lt {w h x y : Nat} (hx : x < w) (hy : y < h) : y * w + x < w * h := by
  have : (y + 1) * w ≤ h * w := Nat.mul_le_mul_right w hy
  rw [Nat.succ_mul] at this
  rw [Nat.mul_comm w h]; omega
theorem at_grid {w h : Nat} {f : Nat → Nat → Int} {x y : Nat} (hx : x < w) (hy : y < h) : atL (grid w h f) w x y = f x y := by
  unfold atL grid
  have hp := pos_lt hx hy
  rw [List.getD_eq_getElem?_getD, List.getElem?_map, List.getElem?_range hp]
  show f ((y * w + x) % w) ((y * w + x) / w) = f x y
  have e1 : (y * w + x) % w = x := by rw [Nat.add_comm, Nat.add_mul_mod_self_right, Nat.mod_eq_of_lt hx]
  have e2 : (y * w + x) / w = y := by rw [Nat.add_comm, Nat.add_mul_div_right _ _ (by omega), Nat.div_eq_of_lt hx]; omega
  rw [e1, e2]
theorem grid_congr {w h : Nat} {f g : Nat → Nat → Int} (e : ∀ x y, x < w → y < h → f x y = g x y) : grid w h f = grid w h g := by
  unfold grid
  refine List.map_congr_left fun i hi => ?_
  have hi' := List.mem_range.1 hi
  have hw : 0 < w := by
    rcases Nat.eq_zero_or_pos w with h0 | h0
    · subst h0; omega
    · exact h0
  exact e _ _ (Nat.mod_lt _ hw) (Nat.div_lt_of_lt_mul hi')
theorem grid_self {w h : Nat} {L : List Int} (hL : L.length = w * h) : grid w h (atL L w) = L := by
  unfold grid atL
  refine List.ext_getElem (by simp [hL]) fun i h1 h2 => ?_
  simp only [List.getElem_map, List.getElem_range]
  rw [Nat.mul_comm (i / w) w, Nat.add_comm, Nat.mod_add_div, List.getD_eq_getElem?_getD, List.getElem?_eq_getElem h2]
  rfl
theorem grid_rows (w h : Nat) (f : Nat → Nat → Int) : grid w h f = Rc.rowsOf (fun y => (List.range w).map fun x => f x y) h := by
  induction h with
  | zero => simp [grid, Rc.rowsOf_zero]
  | succ h ih =>
    rw [Rc.rowsOf_succ, ← ih]
    unfold grid
    rw [Nat.mul_succ, List.range_add, List.map_append, List.map_map]
    congr 1
    refine List.map_congr_left fun i hi => ?_
    have hi' := List.mem_range.1 hi
    show f ((w * h + i) % w) ((w * h + i) / w) = f i h
    rw [Nat.mul_add_mod, Nat.mod_eq_of_lt hi', Nat.mul_add_div (by omega), Nat.div_eq_of_lt hi', Nat.add_zero]
theorem grid_inj {w h : Nat} {f g : Nat → Nat → Int} (e : grid w h f = grid w h g) {x y : Nat} (hx : x < w) (hy : y < h) : f x y = g x y := by
  rw [← at_grid (f := f) hx hy, e, at_grid hx hy]
/-! one turn -/
def sw (g w h : Nat) : Nat := if g % 2 = 1 then h else w
/-- where what stands at x, y then stood: of r quarters -/
def qx (r w h x y : Nat) : Nat := if r = 0 then x else if r = 1 then y else if r = 2 then w - 1 - x else w - 1 - y
def qy (r w h x y : Nat) : Nat := if r = 0 then y else if r = 1 then h - 1 - x else if r = 2 then h - 1 - y else x
def sx (g w h x y : Nat) : Nat := if g < 4 then qx (g % 4) w h x y else w - 1 - qx (g % 4) w h x y
def sy (g w h x y : Nat) : Nat := qy (g % 4) w h x y
def layL (g w h : Nat) (L : List Int) : List Int := grid (sw g w h) (sw g h w) fun x y => atL L w (sx g w h x y) (sy g w h x y)
def mirL (w h : Nat) (L : List Int) : List Int := grid w h fun x y => atL L w (w - 1 - x) y
def quaL (w h : Nat) (L : List Int) : List Int := grid h w fun x y => atL L w y (h - 1 - x)
theorem turn8 {g : Nat} (h : g < 8) : g = 0 ∨ g = 1 ∨ g = 2 ∨ g = 3 ∨ g = 4 ∨ g = 5 ∨ g = 6 ∨ g = 7 := by omega
theorem src_in {g w h x y : Nat} (hg : g < 8) (hx : x < sw g w h) (hy : y < sw g h w) : sx g w h x y < w ∧ sy g w h x y < h := by
  rcases turn8 hg with rfl | rfl | rfl | rfl | rfl | rfl | rfl | rfl <;> simp [sw, sx, sy, qx, qy] at * <;> omega
theorem layL_len (g w h : Nat) (L : List Int) : (layL g w h L).length = w * h := by
  rw [layL, grid_len]; unfold sw; split
  · exact Nat.mul_comm h w
  · rfl
theorem lay0 {w h : Nat} {L : List Int} (hL : L.length = w * h) : layL 0 w h L = L := by
  conv => rhs; rw [← grid_self hL]
  rfl
theorem lay1 (w h : Nat) (L : List Int) : layL 1 w h L = quaL w h L := rfl
theorem lay2 (w h : Nat) (L : List Int) : layL 2 w h L = quaL h w (quaL w h L) := by
  refine grid_congr fun x y hx hy => ?_
  simp only [sw] at hx hy
  simp only [sx, sy, qx, qy, quaL]
  rw [at_grid (by simp at hy; omega) (by simp at hx; omega)]
  simp
theorem lay3 (w h : Nat) (L : List Int) : layL 3 w h L = quaL w h (quaL h w (quaL w h L)) := by
  rw [← lay2 w h L]
  refine grid_congr fun x y hx hy => ?_
  simp [sw] at hx hy
  have e := at_grid (w := w) (h := h) (f := fun x y => atL L w (sx 2 w h x y) (sy 2 w h x y)) (x := y) (y := h - 1 - x) hy (by omega)
  show _ = atL (grid w h _) w y (h - 1 - x)
  rw [e]
  simp [sx, sy, qx, qy]
  congr 1; omega
theorem layM {r w h : Nat} (hr : r < 4) (L : List Int) : layL (4 + r) w h L = layL r w h (mirL w h L) := by
  have h4 : r = 0 ∨ r = 1 ∨ r = 2 ∨ r = 3 := by omega
  have e1 : sw (4 + r) w h = sw r w h := by rcases h4 with rfl | rfl | rfl | rfl <;> rfl
  have e2 : sw (4 + r) h w = sw r h w := by rcases h4 with rfl | rfl | rfl | rfl <;> rfl
  unfold layL
  rw [e1, e2]
  refine grid_congr fun x y hx hy => ?_
  have hs := src_in (by omega : r < 8) hx hy
  rw [mirL, at_grid hs.1 hs.2]
  rcases h4 with rfl | rfl | rfl | rfl <;> rfl
/-! two turns in one -/
def thenN (g h : Nat) : Nat :=
  let r := ((if 4 ≤ h then 4 - g % 4 else g % 4) + h % 4) % 4
  if (4 ≤ g) = (4 ≤ h) then r else 4 + r
theorem sw_sw {p q w h : Nat} (hp : p < 8) (hq : q < 8) : sw q (sw p w h) (sw p h w) = sw (thenN p q) w h := by
  rcases turn8 hp with rfl | rfl | rfl | rfl | rfl | rfl | rfl | rfl <;> rcases turn8 hq with rfl | rfl | rfl | rfl | rfl | rfl | rfl | rfl <;> rfl
theorem thenN_lt {p q : Nat} (hp : p < 8) (hq : q < 8) : thenN p q < 8 := by
  rcases turn8 hp with rfl | rfl | rfl | rfl | rfl | rfl | rfl | rfl <;> rcases turn8 hq with rfl | rfl | rfl | rfl | rfl | rfl | rfl | rfl <;> decide
theorem lay_lay {p q w h : Nat} (hp : p < 8) (hq : q < 8) (L : List Int) : layL q (sw p w h) (sw p h w) (layL p w h L) = layL (thenN p q) w h L := by
  unfold layL
  rw [sw_sw hp hq, sw_sw hp hq]
  refine grid_congr fun x y hx hy => ?_
  have hx' := hx; have hy' := hy
  rw [← sw_sw hp hq] at hx' hy'
  have hs := src_in hq hx' hy'
  rw [at_grid hs.1 hs.2]
  have hs2 := src_in hp hs.1 hs.2
  congr 1
  all_goals
    clear hs2
    rcases turn8 hp with rfl | rfl | rfl | rfl | rfl | rfl | rfl | rfl <;> rcases turn8 hq with rfl | rfl | rfl | rfl | rfl | rfl | rfl | rfl <;>
      simp [sw, sx, sy, qx, qy, thenN] at hx' hy' ⊢ <;> omega
end Tu
end Go.Proofs.Ytmlinoanpcbflaa

/- Plain facts on pixels as numbers: which numbers are pixels, which samples they have, and what is made of them. No condition. -/
namespace Go.Proofs.Ytmlinoanpcbflaa
open Go.RowKit
namespace Pq
namespace Px

def hiP (p : Int) : Int := p / 281474976710656
def loP (p : Int) : Int := p % 281474976710656
/-- a pixel's samples -/
def smp (p : Int) : List Int :=
  if hiP p = 3 then [loP p / 4294967296, loP p / 65536 % 65536, loP p % 65536]
  else if hiP p = 1 ∧ loP p < 65536 then [loP p] else []
def Is3 (p a b c : Int) : Prop := p = 844424930131968 + a * 4294967296 + b * 65536 + c ∧ 0 ≤ a ∧ a ≤ 65535 ∧ 0 ≤ b ∧ b ≤ 65535 ∧ 0 ≤ c ∧ c ≤ 65535
def Is1 (p a : Int) : Prop := p = 281474976710656 + a ∧ 0 ≤ a ∧ a ≤ 65535
def Is0 (p : Int) : Prop := ¬ hiP p = 3 ∧ ¬ (hiP p = 1 ∧ loP p < 65536)
/-- a number fits a pixel's kind -/
def U (p : Int) : Prop := 0 ≤ p ∧ p ≤ 18446744073709551615
def I (n : Int) : Prop := -9223372036854775808 ≤ n ∧ n ≤ 9223372036854775807

theorem tri {p : Int} (h : U p) : (∃ a b c, Is3 p a b c) ∨ (∃ a, Is1 p a) ∨ Is0 p := by
  obtain ⟨h0, h1⟩ := h
  by_cases h3 : hiP p = 3
  · refine .inl ⟨loP p / 4294967296, loP p / 65536 % 65536, loP p % 65536, ?_⟩
    unfold hiP at h3; unfold Is3 loP; omega
  · by_cases h2 : hiP p = 1 ∧ loP p < 65536
    · refine .inr (.inl ⟨loP p, ?_⟩)
      unfold hiP loP at h2; unfold Is1 loP; omega
    · exact .inr (.inr ⟨h3, h2⟩)
theorem smp3 {p a b c : Int} (h : Is3 p a b c) : smp p = [a, b, c] := by
  obtain ⟨h0, h⟩ := h
  have e : hiP p = 3 := by unfold hiP; omega
  have e1 : loP p / 4294967296 = a := by unfold loP; omega
  have e2 : loP p / 65536 % 65536 = b := by unfold loP; omega
  have e3 : loP p % 65536 = c := by unfold loP; omega
  unfold smp; rw [if_pos e, e1, e2, e3]
theorem smp1 {p a : Int} (h : Is1 p a) : smp p = [a] := by
  obtain ⟨h0, h⟩ := h
  have e : ¬ hiP p = 3 := by unfold hiP; omega
  have e1 : loP p = a := by unfold loP; omega
  have e2 : hiP p = 1 ∧ loP p < 65536 := by unfold hiP loP; omega
  unfold smp; rw [if_neg e, if_pos e2, e1]
theorem smp0 {p : Int} (h : Is0 p) : smp p = [] := by
  unfold smp; rw [if_neg h.1, if_neg h.2]

theorem and16 (x : Int) (h0 : 0 ≤ x) (h1 : x ≤ 18446744073709551615) : bits .and .u64 x 65535 = x % 65536 := by
  rw [u64_and x 65535 h0 (by omega) (by omega) (by omega)]
  have e : (65535 : Int).toNat = 2 ^ 16 - 1 := by decide
  rw [e, Nat.and_two_pow_sub_one_eq_mod]
  omega
theorem or16 (x s : Int) (h0 : 0 ≤ x) (h1 : x < 281474976710656) (h2 : 0 ≤ s) (h3 : s < 65536) : bits .or .u64 (x * 65536) s = x * 65536 + s := by
  rw [u64_or (x * 65536) s (by omega) (by omega) h2 (by omega)]
  obtain ⟨X, rfl⟩ := Int.eq_ofNat_of_zero_le h0
  obtain ⟨S, rfl⟩ := Int.eq_ofNat_of_zero_le h2
  have e1 : ((X : Int) * 65536).toNat = 2 ^ 16 * X := by omega
  rw [e1, Int.toNat_natCast, ← Nat.two_pow_add_eq_or_of_lt (by omega : S < 2 ^ 16)]
  omega
theorem or48 (n s : Int) (h0 : 0 ≤ n) (h1 : n < 65536) (h2 : 0 ≤ s) (h3 : s < 281474976710656) : bits .or .u64 (n * 281474976710656) s = n * 281474976710656 + s := by
  rw [u64_or (n * 281474976710656) s (by omega) (by omega) h2 (by omega)]
  obtain ⟨X, rfl⟩ := Int.eq_ofNat_of_zero_le h0
  obtain ⟨S, rfl⟩ := Int.eq_ofNat_of_zero_le h2
  have e1 : ((X : Int) * 281474976710656).toNat = 2 ^ 48 * X := by omega
  rw [e1, Int.toNat_natCast, ← Nat.two_pow_add_eq_or_of_lt (by omega : S < 2 ^ 48)]
  omega
theorem or0 (s : Int) (h2 : 0 ≤ s) (h3 : s < 65536) : bits .or .u64 0 s = s := by
  have := or16 0 s (by omega) (by omega) h2 h3; simpa using this

theorem u64w (n : Int) (h0 : 0 ≤ n) (h1 : n ≤ 18446744073709551615) : IntKind.u64.wrap n = n := IntWalk.u64_in n ⟨h0, h1⟩
theorem join3v (a b c : Int) (ha0 : 0 ≤ a) (ha1 : a ≤ 65535) (hb0 : 0 ≤ b) (hb1 : b ≤ 65535) (hc0 : 0 ≤ c) (hc1 : c ≤ 65535) :
    bits .or .u64 844424930131968 (bits .or .u64 (IntKind.u64.wrap (bits .or .u64 (IntKind.u64.wrap (bits .or .u64 0 a * 65536)) b * 65536)) c) = 844424930131968 + a * 4294967296 + b * 65536 + c := by
  have e1 := or0 a ha0 (by omega)
  have e2 := u64w (a * 65536) (by omega) (by omega)
  have e3 := or16 a b ha0 (by omega) hb0 (by omega)
  have e4 := u64w ((a * 65536 + b) * 65536) (by omega) (by omega)
  have e5 := or16 (a * 65536 + b) c (by omega) (by omega) hc0 (by omega)
  have e6 := or48 3 ((a * 65536 + b) * 65536 + c) (by omega) (by omega) (by omega) (by omega)
  have e7 : (3 : Int) * 281474976710656 = 844424930131968 := rfl
  rw [e1, e2, e3, e4, e5, ← e7, e6]; omega
theorem join1v (a : Int) (ha0 : 0 ≤ a) (ha1 : a ≤ 65535) : bits .or .u64 281474976710656 (bits .or .u64 0 a) = 281474976710656 + a := by
  have e1 := or0 a ha0 (by omega)
  have e6 := or48 1 a (by omega) (by omega) (by omega) (by omega)
  have e7 : (1 : Int) * 281474976710656 = 281474976710656 := rfl
  rw [e1, ← e7, e6]

/-- what the document makes of samples -/
def okS (s : Int) : Bool := decide (0 ≤ s) && decide (s ≤ 65535)
def packV : List Int → Int × Int
  | [a] => if okS a then (281474976710656 + a, 0) else (0, 4)
  | [a, b, c] => if okS a && okS b && okS c then (844424930131968 + a * 4294967296 + b * 65536 + c, 0) else (0, 4)
  | _ => (0, 1)
theorem packV3_bad {x y z : Int} (h : x < 0 ∨ 65535 < x ∨ y < 0 ∨ 65535 < y ∨ z < 0 ∨ 65535 < z) : packV [x, y, z] = (0, 4) := by
  show (if (okS x && okS y && okS z) = true then _ else _) = _
  rw [if_neg]; simp [okS]; omega
theorem packV3 {x y z : Int} (hx0 : 0 ≤ x) (hx1 : x ≤ 65535) (hy0 : 0 ≤ y) (hy1 : y ≤ 65535) (hz0 : 0 ≤ z) (hz1 : z ≤ 65535) : packV [x, y, z] = (844424930131968 + x * 4294967296 + y * 65536 + z, 0) := by
  simp [packV, okS, hx0, hx1, hy0, hy1, hz0, hz1]
theorem packV3_badS {x y z : Int} (h : okS x = false ∨ okS y = false ∨ okS z = false) : packV [x, y, z] = (0, 4) := by
  show (if (okS x && okS y && okS z) = true then _ else _) = _
  rw [if_neg]; rcases h with h | h | h <;> simp [h]
theorem packV1_badS {x : Int} (h : okS x = false) : packV [x] = (0, 4) := by
  show (if okS x = true then _ else _) = _
  rw [if_neg]; simp [h]
theorem okS_of {x : Int} (h : okS x = true) : 0 ≤ x ∧ x ≤ 65535 := by simpa [okS] using h
theorem packV1_bad {x : Int} (h : x < 0 ∨ 65535 < x) : packV [x] = (0, 4) := by
  show (if okS x = true then _ else _) = _
  rw [if_neg]; simp [okS]; omega
theorem packV1 {x : Int} (hx0 : 0 ≤ x) (hx1 : x ≤ 65535) : packV [x] = (281474976710656 + x, 0) := by
  simp [packV, okS, hx0, hx1]
theorem packV_len {zs : List Int} (h1 : ¬ zs.length = 1) (h3 : ¬ zs.length = 3) : packV zs = (0, 1) := by
  match zs with
  | [] => rfl
  | [_] => simp at h1
  | [_, _] => rfl
  | [_, _, _] => simp at h3
  | _ :: _ :: _ :: _ :: _ => rfl
def mayV (p : Int) : Bool := !(smp p).isEmpty
def formatV (c m : Int) : Bool := (c == 1 || c == 3) && (decide (1 ≤ m) && decide (m ≤ 65535))
def fitsV (p c m : Int) : Bool := formatV c m && ((smp p).length == c.toNat && (smp p).all fun s => decide (s ≤ m))
def grayV (p : Int) : Int × Int := match smp p with
  | [_] => (p, 0)
  | [a, b, c] => (281474976710656 + (299 * a + 587 * b + 114 * c + 500) / 1000, 0)
  | _ => (0, 1)
def turnedV (p c m : Int) : Int × Int := if fitsV p c m then packV ((smp p).map fun s => m - s) else (0, 1)
def okM (m : Int) : Bool := decide (1 ≤ m) && decide (m ≤ 65535)
def scaledV (p a b : Int) : Int × Int :=
  if okM a && okM b && (!(smp p).isEmpty && (smp p).all fun s => decide (s ≤ a)) then packV ((smp p).map fun s => (s * b + a / 2) / a) else (0, 1)
def aroundV (n most : Int) : Int := (if n < 0 then -(n + 1) else n) % most
def formC (c : Int) : Int := if c % 2 = 0 then 1 else 3
def formM (m : Int) : Int := 1 + aroundV m 65535
def goodL (zs : List Int) (m : Int) : Nat → List Int
  | 0 => []
  | k + 1 => (match zs with | [] => 0 | z :: _ => aroundV z (m + 1)) :: goodL zs.tail m k
def goodV (zs : List Int) (c m : Int) : Int := (packV (goodL zs m c.toNat)).1

theorem fitsV3 {p a b d : Int} (h : Is3 p a b d) (m : Int) : fitsV p 3 m = (formatV 3 m && decide (max (max a b) d ≤ m)) := by
  unfold fitsV; rw [smp3 h]
  by_cases h1 : a ≤ m <;> by_cases h2 : b ≤ m <;> by_cases h3 : d ≤ m <;> simp [h1, h2, h3] <;> omega
theorem fitsV1 {p a : Int} (h : Is1 p a) (m : Int) : fitsV p 1 m = (formatV 1 m && decide (a ≤ m)) := by
  unfold fitsV; rw [smp1 h]
  by_cases h1 : a ≤ m <;> simp [h1]
theorem fitsV_bad {p c m : Int} (h : formatV c m = false) : fitsV p c m = false := by unfold fitsV; rw [h]; rfl
theorem formatC {c m : Int} (h : formatV c m = true) : c = 1 ∨ c = 3 := by
  simp [formatV] at h; exact h.1
theorem formatM {c m : Int} (h : formatV c m = true) : 1 ≤ m ∧ m ≤ 65535 := by
  simp [formatV] at h; exact h.2
theorem fitsV_len {p c m : Int} (h : ((smp p).length : Int) ≠ c) : fitsV p c m = false := by
  cases hf : formatV c m
  · exact fitsV_bad hf
  · unfold fitsV
    have := formatC hf
    rw [show ((smp p).length == c.toNat) = false by rw [beq_eq_false_iff_ne]; omega]; simp
theorem around_lt (n most : Int) (h : 0 < most) : 0 ≤ aroundV n most ∧ aroundV n most < most := by
  unfold aroundV; exact ⟨Int.emod_nonneg _ (by omega), Int.emod_lt_of_pos _ h⟩
end Px
end Pq
end Go.Proofs.Ytmlinoanpcbflaa

/- More plain facts on pixels as numbers: formats, gray, dark for light, another greatest sample. No condition. -/
namespace Go.Proofs.Ytmlinoanpcbflaa
open Go.RowKit
namespace Pq
namespace Px
theorem fitsV_iff {p c m : Int} : fitsV p c m = (formatV c m && (((smp p).length : Int) == c && (smp p).all fun s => decide (s ≤ m))) := by
  cases hf : formatV c m
  · exact fitsV_bad hf
  · have hc := formatC hf
    unfold fitsV
    rw [hf, show ((smp p).length == c.toNat) = (((smp p).length : Int) == c) by rw [Bool.eq_iff_iff, beq_iff_eq, beq_iff_eq]; omega]
theorem fitsV3_all {p a b d c m : Int} (h : Is3 p a b d) (ha : a ≤ m) (hb : b ≤ m) (hd : d ≤ m) : fitsV p c m = (formatV c m && ((3 : Int) == c)) := by
  rw [fitsV_iff, smp3 h]; simp [ha, hb, hd]
theorem fitsV3_bad {p a b d c m : Int} (h : Is3 p a b d) (hx : m < a ∨ m < b ∨ m < d) : fitsV p c m = false := by
  rw [fitsV_iff, smp3 h]; simp; intros; omega
theorem fitsV1_all {p a c m : Int} (h : Is1 p a) (ha : a ≤ m) : fitsV p c m = (formatV c m && ((1 : Int) == c)) := by
  rw [fitsV_iff, smp1 h]; simp [ha]
theorem fitsV1_bad {p a c m : Int} (h : Is1 p a) (hx : m < a) : fitsV p c m = false := by
  rw [fitsV_iff, smp1 h]; simp; intros; omega
theorem fitsV0 {p c m : Int} (h : Is0 p) : fitsV p c m = false := by
  cases hf : formatV c m
  · exact fitsV_bad hf
  · have := formatC hf
    exact fitsV_len (by rw [smp0 h]; simp; omega)
theorem fits3_get {p a b d c m : Int} (h : Is3 p a b d) (hf : fitsV p c m = true) : c = 3 ∧ a ≤ m ∧ b ≤ m ∧ d ≤ m ∧ 1 ≤ m ∧ m ≤ 65535 := by
  rw [fitsV_iff, smp3 h] at hf
  simp at hf
  have := formatM hf.1
  omega
theorem fits1_get {p a c m : Int} (h : Is1 p a) (hf : fitsV p c m = true) : c = 1 ∧ a ≤ m ∧ 1 ≤ m ∧ m ≤ 65535 := by
  rw [fitsV_iff, smp1 h] at hf
  simp at hf
  have := formatM hf.1
  omega
theorem turned3 {p a b d c m : Int} (h : Is3 p a b d) (hf : fitsV p c m = true) : turnedV p c m = (844424930131968 + (m - a) * 4294967296 + (m - b) * 65536 + (m - d), 0) := by
  obtain ⟨h1, h2, h3, h4, h5, h6⟩ := fits3_get h hf
  unfold turnedV; rw [if_pos hf, smp3 h]
  obtain ⟨_, h⟩ := h
  show packV [m - a, m - b, m - d] = _
  exact packV3 (by omega) (by omega) (by omega) (by omega) (by omega) (by omega)
theorem turned1 {p a c m : Int} (h : Is1 p a) (hf : fitsV p c m = true) : turnedV p c m = (281474976710656 + (m - a), 0) := by
  obtain ⟨h1, h2, h5, h6⟩ := fits1_get h hf
  unfold turnedV; rw [if_pos hf, smp1 h]
  obtain ⟨_, h⟩ := h
  show packV [m - a] = _
  exact packV1 (by omega) (by omega)
theorem turned_no {p c m : Int} (hf : fitsV p c m = false) : turnedV p c m = (0, 1) := by unfold turnedV; rw [hf]; rfl
theorem fits0_no {p c m : Int} (h : Is0 p) (hf : fitsV p c m = true) : False := by rw [fitsV0 h] at hf; cases hf
end Px
end Pq
end Go.Proofs.Ytmlinoanpcbflaa

/- Plain facts on numbers as texts and as bytes: digits, decimals, bytes of a number. No condition. -/
namespace Go.Proofs.Ytmlinoanpcbflaa
open Go.RowKit
set_option linter.unusedVariables false
namespace Nu

def I (n : Int) : Prop := -9223372036854775808 ≤ n ∧ n ≤ 9223372036854775807
/-- a number's digits to a base, the lowest first -/
def dig (b n : Int) : List Int :=
  if h : 2 ≤ b ∧ b ≤ n then n % b :: dig b (n / b) else [n % b]
termination_by n.toNat
decreasing_by
  have h1 : 0 ≤ n / b := Int.ediv_nonneg (by omega) (by omega)
  have h2 : n / b < n := Int.ediv_lt_self_of_pos_of_ne_one (by omega) (by omega)
  omega
theorem dig_more {b n : Int} (h2 : 2 ≤ b) (h : b ≤ n) : dig b n = n % b :: dig b (n / b) := by rw [dig, dif_pos ⟨h2, h⟩]
theorem dig_last {b n : Int} (h : n < b) : dig b n = [n % b] := by rw [dig, dif_neg (by omega)]
theorem dig_ne (b n : Int) : dig b n ≠ [] := by rw [dig]; split <;> simp
theorem dig_lt {b : Int} (hb : 0 < b) (n : Int) : ∀ x ∈ dig b n, 0 ≤ x ∧ x < b := by
  induction n using dig.induct (b := b) with
  | case1 n h ih =>
    rw [dig_more h.1 h.2]
    intro x hx
    rcases List.mem_cons.1 hx with rfl | hx
    · exact ⟨Int.emod_nonneg _ (by omega), Int.emod_lt_of_pos _ hb⟩
    · exact ih x hx
  | case2 n h =>
    rw [dig, dif_neg h]
    intro x hx
    obtain rfl : x = n % b := by simpa using hx
    exact ⟨Int.emod_nonneg _ (by omega), Int.emod_lt_of_pos _ hb⟩
/-- no more than 64 digits -/
theorem dig_len {b : Int} (h2 : 2 ≤ b) : ∀ (k : Nat) (n : Int), n < 2 ^ k → (dig b n).length ≤ k + 1 := by
  intro k
  induction k with
  | zero => intro n h; rw [dig_last (by simp at h; omega)]; simp
  | succ k ih =>
    intro n h
    by_cases hb : b ≤ n
    · rw [dig_more h2 hb]
      have : n / b < 2 ^ k := by
        have e : (2 : Int) ^ (k + 1) = 2 ^ k * 2 := by rw [Int.pow_succ]
        rw [e] at h
        refine Int.ediv_lt_of_lt_mul (by omega) (Int.lt_of_lt_of_le h ?_)
        exact Int.mul_le_mul_of_nonneg_left h2 (Int.pow_nonneg (by omega))
      have := ih _ this
      simp; omega
    · rw [dig_last (by omega)]; simp
theorem dig_len64 {b n : Int} (h2 : 2 ≤ b) (h : n ≤ 18446744073709551615) : (dig b n).length ≤ 65 := by
  have e : (2 : Int) ^ 64 = 18446744073709551616 := by decide
  exact dig_len h2 64 n (by rw [e]; omega)
end Nu
end Go.Proofs.Ytmlinoanpcbflaa

/- Steps of a number, sums and products, over any memory, of num and of the document's own answer. Condition: numbers fit their kinds. -/
namespace Go.Proofs.Ytmlinoanpcbflaa
open Go.RowKit
set_option linter.unusedVariables false

def Nu.limit (n : Int) : Int := Ar.around n 4611686018427387904
theorem Nu.limit_lt (n : Int) : 0 ≤ Nu.limit n ∧ Nu.limit n ≤ 4611686018427387903 := by have := Ar.around_lt n 4611686018427387904 (by omega); unfold Nu.limit; omega
def Nu.stepV (n c most : Int) : Int × Int :=
  if c < 48 ∨ 57 < c then (0, 3) else if most / 10 < n ∨ (n = most / 10 ∧ most % 10 < c - 48) then (0, 4) else (10 * n + (c - 48), 0)
theorem ret_step {a b : Int} {t : Int × Int} (h : t = (a, b)) : Ending.returned (.tuple #[.int .i64 a, .int .i64 b]) = .returned (.tuple #[.int .i64 t.1, .int .i64 t.2]) := by rw [h]
def StepR (n c most : Int) (w : World) (e : Ending) (w' : World) : Prop := e = .returned (.tuple #[.int .i64 (Nu.stepV n c most).1, .int .i64 (Nu.stepV n c most).2]) ∧ w = w'

end Go.Proofs.Ytmlinoanpcbflaa

/- The bytes of a text, a step of a number told as two numbers. Condition: numbers fit their kinds. -/
namespace Go.Proofs.Ytmlinoanpcbflaa
open Go.RowKit
set_option linter.unusedVariables false

/-- the bytes of a text, as numbers -/
def bytesOf (s : ByteArray) : List Int := s.data.toList.map fun c => (c.toNat : Int)
theorem bytesOf_length (s : ByteArray) : (bytesOf s).length = s.size := by simp [bytesOf]
theorem bytesOf_drop (s : ByteArray) (k : Nat) (h : k < s.size) : (bytesOf s).drop k = (s[k].toNat : Int) :: (bytesOf s).drop (k + 1) := by
  rw [List.drop_eq_getElem_cons (by rw [bytesOf_length]; exact h)]
  simp [bytesOf, ByteArray.getElem_eq_getElem_data]
theorem Nu.stepV_le (n c most : Int) (n0 : 0 ≤ n) (n1 : n ≤ most) (h : (Nu.stepV n c most).2 = 0) : 0 ≤ (Nu.stepV n c most).1 ∧ (Nu.stepV n c most).1 ≤ most := by
  unfold Nu.stepV at *
  split at h
  · simp at h
  · split at h
    · simp at h
    · rename_i h1 h2
      rw [if_neg h1, if_neg h2]
      simp only []
      omega
theorem isEmpty_of {s : ByteArray} (h : s.size = 0) : s.toList.isEmpty = true := by
  rw [ByteArray.toList_eq, List.isEmpty_iff]; exact List.eq_nil_of_length_eq_zero (by simpa using h)
theorem not_empty_of {s : ByteArray} (h : s.size ≠ 0) : s.toList.isEmpty = false := by
  rw [ByteArray.toList_eq, List.isEmpty_eq_false_iff]; intro e; exact h (by have := congrArg List.length e; simpa using this)
def Nu.parseF (most : Int) : Int → List Int → Int × Int
  | n, [] => (n, 0)
  | n, c :: cs => if (Nu.stepV n c most).2 = 0 then Nu.parseF most (Nu.stepV n c most).1 cs else (0, (Nu.stepV n c most).2)
def Nu.parseV (l : List Int) (most : Int) : Int × Int := if l = [] then (0, 3) else Nu.parseF most 0 l
end Go.Proofs.Ytmlinoanpcbflaa

/- Plain facts on words of a header: a reader of a number as a plain function, all numbers of a text, what is left out. No condition. -/
namespace Go.Proofs.Ytmlinoanpcbflaa
open Go.RowKit
set_option linter.unusedVariables false
namespace Tk
def blank (c : Int) : Bool := decide (c = 32 ∨ (9 ≤ c ∧ c ≤ 13))
def line (c : Int) : Bool := decide (c = 10 ∨ c = 13)
/-- a reader: how far it is (0 ahead, 1 a remark ahead, 2 digits, 3 a remark behind, 4 over, 5 wrong), the number, the error, whether it took a digit -/
structure S where
  k : Nat
  n : Int
  e : Int
  bg : Bool
def new : S := ⟨0, 0, 9, false⟩
def put (m : Int) (s : S) (c : Int) : S :=
  if s.k = 4 ∨ s.k = 5 then s
  else if s.k = 1 then (if line c = true then ⟨0, s.n, s.e, s.bg⟩ else s)
  else if s.k = 3 then (if line c = true then ⟨4, s.n, 0, s.bg⟩ else s)
  else if c = 35 then ⟨s.k + 1, s.n, s.e, s.bg⟩
  else if blank c = true then (if s.k = 0 then s else ⟨4, s.n, 0, s.bg⟩)
  else if (Nu.stepV s.n c m).2 = 0 then ⟨2, (Nu.stepV s.n c m).1, s.e, true⟩
  else ⟨5, 0, (Nu.stepV s.n c m).2, s.bg⟩
def st (s : S) : Int := if s.k = 4 then 1 else if s.k = 5 then 2 else 0
def val (s : S) : Int × Int := if s.e = 0 then (s.n, 0) else (0, s.e)
def Good (m : Int) (s : S) : Prop :=
  s.k ≤ 5 ∧ 0 ≤ s.n ∧ s.n ≤ m ∧ (s.k ≤ 3 → s.e = 9) ∧ (s.k = 4 → s.e = 0) ∧ (s.k = 5 → (s.e = 3 ∨ s.e = 4)) ∧ (s.k ≤ 1 → s.n = 0 ∧ s.bg = false) ∧ (2 ≤ s.k → s.k ≤ 4 → s.bg = true)
theorem stepV_e (n c m : Int) : (Nu.stepV n c m).2 = 0 ∨ (Nu.stepV n c m).2 = 3 ∨ (Nu.stepV n c m).2 = 4 := by
  unfold Nu.stepV; split
  · exact .inr (.inl rfl)
  · split
    · exact .inr (.inr rfl)
    · exact .inl rfl
theorem good_new {m : Int} (h : 0 ≤ m) : Good m new := by unfold Good new; simp; exact h
theorem good_put {m : Int} {s : S} (h : Good m s) (c : Int) : Good m (put m s c) := by
  have H := h
  obtain ⟨h1, h2, h3, h4, h5, h6, h7, h8⟩ := h
  obtain ⟨k, n, e, bg⟩ := s
  simp only at h1 h2 h3 h4 h5 h6 h7 h8
  unfold put; simp only
  split
  · exact H
  rename_i hk
  split
  · rename_i hk1; subst hk1
    split
    · exact ⟨by simp, h2, h3, fun _ => h4 (by omega), fun h => absurd h (by simp), fun h => absurd h (by simp), fun _ => h7 (by omega), fun h => absurd h (by simp)⟩
    · exact H
  split
  · rename_i hk1 hk3; subst hk3
    split
    · exact ⟨by simp, h2, h3, fun h => absurd h (by simp), fun _ => rfl, fun h => absurd h (by simp), fun h => absurd h (by simp), fun _ _ => h8 (by omega) (by omega)⟩
    · exact H
  rename_i hk1 hk3
  split
  · refine ⟨by simp; omega, h2, h3, fun _ => h4 (by omega), fun h => absurd h (by simp; omega), fun h => absurd h (by simp; omega), fun hh => h7 (by simp at hh; omega), fun hh _ => h8 (by simp at hh; omega) (by omega)⟩
  split
  · split
    · exact H
    · exact ⟨by simp, h2, h3, fun h => absurd h (by simp), fun _ => rfl, fun h => absurd h (by simp), fun h => absurd h (by simp), fun _ _ => h8 (by omega) (by omega)⟩
  split
  · rename_i he
    obtain ⟨g1, g2⟩ := Nu.stepV_le n c m h2 h3 he
    exact ⟨by simp, g1, g2, fun _ => h4 (by omega), fun h => absurd h (by simp), fun h => absurd h (by simp), fun h => absurd h (by simp), fun _ _ => rfl⟩
  · rename_i he
    exact ⟨by simp, by simp, by simp; omega, fun h => absurd h (by simp), fun h => absurd h (by simp), fun _ => (stepV_e n c m).resolve_left he, fun h => absurd h (by simp), fun _ h => absurd h (by simp)⟩
/-- all numbers of a text -/
def allF (m : Int) : S → Nat → Int → List Int → List Int → List Int × Int × Int
  | s, i, u, acc, [] => (acc, u, if s.bg = true then 6 else 0)
  | s, i, u, acc, c :: cs =>
    if (put m s c).k = 5 then (acc, u, (put m s c).e)
    else if (put m s c).k = 4 then allF m new (i + 1) ((i : Int) + 1) (acc ++ [(put m s c).n]) cs
    else allF m (put m s c) (i + 1) u acc cs
def allV (l : List Int) (m : Int) : List Int × Int × Int := allF m new 0 0 [] l
/-- how many bytes are left out -/
def skipF : Bool → Nat → List Int → Int
  | _, i, [] => i
  | true, i, c :: cs => skipF (!line c) (i + 1) cs
  | false, i, c :: cs => if c = 35 then skipF true (i + 1) cs else if blank c = true then skipF false (i + 1) cs else i
def skipV (l : List Int) : Int := skipF false 0 l
end Tk
end Go.Proofs.Ytmlinoanpcbflaa

/- Plain facts on what an image begins with: a reader of a head as a plain function, the head that a text begins with. No condition. -/
namespace Go.Proofs.Ytmlinoanpcbflaa
open Go.RowKit
set_option linter.unusedVariables false
namespace Hd
/-- brought to where it may be: from 1 to hi -/
def lim (n hi : Int) : Int := if n < 1 then 1 else if hi < n then hi else n
theorem lim_at {n hi : Int} (h : 1 ≤ hi) : 1 ≤ lim n hi ∧ lim n hi ≤ hi := by
  unfold lim; split
  · omega
  · split <;> omega
/-- the greatest numbers -/
structure L where
  m0 : Int
  m1 : Int
  m2 : Int
def L.at (l : L) (i : Nat) : Int := if i = 0 then l.m0 else if i = 1 then l.m1 else l.m2
def L.Ok (l : L) : Prop := (1 ≤ l.m0 ∧ l.m0 ≤ 65536) ∧ (1 ≤ l.m1 ∧ l.m1 ≤ 65536) ∧ (1 ≤ l.m2 ∧ l.m2 ≤ 65536)
theorem L.at_ok {l : L} (h : l.Ok) (i : Nat) : 1 ≤ l.at i ∧ l.at i ≤ 65536 := by
  obtain ⟨h1, h2, h3⟩ := h
  unfold L.at; split
  · exact h1
  · split
    · exact h2
    · exact h3
def limits (w h m : Int) : L := ⟨lim w 4096, lim h 65536, lim m 65535⟩
theorem limits_ok (w h m : Int) : (limits w h m).Ok := by
  have a := lim_at (n := w) (hi := 4096) (by omega)
  have b := lim_at (n := h) (hi := 65536) (by omega)
  have c := lim_at (n := m) (hi := 65535) (by omega)
  exact ⟨⟨a.1, by simp only [limits]; omega⟩, ⟨b.1, b.2⟩, ⟨c.1, by simp only [limits]; omega⟩⟩
/-- a reader: how far it is (0 ahead, 1 behind P, 2 behind the kind, 3 in a number, 4 over, 5 wrong), the kind, how many numbers are over, these, the number's reader, the error -/
structure S where
  p : Nat
  kd : Int
  i : Nat
  v0 : Int
  v1 : Int
  v2 : Int
  t : Tk.S
  e : Int
/-- a head -/
structure H where
  kd : Int
  w : Int
  h : Int
  m : Int
def none : H := ⟨0, 0, 0, 0⟩
def new : S := ⟨0, 0, 0, 0, 0, 1, Tk.new, 0⟩
def bits (kd : Int) : Bool := decide (kd = 1 ∨ kd = 4)
def many (kd : Int) : Nat := if bits kd = true then 2 else 3
def S.wrong (s : S) (e : Int) : S := ⟨5, s.kd, s.i, s.v0, s.v1, s.v2, s.t, e⟩
def S.tok (s : S) (t : Tk.S) : S := ⟨3, s.kd, s.i, s.v0, s.v1, s.v2, t, s.e⟩
/-- a number more -/
def S.num (s : S) (n : Int) : S :=
  ⟨if s.i + 1 = many s.kd then 4 else 3, s.kd, s.i + 1, if s.i = 0 then n else s.v0, if s.i = 1 then n else s.v1, if 2 ≤ s.i then n else s.v2, Tk.new, s.e⟩
/-- what it is when its number's reader is where t says -/
def take (s : S) (t : Tk.S) : S :=
  if t.k = 5 then s.wrong t.e
  else if t.k = 4 then (if t.n = 0 then s.wrong 4 else s.num t.n)
  else s.tok t
def inNum (l : L) (s : S) (c : Int) : S := take s (Tk.put (l.at s.i) s.t c)
def put (l : L) (s : S) (c : Int) : S :=
  if s.p = 0 then (if c = 80 then ⟨1, s.kd, s.i, s.v0, s.v1, s.v2, s.t, s.e⟩ else s.wrong 2)
  else if s.p = 1 then (if 49 ≤ c ∧ c ≤ 54 then ⟨2, c - 48, s.i, s.v0, s.v1, s.v2, s.t, s.e⟩ else s.wrong 2)
  else if s.p = 2 then (if Tk.blank c = true ∨ c = 35 then inNum l s c else s.wrong 3)
  else if s.p = 3 then inNum l s c
  else s
def st (s : S) : Int := if s.p = 4 then 1 else if s.p = 5 then 2 else 0
def hd (s : S) : H := ⟨s.kd, s.v0, s.v1, s.v2⟩
/-- the head, and its error -/
def val (s : S) : H × Int := if s.p = 4 then (hd s, 0) else if s.p = 5 then (none, s.e) else (none, 9)
/-- told the rest of a text, i bytes in: the head, how many bytes it took, the error -/
def parseF (l : L) : S → Nat → List Int → H × Int × Int
  | s, i, [] => if s.p = 4 then (hd s, (i : Int), 0) else if s.p = 5 then (none, (i : Int), s.e) else (none, (i : Int), 6)
  | s, i, c :: cs => if s.p = 4 then (hd s, (i : Int), 0) else if s.p = 5 then (none, (i : Int), s.e) else parseF l (put l s c) (i + 1) cs
def parseV (l : L) (x : List Int) : H × Int × Int := parseF l new 0 x
theorem parse_over {l : L} {s : S} (i : Nat) (x : List Int) (h : s.p = 4) : parseF l s i x = (hd s, (i : Int), 0) := by cases x <;> rw [parseF, if_pos h]
theorem parse_wrong {l : L} {s : S} (i : Nat) (x : List Int) (h : s.p = 5) : parseF l s i x = (none, (i : Int), s.e) := by cases x <;> rw [parseF, if_neg (by omega), if_pos h]
theorem parse_nil {l : L} {s : S} (i : Nat) (h : s.p ≤ 3) : parseF l s i [] = (none, (i : Int), 6) := by rw [parseF, if_neg (by omega), if_neg (by omega)]
theorem parse_cons {l : L} {s : S} (i : Nat) (c : Int) (cs : List Int) (h : s.p ≤ 3) : parseF l s i (c :: cs) = parseF l (put l s c) (i + 1) cs := by rw [parseF, if_neg (by omega), if_neg (by omega)]
/-- what is so of each reader -/
def Good (l : L) (s : S) : Prop :=
  s.p ≤ 5 ∧ (s.p ≤ 3 → Tk.Good (l.at s.i) s.t ∧ s.t.k ≤ 3) ∧ (s.p ≤ 2 → s.i = 0 ∧ s.v0 = 0 ∧ s.v1 = 0 ∧ s.v2 = 1 ∧ s.t = Tk.new) ∧ (s.p ≤ 1 → s.kd = 0) ∧ (2 ≤ s.p → s.p ≤ 4 → 1 ≤ s.kd ∧ s.kd ≤ 6) ∧ (s.p ≤ 3 → s.i < many s.kd) ∧ (s.p = 5 → (s.e = 2 ∨ s.e = 3 ∨ s.e = 4)) ∧ s.i ≤ 3
theorem many_at (kd : Int) : many kd = 2 ∨ many kd = 3 := by unfold many; split <;> simp
theorem good_new {l : L} (h : l.Ok) : Good l new := by
  have := L.at_ok h 0
  refine ⟨by decide, fun _ => ⟨Tk.good_new (by show (0 : Int) ≤ l.at 0; omega), by decide⟩, fun _ => ⟨rfl, rfl, rfl, rfl, rfl⟩, fun _ => rfl, fun h => absurd h (by decide), fun _ => by have := many_at (0 : Int); show 0 < many 0; omega, fun h => absurd h (by decide), by decide⟩
theorem good_wrong {l : L} {s : S} (hi : s.i ≤ 3) {e : Int} (he : e = 2 ∨ e = 3 ∨ e = 4) : Good l (s.wrong e) :=
  ⟨Nat.le_refl 5, fun h => absurd h (by simp [S.wrong]), fun h => absurd h (by simp [S.wrong]), fun h => absurd h (by simp [S.wrong]), fun _ h => absurd h (by simp [S.wrong]), fun h => absurd h (by simp [S.wrong]), fun _ => he, hi⟩
theorem good_take {l : L} (hl : l.Ok) {s : S} (hk : 1 ≤ s.kd ∧ s.kd ≤ 6) (hi : s.i < many s.kd) {t : Tk.S} (ht : Tk.Good (l.at s.i) t) : Good l (take s t) := by
  have hm := many_at s.kd
  unfold take
  split
  · rename_i h5; exact good_wrong (by omega) (.inr (ht.2.2.2.2.2.1 h5))
  split
  · split
    · exact good_wrong (by omega) (.inr (.inr rfl))
    · unfold S.num
      by_cases h : s.i + 1 = many s.kd
      · rw [if_pos h]
        exact ⟨by simp, fun h => absurd h (by simp), fun h => absurd h (by simp), fun h => absurd h (by simp), fun _ _ => hk, fun h => absurd h (by simp), fun h => absurd h (by simp), by simp only []; omega⟩
      · rw [if_neg h]
        have := L.at_ok hl (s.i + 1)
        exact ⟨by simp, fun _ => ⟨Tk.good_new (by simp only []; omega), Nat.zero_le _⟩, fun h => absurd h (by simp), fun h => absurd h (by simp), fun _ _ => hk, fun _ => by simp only []; omega, fun h => absurd h (by simp), by simp only []; omega⟩
  · rename_i h5 h4
    have := ht.1
    exact ⟨by simp [S.tok], fun _ => ⟨ht, by show t.k ≤ 3; omega⟩, fun h => absurd h (by simp [S.tok]), fun h => absurd h (by simp [S.tok]), fun _ _ => hk, fun _ => hi, fun h => absurd h (by simp [S.tok]), by show s.i ≤ 3; omega⟩
theorem good_put {l : L} (hl : l.Ok) {s : S} (h : Good l s) (c : Int) : Good l (put l s c) := by
  obtain ⟨h1, h2, h3, h4, h5, h6, h7, h8⟩ := h
  unfold put
  split
  · rename_i hp
    obtain ⟨a1, a2, a3, a4, a5⟩ := h3 (by omega)
    split
    · exact ⟨by simp, fun _ => h2 (by omega), fun _ => ⟨a1, a2, a3, a4, a5⟩, fun _ => h4 (by omega), fun h => absurd h (by simp), fun _ => h6 (by omega), fun h => absurd h (by simp), h8⟩
    · exact good_wrong h8 (.inl rfl)
  split
  · rename_i hp0 hp
    obtain ⟨a1, a2, a3, a4, a5⟩ := h3 (by omega)
    split
    · rename_i hc
      exact ⟨by simp, fun _ => h2 (by omega), fun _ => ⟨a1, a2, a3, a4, a5⟩, fun h => absurd h (by simp), fun _ _ => by simp only []; omega, fun _ => by have := many_at (c - 48); simp only []; omega, fun h => absurd h (by simp), h8⟩
    · exact good_wrong h8 (.inl rfl)
  split
  · rename_i hp0 hp1 hp
    split
    · exact good_take hl (h5 (by omega) (by omega)) (h6 (by omega)) (Tk.good_put (h2 (by omega)).1 c)
    · exact good_wrong h8 (.inr (.inl rfl))
  split
  · exact good_take hl (h5 (by omega) (by omega)) (h6 (by omega)) (Tk.good_put (h2 (by omega)).1 c)
  · exact ⟨h1, h2, h3, h4, h5, h6, h7, h8⟩
/-- what a text's head comes to, told while a reader is told it -/
theorem parse_ends {l : L} (hl : l.Ok) : ∀ (x : List Int) (s : S) (i : Nat), Good l s → s.p ≤ 3 → (i : Int) ≤ (parseF l s i x).2.1 ∧ ((parseF l s i x).2.2 ≠ 6 → (i : Int) + 1 ≤ (parseF l s i x).2.1) ∧ ((parseF l s i x).2.2 = 0 ∨ (parseF l s i x).2.2 = 2 ∨ (parseF l s i x).2.2 = 3 ∨ (parseF l s i x).2.2 = 4 ∨ (parseF l s i x).2.2 = 6)
  | [], s, i, h, hp => by rw [parse_nil i hp]; simp
  | c :: cs, s, i, h, hp => by
    rw [parse_cons i c cs hp]
    have hg := good_put hl h c
    by_cases h4 : (put l s c).p = 4
    · rw [parse_over _ _ h4]; simp; omega
    by_cases h5 : (put l s c).p = 5
    · rw [parse_wrong _ _ h5]
      have := hg.2.2.2.2.2.2.1 h5
      simp only []; omega
    · have := hg.1
      have h := parse_ends hl cs (put l s c) (i + 1) hg (by omega)
      omega
end Hd
end Go.Proofs.Ytmlinoanpcbflaa
