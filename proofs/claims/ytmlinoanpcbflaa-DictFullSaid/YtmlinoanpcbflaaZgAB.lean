/- A variable's cell that holds a slice of the call's own, through a loop's rounds; and what is known of a slice of integers of any kind. No condition. -/
import Derived.Test.YtmlinoanpcbflaaZRng
import Derived.OwnWalkIn
import Derived.OwnWalk
import Derived.TacticsInMore
import Derived.LoopNIn
import Derived.LoopIn
import Derived.Maps.AppendAt
import Derived.Handy
import Derived.WalkSpells
import Derived.WalkLawsBesides
import Derived.Lib.Hide
import Derived.Test.YtmlinoanpcbflaaZgAA
import Derived.Laws.MakeOwn
import Derived.Deep.OwnRows
import Derived.Deep.RegionHeld3
import Derived.Laws.CopyOwn
import Derived.Deep.LoopGhost
import Derived.Deep.DeepCutAuto
import Derived.Deep.CutRange
import Derived.Laws.EntriesVeiled
import Derived.Test.YtmlinoanpcbflaaZQPixA
import Derived.Deep.DrawnRows
import Derived.Deep.QuietTactic
import Derived.BigQuiet
import Derived.Deep.RegionWith
import Derived.Laws.StructEq
namespace Go.Proofs.Ytmlinoanpcbflaa
open Go.RowKit Go.Shelf

theorem boxed_sep {Z : Nat → Prop} {A B : World} {b : Nat} {t : TypeId} {v : Value} (h : Boxed A b t v) (hs : Sep Z A B) (hz : ¬ Z b) : Boxed B b t v := (hs.block b h.lt hz).trans h
theorem ownsRow_sep {Z : Nat → Prop} {A B : World} {base : Nat} {e : TypeId} {size : Nat} {v : Value} {n : Nat} {xs : List Value} (h : A.ownsRow base e size v n xs) (hs : Sep Z A B) (hz : ∀ k, base ≤ k → ¬ Z k) : B.ownsRow base e size v n xs := by
  obtain ⟨h1, h2⟩ := h
  refine ⟨h1, ?_⟩
  rcases h2 with h2 | ⟨g, cap, cur, rfl, hb, hg, r⟩
  · exact .inl h2
  · exact .inr ⟨g, cap, cur, rfl, hb, (hs.block g (Array.getElem?_eq_some_iff.1 hg).1 (hz g hb)).trans hg, r⟩
theorem ownsRow_base {A : World} {base base' : Nat} {e : TypeId} {size : Nat} {v : Value} {n : Nat} {xs : List Value} (h : A.ownsRow base e size v n xs) (hb : base' ≤ base) : A.ownsRow base' e size v n xs := by
  obtain ⟨h1, h2⟩ := h
  refine ⟨h1, ?_⟩
  rcases h2 with h2 | ⟨g, cap, cur, rfl, hg, r⟩
  · exact .inl h2
  · exact .inr ⟨g, cap, cur, rfl, Nat.le_trans hb hg, r⟩
/-- 'x = append(x, ..)', x in a cell of its own: all that a round owes behind it. -/
theorem pushed {W w1 : World} {base B : Nat} {t e : TypeId} {size : Nat} {v v' : Value} {k m : Nat} {xs ys : List Value} {tmp : Obj}
    (hv : Boxed W B t v) (hte : t ≠ e) (hrow : W.ownsRow base e size v k xs) (hown' : w1.ownsRow base e size v' m ys) (hgrow : (W.alloc tmp).grownBy w1 v.ownBlock) :
    Boxed w1 B t v ∧ Boxed (w1.setCell ⟨B, 0, none⟩ v') B t v' ∧ (w1.setCell ⟨B, 0, none⟩ v').ownsRow base e size v' m ys ∧
    (∀ Z : Nat → Prop, ¬ Z B → (∀ k, base ≤ k → ¬ Z k) → Hold Z W (w1.setCell ⟨B, 0, none⟩ v')) ∧
    (∀ m, m ≤ B → m ≤ base → m ≤ W.heap.size → Below m W (w1.setCell ⟨B, 0, none⟩ v')) := by
  have hb : ∀ j, v.ownBlock = some j → base ≤ j := fun j ej => (hrow.lt j ej).1
  have hv1 : Boxed w1 B t v := (hv.alloc tmp).kept hgrow (hv.not_row hte hrow)
  refine ⟨hv1, hv1.set v', hown'.kept (grownBy_setCell' w1 B v') (.inr (hv1.not_row hte hown').symm), fun Z hz hzb => ?_, fun m h1 h2 h3 => ?_⟩
  · exact ((Hold.alloc Z W tmp).trans (.grown hgrow fun j ej => hzb j (hb j ej))).trans (.setCell _ hz _)
  · exact (((Below.refl m W).alloc h3 tmp).grown hgrow (by simp; omega) fun j ej => Nat.le_trans h2 (hb j ej)).setCell (p := ⟨B, 0, none⟩) h1 v'

/-- WHAT IS KNOWN OF A SLICE OF INTEGERS OF KIND q: its length, and what its cells hold. -/
def SlK (q : IntKind) (w : World) (a : Option Addr) (len : Nat) (zs : List Int) : Prop :=
  zs.length = len ∧ (len = 0 ∨ ∃ blk off, a = some ⟨blk, off, none⟩ ∧ ∀ i, i < len → w.cell? ⟨blk, off + i, none⟩ = some (.int q (zs.getD i 0)))
theorem SlK.below {q : IntKind} {w w' : World} {a : Option Addr} {n : Nat} {zs : List Int} (h : SlK q w a n zs) (hb : Below w.heap.size w w') : SlK q w' a n zs := by
  obtain ⟨h1, h2⟩ := h
  refine ⟨h1, ?_⟩
  rcases h2 with h2 | ⟨blk, off, ha, hc⟩
  · exact .inl h2
  · exact .inr ⟨blk, off, ha, fun i hi => cell_later hb (hc i hi)⟩
/-- Integers in memory of the call's own. -/
def OwnK (q : IntKind) (base : Nat) (w : World) (ad : Option Addr) (zs : List Int) : Prop :=
  zs = [] ∨ ∃ g, ad = some ⟨g, 0, none⟩ ∧ base ≤ g ∧ g < w.heap.size ∧ (∀ i, i < zs.length → w.cell? ⟨g, i, none⟩ = some (.int q (zs.getD i 0))) ∧ (∀ i, w.frozen? ⟨g, i, none⟩ = false)
theorem OwnK.sl {q : IntKind} {base : Nat} {w : World} {ad : Option Addr} {zs : List Int} (h : OwnK q base w ad zs) : SlK q w ad zs.length zs := by
  refine ⟨rfl, ?_⟩
  rcases h with rfl | ⟨g, h1, _, _, h2, _⟩
  · exact .inl rfl
  · exact .inr ⟨g, 0, h1, fun i hi => by simpa using h2 i hi⟩
theorem OwnK.mono {q : IntKind} {base base' : Nat} {w : World} {ad : Option Addr} {zs : List Int} (h : OwnK q base w ad zs) (hb : base' ≤ base) : OwnK q base' w ad zs := by
  rcases h with h | ⟨g, h1, h2, h3⟩
  · exact .inl h
  · exact .inr ⟨g, h1, Nat.le_trans hb h2, h3⟩
theorem OwnK.later {q : IntKind} {base : Nat} {w w' : World} {ad : Option Addr} {zs : List Int} (h : OwnK q base w ad zs) (hb : Below w.heap.size w w') : OwnK q base w' ad zs := by
  rcases h with rfl | ⟨g, h1, h2, h3, h4, h5⟩
  · exact .inl rfl
  · exact .inr ⟨g, h1, h2, by have := hb.size; omega, fun i hi => cell_later hb (h4 i hi), fun i => by rw [hb.frozen (p := ⟨g, i, none⟩) h3]; exact h5 i⟩
theorem ownK_row {q : IntKind} {base : Nat} {w : World} {e : TypeId} {v : Value} {n : Nat} {zs : List Int} (hn : zs.length = n) (h : w.ownsRow base e 1 v n (zs.map (Value.int q))) :
    ∃ ad cap, v = .slice ad n cap ∧ OwnK q base w ad zs ∧ n ≤ cap := by
  have H := h
  obtain ⟨h1, h2⟩ := h
  rcases h2 with ⟨rfl, rfl⟩ | ⟨g, cap, cur, rfl, hb, hg, hle, hm, hsz, htk⟩
  · exact ⟨none, 0, rfl, .inl (by cases zs with | nil => rfl | cons => simp at hn), Nat.le_refl _⟩
  · refine ⟨_, cap, rfl, .inr ⟨g, rfl, hb, (H.lt g rfl).2, fun i hi => ?_, fun i => H.frozenAt i⟩, hle⟩
    rw [H.cellAt i (by omega), List.getElem?_map, List.getElem?_eq_getElem hi, List.getD_eq_getElem?_getD, List.getElem?_eq_getElem hi]; rfl
theorem ownsRow_cap {w : World} {base : Nat} {e : TypeId} {size : Nat} {g n cap : Nat} {xs : List Value} (h : w.ownsRow base e size (.slice (some ⟨g, 0, none⟩) n cap) n xs) : n ≤ cap := by
  rcases h.2 with ⟨e, _⟩ | ⟨_, _, _, e, _, _, hle, _⟩
  · cases e
  · cases e; exact hle
theorem ownK_lit {q : IntKind} (w : World) (cs : Array Value) (t : TypeId) (zs : List Int) (h : cs.toList = zs.map (Value.int q)) : OwnK q w.heap.size (w.alloc (.cells cs t)) (some ⟨w.heap.size, 0, none⟩) zs := by
  refine .inr ⟨w.heap.size, rfl, Nat.le_refl _, by simp, fun i hi => ?_, fun i => by simp [go_sem]⟩
  rw [World.cell?_alloc_at _ _ _ _ rfl]
  have : cs[i]? = cs.toList[i]? := by simp
  rw [this, h, List.getElem?_map, List.getElem?_eq_getElem hi, List.getD_eq_getElem?_getD, List.getElem?_eq_getElem hi]; rfl
end Go.Proofs.Ytmlinoanpcbflaa

/- What a law's walk is told of integers and of slices of integers that came in, and what follows of it. No condition. -/
namespace Go.Proofs.Ytmlinoanpcbflaa
open Go.RowKit
set_option linter.unusedVariables false

theorem wfI {n : Int} (h : (Lit.int .i64 n).wf = true) : -9223372036854775808 ≤ n ∧ n ≤ 9223372036854775807 := by
  simp [Lit.wf, IntKind.min, IntKind.max, IntKind.bits, IntKind.signed] at h; omega
theorem wfB {n : Int} (h : (Lit.int .u8 n).wf = true) : 0 ≤ n ∧ n ≤ 255 := by
  simp [Lit.wf, IntKind.min, IntKind.max, IntKind.bits, IntKind.signed] at h; omega
theorem bel_step {w a b : World} (h : Below w.heap.size w a) (k : Below a.heap.size a b) : Below w.heap.size w b := h.trans (k.mono h.size)
/-- It is nil; or it leads to a row of 'cap' cells, the numbers 'zs' (the first 'len' are its elements), each fitting its kind. -/
def IsRow (k : IntKind) (w : World) (a : Option Addr) (len cap : Nat) (zs : List Int) : Prop :=
  (a = none ∧ len = 0 ∧ cap = 0 ∧ zs = []) ∨
  ∃ x, a = some x ∧ len ≤ cap ∧ cap ≤ maxLen ∧ zs.length = cap ∧ (∀ i, i < zs.length → w.cell? (x.add i) = some (.int k (zs.getD i 0))) ∧ ∀ n ∈ zs, (Lit.int k n).wf = true
theorem isrow_len {k : IntKind} {w : World} {a : Option Addr} {len cap : Nat} {zs : List Int} (h : IsRow k w a len cap zs) : len ≤ 9223372036854775807 ∧ len ≤ zs.length ∧ len ≤ cap ∧ cap ≤ 9223372036854775807 := by
  rcases h with ⟨_, rfl, rfl, rfl⟩ | ⟨x, _, h1, h2, h3, _⟩
  · simp
  · unfold maxLen at h2; omega
theorem addrK_add (b off j : Nat) : (⟨b, off, none⟩ : Addr).add j = ⟨b, off + j, none⟩ := by cases j <;> simp [Addr.add]
/-- the first n elements, as a slice -/
theorem isrow_takeK {k : IntKind} {w : World} {a : Option Addr} {len cap : Nat} {zs : List Int} (h : IsRow k w a len cap zs) (n : Nat) (hn : n ≤ len) : SlK k w a n (zs.take n) := by
  have hl := isrow_len h
  refine ⟨by rw [List.length_take]; omega, ?_⟩
  rcases h with ⟨_, rfl, _, _⟩ | ⟨⟨b, o, sp⟩, rfl, h1, h2, h3, h4, _⟩
  · exact .inl (by omega)
  · by_cases h0 : n = 0
    · exact .inl h0
    · have hc := h4 0 (by omega)
      have hsp : sp = none := by simpa [Addr.add] using World.cell?_spot hc
      subst hsp
      refine .inr ⟨b, o, rfl, fun i hi => ?_⟩
      rw [← addrK_add, h4 i (by omega)]
      simp [List.getD_eq_getElem?_getD, List.getElem?_take_of_lt hi]
theorem isrow_wfK {k : IntKind} {w : World} {a : Option Addr} {len cap : Nat} {zs : List Int} (h : IsRow k w a len cap zs) : ∀ n ∈ zs, (Lit.int k n).wf = true := by
  rcases h with ⟨_, _, _, rfl⟩ | ⟨x, _, _, _, _, _, h5⟩
  · intro n hn; cases hn
  · exact h5
end Go.Proofs.Ytmlinoanpcbflaa

/- The smallest functions of rect and of the document's own answer: sides, what may be, what lies inside, over any memory. Condition: numbers fit their kinds. -/
namespace Go.Proofs.Ytmlinoanpcbflaa
open Go.RowKit
set_option linter.unusedVariables false

/-- a number that fits an int -/
def I64 (n : Int) : Prop := -9223372036854775808 ≤ n ∧ n ≤ 9223372036854775807
theorem ret_bR {a b : Bool} (h : a = b) : Ending.returned (.bool a) = .returned (.bool b) := by rw [h]

set_option maxHeartbeats 1000000 in
theorem mayMeasure_any (a b : Int) (w : World) :
    Calls Try.prog 64 #[.int .i64 a, .int .i64 b] w fun e w' => e = .returned (.bool (Rc.sized a b)) ∧ w = w' := by
  by_cases h1 : 1 ≤ a <;> by_cases h2 : a ≤ 4096 <;> by_cases h3 : 1 ≤ b <;> by_cases h4 : b ≤ 65536
  all_goals first
    | (
      have X := Lib.hid (show Rc.sized a b = false by simp [Rc.sized, h1, h2, h3, h4])
      go_enter Try.func64, Try.ntmps64
      go_wp2
      go_ret
      exact ⟨ret_bR X.out.symm, rfl⟩)
    | (
      have hm : wrap64 (a * b) = a * b := by
        have q1 : 0 ≤ a * b := Int.mul_nonneg (by omega) (by omega)
        have q2 : a * b ≤ 4096 * 65536 := Int.mul_le_mul h2 h4 (by omega) (by omega)
        rw [IntWalk.wrap64_in] <;> omega
      have X := Lib.hid (show decide (a * b ≤ 16777216) = Rc.sized a b by simp [Rc.sized, h1, h2, h3, h4])
      go_enter Try.func64, Try.ntmps64
      go_wp2
      go_ret
      exact ⟨ret_bR X.out, rfl⟩)
set_option maxHeartbeats 1000000 in
theorem refSized_any (a b : Int) (w : World) :
    Calls Try.prog 44 #[.int .i64 a, .int .i64 b] w fun e w' => e = .returned (.bool (Rc.sized a b)) ∧ w = w' := by
  by_cases h1 : a < 1 <;> by_cases h2 : 4096 < a <;> by_cases h3 : b < 1 <;> by_cases h4 : 65536 < b
  all_goals first
    | (
      have X := Lib.hid (show Rc.sized a b = false by cases e : Rc.sized a b; rfl; rw [Rc.sized_iff] at e; omega)
      go_enter Try.func44, Try.ntmps44
      go_wp2
      go_ret
      exact ⟨ret_bR X.out.symm, rfl⟩)
    | (
      have hm : wrap64 (a * b) = a * b := by
        have q1 : 0 ≤ a * b := Int.mul_nonneg (by omega) (by omega)
        have q2 : a * b ≤ 4096 * 65536 := Int.mul_le_mul (by omega) (by omega) (by omega) (by omega)
        rw [IntWalk.wrap64_in] <;> omega
      have X := Lib.hid (show decide (a * b ≤ 16777216) = Rc.sized a b by simp [Rc.sized, Int.not_lt.1 h1, Int.not_lt.1 h2, Int.not_lt.1 h3, Int.not_lt.1 h4])
      go_enter Try.func44, Try.ntmps44
      go_wp2
      go_ret
      exact ⟨ret_bR X.out, rfl⟩)
end Go.Proofs.Ytmlinoanpcbflaa

/- What may be, what lies inside a matrix, and a matrix as the document, and the program, has it, over any memory. Condition: numbers fit their kinds. -/
namespace Go.Proofs.Ytmlinoanpcbflaa
open Go.RowKit
set_option linter.unusedVariables false

theorem box1 (w : World) (o : Obj) : Below w.heap.size w (w.alloc o) := (Below.refl w.heap.size w).alloc (Nat.le_refl _) o
theorem box2 (w : World) (o p : Obj) : Below w.heap.size w ((w.alloc o).alloc p) := (box1 w o).alloc (by simp) p
/-- a matrix in a cell of its own -/
def Mb (w : World) (b : Nat) (W H : Int) (a : Option Addr) (n c : Nat) : Prop :=
  w.cell? ⟨b, 0, none⟩ = some (.int .i64 W) ∧ w.cell? ⟨b, 1, none⟩ = some (.int .i64 H) ∧ w.cell? ⟨b, 2, none⟩ = some (.slice a n c)
theorem Mb.later {w w' : World} {b : Nat} {W H : Int} {a : Option Addr} {n c : Nat} (h : Mb w b W H a n c) (hb : Below w.heap.size w w') : Mb w' b W H a n c :=
  ⟨cell_later hb h.1, cell_later hb h.2.1, cell_later hb h.2.2⟩
/-- two numbers in cells of their own -/
def Pb (w : World) (b : Nat) (x y : Int) : Prop := w.cell? ⟨b, 0, none⟩ = some (.int .i64 x) ∧ w.cell? ⟨b, 1, none⟩ = some (.int .i64 y)
theorem Pb.later {w w' : World} {b : Nat} {x y : Int} (h : Pb w b x y) (hb : Below w.heap.size w w') : Pb w' b x y := ⟨cell_later hb h.1, cell_later hb h.2⟩

set_option maxHeartbeats 1000000 in
theorem may_any (W H : Int) (a : Option Addr) (n c : Nat) (hn : n ≤ 9223372036854775807) (w : World) :
    Calls Try.prog 51 #[.agg #[.int .i64 W, .int .i64 H, .slice a n c]] w fun e w' => e = .returned (.bool (Rc.mayV W H n)) ∧ Below w.heap.size w w' := by
  have B := box1 w (.cells #[.int .i64 W, .int .i64 H, .slice a n c] 34)
  cases h : Rc.sized W H
  · have X := Lib.hid (show Rc.mayV W H n = false by simp [Rc.mayV, h])
    go_enter Try.func51, Try.ntmps51
    go_wp2_with (go_at_call 64; refine (mayMeasure_any W H _).mono ?_; rw [h]; rintro e w1 ⟨rfl, rfl⟩)
    go_ret
    exact ⟨ret_bR X.out.symm, B⟩
  · have X := Lib.hid (show ((n : Int) == W * H) = Rc.mayV W H n by simp [Rc.mayV, h]; rfl)
    have hm : wrap64 (W * H) = W * H := by
      obtain ⟨h1, h2, h3, h4, h5⟩ := Rc.sized_iff.1 h
      have q1 : 0 ≤ W * H := Int.mul_nonneg (by omega) (by omega)
      rw [IntWalk.wrap64_in] <;> omega
    go_enter Try.func51, Try.ntmps51
    go_wp2_with (go_at_call 64; refine (mayMeasure_any W H _).mono ?_; rw [h]; rintro e w1 ⟨rfl, rfl⟩)
    go_ret
    exact ⟨ret_bR X.out, B⟩
end Go.Proofs.Ytmlinoanpcbflaa

/- A row's numbers, cut out of a matrix; a number of it; over any memory. Condition: the places lie in it. -/
namespace Go.Proofs.Ytmlinoanpcbflaa
open Go.RowKit
set_option linter.unusedVariables false

theorem ret_sl {b o o' n m : Nat} (h : o = o') (k : n = m) : Ending.returned (.slice (some ⟨b, o, none⟩) n n) = .returned (.slice (some ⟨b, o', none⟩) m m) := by rw [h, k]
theorem slk_pos {k : IntKind} {w : World} {a : Option Addr} {n : Nat} {zs : List Int} (h : SlK k w a n zs) (hn : 0 < n) : ∃ b off, a = some ⟨b, off, none⟩ ∧ ∀ i, i < n → w.cell? ⟨b, off + i, none⟩ = some (.int k (zs.getD i 0)) := by
  rcases h.2 with h | ⟨b, off, rfl, hc⟩
  · omega
  · exact ⟨b, off, rfl, hc⟩
theorem ok_pos {W H : Int} {L : List Int} (h : Rc.Ok W H L) : 0 < L.length := by
  obtain ⟨h1, h2, h3, h4, h5, h6⟩ := h
  rw [h6]; exact Nat.mul_pos (by omega) (by omega)
theorem ok_len {W H : Int} {L : List Int} (h : Rc.Ok W H L) : L.length ≤ 16777216 := by
  have hm := (Rc.mayV_iff.1 (Rc.ok_may h)).2
  obtain ⟨h1, h2, h3, h4, h5, h6⟩ := h
  omega
/-- where a row of n numbers from x, y on lies -/
theorem place {W H x y n : Int} {L : List Int} (h : Rc.Ok W H L) (hx : Rc.insV x n W = true) (hy : Rc.insV y 1 H = true) :
    y * W + x = ((y.toNat * W.toNat + x.toNat : Nat) : Int) ∧ y * W = ((y.toNat * W.toNat : Nat) : Int) ∧ y.toNat * W.toNat + x.toNat + n.toNat ≤ L.length ∧ y.toNat * W.toNat + W.toNat ≤ L.length := by
  obtain ⟨h1, h2, h3, h4, h5, h6⟩ := h
  obtain ⟨a1, a2, a3, a4⟩ := Rc.insV_iff.1 hx
  obtain ⟨b1, b2, b3, b4⟩ := Rc.insV_iff.1 hy
  have e : y * W = ((y.toNat * W.toNat : Nat) : Int) := by rw [Int.natCast_mul, Int.toNat_of_nonneg (by omega), Int.toNat_of_nonneg (by omega)]
  have k : (y.toNat + 1) * W.toNat ≤ H.toNat * W.toNat := Nat.mul_le_mul_right _ (by omega)
  rw [Nat.succ_mul] at k
  exact ⟨by rw [Int.natCast_add, ← e]; omega, e, by omega, by omega⟩
set_option maxHeartbeats 1000000 in
theorem refAt_any (W H x y : Int) (a : Option Addr) (c : Nat) (L : List Int) (hL : Rc.Ok W H L) (hc : L.length ≤ c) (hc2 : c ≤ 9223372036854775807) (w : World) (hs : SlK .u64 w a L.length L) :
    Calls Try.prog 56 #[.agg #[.int .i64 W, .int .i64 H, .slice a L.length c], .int .i64 x, .int .i64 y] w fun e w' => e = .returned (.tuple #[.int .u64 (Rc.atV W H L x y).1, .bool (Rc.atV W H L x y).2]) ∧ Below w.heap.size w w' := by
  have B := box1 w (.cells #[.int .i64 W, .int .i64 H, .slice a L.length c] 45)
  have hn := ok_len hL
  cases k1 : (Rc.insV x 1 W && Rc.insV y 1 H)
  · have X := Lib.hid (show Rc.atV W H L x y = (0, false) by simp [Rc.atV, k1])
    have k2 : x < 0 ∨ y < 0 ∨ W ≤ x ∨ H ≤ y := by
      obtain ⟨h1, h2, h3, h4, h5, h6⟩ := hL
      rcases Bool.and_eq_false_iff.1 k1 with k | k
      · have : ¬ (0 ≤ x ∧ 1 ≤ (1 : Int) ∧ 1 ≤ W ∧ x ≤ W - 1) := fun h => Bool.false_ne_true (k.symm.trans (Rc.insV_iff.2 h))
        omega
      · have : ¬ (0 ≤ y ∧ 1 ≤ (1 : Int) ∧ 1 ≤ H ∧ y ≤ H - 1) := fun h => Bool.false_ne_true (k.symm.trans (Rc.insV_iff.2 h))
        omega
    clear hL hs k1
    by_cases c1 : x < 0 <;> by_cases c2 : y < 0 <;> by_cases c3 : W ≤ x <;> by_cases c4 : H ≤ y
    all_goals first
      | (exfalso; omega)
      | (
        clear k2
        go_enter Try.func56, Try.ntmps56
        go_wp2
        go_ret2
        exact ⟨by rw [X.out]; rfl, B⟩)
  · have k2 : Rc.insV x 1 W = true ∧ Rc.insV y 1 H = true := by simpa using k1
    obtain ⟨v, hv⟩ : ∃ v, L.getD (y.toNat * W.toNat + x.toNat) 0 = v := ⟨_, rfl⟩
    have X := Lib.hid (show Rc.atV W H L x y = (v, true) by simp only [Rc.atV, k1, if_true]; rw [hv])
    obtain ⟨b, off, rfl, hcell⟩ := slk_pos hs (ok_pos hL)
    obtain ⟨p1, p2, p3, p4⟩ := place hL k2.1 k2.2
    obtain ⟨a1, a2, a3, a4⟩ := Rc.insV_iff.1 k2.1
    obtain ⟨b1, b2, b3, b4⟩ := Rc.insV_iff.1 k2.2
    have hcv := hcell (y.toNat * W.toNat + x.toNat) (by omega)
    rw [hv] at hcv
    have hcw := cell_later B hcv
    obtain ⟨f, hf⟩ : ∃ f : Int, y * W + x = f := ⟨_, rfl⟩
    obtain ⟨r, hr⟩ : ∃ r : Int, y * W = r := ⟨_, rfl⟩
    rw [hr] at p1 p2
    have e1 : wrap64 (y * W) = r := by rw [hr, IntWalk.wrap64_in] <;> omega
    have e2 : wrap64 (r + x) = f := by rw [← hr, hf, IntWalk.wrap64_in] <;> omega
    have f0 : 0 ≤ f := by omega
    have f1 : f < (L.length : Int) := by omega
    rw [show y.toNat * W.toNat + x.toNat = f.toNat by omega] at hcw
    have c1 : ¬ x < 0 := by omega
    have c2 : ¬ y < 0 := by omega
    have c3 : ¬ W ≤ x := by omega
    have c4 : ¬ H ≤ y := by omega
    clear hL hs hcell hcv k2 p1 p2 p3 p4 hv a3 a4 b4 b3 hr hf k1 a1 a2 b1 b2
    go_enter Try.func56, Try.ntmps56
    go_wp2
    go_ret2
    exact ⟨by rw [X.out]; rfl, B⟩
end Go.Proofs.Ytmlinoanpcbflaa

/- When two rows, and two matrices, are the same, by the program and by the document's own answer, over any memory. Condition: a length fits an int. -/
namespace Go.Proofs.Ytmlinoanpcbflaa
open Go.RowKit
set_option linter.unusedVariables false

/-- two lists are the same up to k -/
def Alike (x y : List Int) (k : Nat) : Prop := ∀ i, i < k → x.getD i 0 = y.getD i 0
theorem alike_all {x y : List Int} {n : Nat} (hx : x.length = n) (hy : y.length = n) (h : Alike x y n) : x = y := by
  refine List.ext_getElem (by rw [hx, hy]) fun i h1 h2 => ?_
  have := h i (by omega)
  rw [List.getD_eq_getElem?_getD, List.getD_eq_getElem?_getD, List.getElem?_eq_getElem h1, List.getElem?_eq_getElem h2] at this
  simpa using this
theorem alike_succ {x y : List Int} {k : Nat} (h : Alike x y k) (e : x.getD k 0 = y.getD k 0) : Alike x y (k + 1) := fun i hi => by
  rcases Nat.lt_or_ge i k with h1 | h1
  · exact h i h1
  · obtain rfl : i = k := by omega
    exact e

set_option maxHeartbeats 1000000 in
theorem equal_any (a b : Option Addr) (n m ca cb : Nat) (x y : List Int) (w : World) (hn : n ≤ 9223372036854775807) (ha : SlK .u64 w a n x) (hb : SlK .u64 w b m y) :
    Calls Try.prog 69 #[.slice a n ca, .slice b m cb] w fun e w' => e = .returned (.bool (decide (x = y))) ∧ Below w.heap.size w w' := by
  by_cases h : n = m
  · subst h
    obtain ⟨lx, ha⟩ := ha
    obtain ⟨ly, hb⟩ := hb
    have LX := Lib.hid lx; clear lx
    have LY := Lib.hid ly; clear ly
    by_cases h0 : n = 0
    · subst h0
      have X := Lib.hid (show decide (x = y) = true by rw [decide_eq_true_iff, List.eq_nil_of_length_eq_zero LX.out, List.eq_nil_of_length_eq_zero LY.out])
      clear ha hb
      go_enter Try.func69, Try.ntmps69
      go_wp2
      go_rounds 1
      go_ret
      exact ⟨ret_bR X.out.symm, Below.refl _ _⟩
    · rcases ha with ha | ⟨ba, oa, rfl, ha⟩
      · omega
      rcases hb with hb | ⟨bb, ob, rfl, hb⟩
      · omega
      have HA := Lib.hid ha; clear ha
      have HB := Lib.hid hb; clear hb
      go_enter Try.func69, Try.ntmps69
      go_wp2
      go_loopw [13] (fun i wr => ∃ k q : Nat, k ≤ n ∧ i = .int .i64 k ∧ Alike x y k ∧ wr = w.drewN q) (fun i _ => n - (intOf i).toNat)
      case atStart => exact ⟨0, 0, Nat.zero_le _, rfl, (fun i hi => by omega), rfl⟩
      case round =>
        obtain ⟨k, q, hk, rfl, hal, rfl⟩ := hrel
        by_cases hlt : k < n
        · have hx := HA.out k hlt
          have hy := HB.out k hlt
          obtain ⟨u, hu⟩ : ∃ u, x.getD k 0 = u := ⟨_, rfl⟩
          obtain ⟨v, hv⟩ : ∃ v, y.getD k 0 = v := ⟨_, rfl⟩
          rw [hu] at hx; rw [hv] at hy
          have HU := Lib.hid hu; clear hu
          have HV := Lib.hid hv; clear hv
          have i0 : (0 : Int) ≤ (k : Int) := Int.natCast_nonneg _
          have i1 : (k : Int) < (n : Int) := by omega
          by_cases huv : u = v
          · subst huv
            go_wp2_with (go_quiet (fail))
            go_roundw
            case rel => exact ⟨k + 1, _, by omega, by go_num, alike_succ hal (by rw [HU.out, HV.out]), rfl⟩
            case measure => simp [intOf]; omega
          · have kk : (u != v) = true := by rw [bne_iff_ne]; exact huv
            have X := Lib.hid (show decide (x = y) = false by rw [decide_eq_false_iff_not]; intro e; apply huv; rw [← HU.out, ← HV.out, e])
            go_wp2_with (go_quiet (fail))
            go_ret
            exact ⟨ret_bR X.out.symm, below_drewN (below_drewN (Below.refl _ _) _) _⟩
        · obtain rfl : k = n := by omega
          have X := Lib.hid (show decide (x = y) = true by rw [decide_eq_true_iff]; exact alike_all LX.out LY.out hal)
          go_wp2
          go_ret
          exact ⟨ret_bR X.out.symm, below_drewN (Below.refl _ _) _⟩
  · have X := Lib.hid (show decide (x = y) = false by rw [decide_eq_false_iff_not]; intro e; apply h; rw [← ha.1, ← hb.1, e])
    have k : ((n : Int) != m) = true := by simp; omega
    go_enter Try.func69, Try.ntmps69
    go_wp2
    go_ret
    exact ⟨ret_bR X.out.symm, Below.refl _ _⟩

set_option maxHeartbeats 1000000 in
theorem sameRow_any (a b : Option Addr) (n m ca cb : Nat) (x y : List Int) (w : World) (hn : n ≤ 9223372036854775807) (ha : SlK .u64 w a n x) (hb : SlK .u64 w b m y) :
    Calls Try.prog 70 #[.slice a n ca, .slice b m cb] w fun e w' => e = .returned (.bool (decide (x = y))) ∧ Below w.heap.size w w' := by
  by_cases h : n = m
  · subst h
    obtain ⟨lx, ha⟩ := ha
    obtain ⟨ly, hb⟩ := hb
    have LX := Lib.hid lx; clear lx
    have LY := Lib.hid ly; clear ly
    by_cases h0 : n = 0
    · subst h0
      have X := Lib.hid (show decide (x = y) = true by rw [decide_eq_true_iff, List.eq_nil_of_length_eq_zero LX.out, List.eq_nil_of_length_eq_zero LY.out])
      clear ha hb
      go_enter Try.func70, Try.ntmps70
      go_wp2
      go_rounds 1
      go_ret
      exact ⟨ret_bR X.out.symm, Below.refl _ _⟩
    · rcases ha with ha | ⟨ba, oa, rfl, ha⟩
      · omega
      rcases hb with hb | ⟨bb, ob, rfl, hb⟩
      · omega
      have HA := Lib.hid ha; clear ha
      have HB := Lib.hid hb; clear hb
      go_enter Try.func70, Try.ntmps70
      go_wp2
      go_loopw [5] (fun i wr => ∃ k q : Nat, k ≤ n ∧ i = .int .i64 k ∧ Alike x y k ∧ wr = w.drewN q) (fun i _ => n - (intOf i).toNat)
      case atStart => exact ⟨0, 0, Nat.zero_le _, rfl, (fun i hi => by omega), rfl⟩
      case round =>
        obtain ⟨k, q, hk, rfl, hal, rfl⟩ := hrel
        by_cases hlt : k < n
        · have hx := HA.out k hlt
          have hy := HB.out k hlt
          obtain ⟨u, hu⟩ : ∃ u, x.getD k 0 = u := ⟨_, rfl⟩
          obtain ⟨v, hv⟩ : ∃ v, y.getD k 0 = v := ⟨_, rfl⟩
          rw [hu] at hx; rw [hv] at hy
          have HU := Lib.hid hu; clear hu
          have HV := Lib.hid hv; clear hv
          have i0 : (0 : Int) ≤ (k : Int) := Int.natCast_nonneg _
          have i1 : (k : Int) < (n : Int) := by omega
          by_cases huv : u = v
          · subst huv
            go_wp2_with (go_quiet (fail))
            go_roundw
            case rel => exact ⟨k + 1, _, by omega, by go_num, alike_succ hal (by rw [HU.out, HV.out]), rfl⟩
            case measure => simp [intOf]; omega
          · have kk : (u != v) = true := by rw [bne_iff_ne]; exact huv
            have X := Lib.hid (show decide (x = y) = false by rw [decide_eq_false_iff_not]; intro e; apply huv; rw [← HU.out, ← HV.out, e])
            go_wp2_with (go_quiet (fail))
            go_ret
            exact ⟨ret_bR X.out.symm, below_drewN (below_drewN (Below.refl _ _) _) _⟩
        · obtain rfl : k = n := by omega
          have X := Lib.hid (show decide (x = y) = true by rw [decide_eq_true_iff]; exact alike_all LX.out LY.out hal)
          go_wp2
          go_ret
          exact ⟨ret_bR X.out.symm, below_drewN (Below.refl _ _) _⟩
  · have X := Lib.hid (show decide (x = y) = false by rw [decide_eq_false_iff_not]; intro e; apply h; rw [← ha.1, ← hb.1, e])
    have k : ((n : Int) != m) = true := by simp; omega
    go_enter Try.func70, Try.ntmps70
    go_wp2
    go_ret
    exact ⟨ret_bR X.out.symm, Below.refl _ _⟩

set_option maxHeartbeats 1000000 in
theorem same_any (W H W2 H2 : Int) (a a2 : Option Addr) (n m c c2 : Nat) (L M : List Int) (w : World) (hn : n ≤ 9223372036854775807) (ha : SlK .u64 w a n L) (hb : SlK .u64 w a2 m M) :
    Calls Try.prog 54 #[.agg #[.int .i64 W, .int .i64 H, .slice a n c], .agg #[.int .i64 W2, .int .i64 H2, .slice a2 m c2]] w fun e w' => e = .returned (.bool (decide (W = W2) && (decide (H = H2) && decide (L = M)))) ∧ Below w.heap.size w w' := by
  have B := (box2 w (.cells #[.int .i64 W, .int .i64 H, .slice a n c] 34) (.cells #[.int .i64 W2, .int .i64 H2, .slice a2 m c2] 34))
  have HA := Lib.hid (ha.below B)
  have HB := Lib.hid (hb.below B)
  clear ha hb
  by_cases h1 : W = W2
  · by_cases h2 : H = H2
    · have X := Lib.hid (show (decide (W = W2) && (decide (H = H2) && decide (L = M))) = decide (L = M) by simp [h1, h2])
      subst h1 h2
      go_enter Try.func54, Try.ntmps54
      go_wp2_with (go_at_call 69; refine (equal_any a a2 n m c c2 L M _ hn HA.out HB.out).mono ?_; rintro e w1 ⟨rfl, hb⟩; replace B := bel_step B hb)
      go_ret
      exact ⟨ret_bR X.out.symm, B⟩
    · have X := Lib.hid (show (decide (W = W2) && (decide (H = H2) && decide (L = M))) = false by simp [h2])
      have k : (H == H2) = false := by simpa using h2
      have k1 : (W == W2) = true := by simpa using h1
      clear h1
      go_enter Try.func54, Try.ntmps54
      go_wp2
      go_ret
      exact ⟨ret_bR X.out.symm, B⟩
  · have X := Lib.hid (show (decide (W = W2) && (decide (H = H2) && decide (L = M))) = false by simp [h1])
    have k : (W == W2) = false := by simpa using h1
    go_enter Try.func54, Try.ntmps54
    go_wp2
    go_ret
    exact ⟨ret_bR X.out.symm, B⟩

set_option maxHeartbeats 1000000 in
theorem refSame_any (W H W2 H2 : Int) (a a2 : Option Addr) (n m c c2 : Nat) (L M : List Int) (w : World) (hn : n ≤ 9223372036854775807) (ha : SlK .u64 w a n L) (hb : SlK .u64 w a2 m M) :
    Calls Try.prog 57 #[.agg #[.int .i64 W, .int .i64 H, .slice a n c], .agg #[.int .i64 W2, .int .i64 H2, .slice a2 m c2]] w fun e w' => e = .returned (.bool (decide (W = W2) && (decide (H = H2) && decide (L = M)))) ∧ Below w.heap.size w w' := by
  have B := (box2 w (.cells #[.int .i64 W, .int .i64 H, .slice a n c] 45) (.cells #[.int .i64 W2, .int .i64 H2, .slice a2 m c2] 45))
  have HA := Lib.hid (ha.below B)
  have HB := Lib.hid (hb.below B)
  clear ha hb
  by_cases h1 : W = W2
  · by_cases h2 : H = H2
    · have X := Lib.hid (show (decide (W = W2) && (decide (H = H2) && decide (L = M))) = decide (L = M) by simp [h1, h2])
      subst h1 h2
      go_enter Try.func57, Try.ntmps57
      go_wp2_with (go_at_call 70; refine (sameRow_any a a2 n m c c2 L M _ hn HA.out HB.out).mono ?_; rintro e w1 ⟨rfl, hb⟩; replace B := bel_step B hb)
      go_ret
      exact ⟨ret_bR X.out.symm, B⟩
    · have X := Lib.hid (show (decide (W = W2) && (decide (H = H2) && decide (L = M))) = false by simp [h2])
      have k : (H == H2) = false := by simpa using h2
      have k1 : (W == W2) = true := by simpa using h1
      clear h1
      go_enter Try.func57, Try.ntmps57
      go_wp2
      go_ret
      exact ⟨ret_bR X.out.symm, B⟩
  · have X := Lib.hid (show (decide (W = W2) && (decide (H = H2) && decide (L = M))) = false by simp [h1])
    have k : (W == W2) = false := by simpa using h1
    go_enter Try.func57, Try.ntmps57
    go_wp2
    go_ret
    exact ⟨ret_bR X.out.symm, B⟩
end Go.Proofs.Ytmlinoanpcbflaa

/- A matrix of noughts, and numbers in memory of the call's own, over any memory. Condition: numbers fit their kinds. -/
namespace Go.Proofs.Ytmlinoanpcbflaa
open Go.RowKit
set_option linter.unusedVariables false

/-- numbers in a block of the call's own -/
def OwnG (base : Nat) (w : World) (g : Nat) (L : List Int) : Prop := base ≤ g ∧ w.heap[g]? = some (.cells (L.map (Value.int .u64)).toArray 23 (0, 0))
theorem OwnG.lt {base g : Nat} {w : World} {L : List Int} (h : OwnG base w g L) : g < w.heap.size := (Array.getElem?_eq_some_iff.1 h.2).1
theorem OwnG.later {base g : Nat} {w w' : World} {L : List Int} (h : OwnG base w g L) (hb : Below w.heap.size w w') : OwnG base w' g L := ⟨h.1, (hb.block g h.lt).trans h.2⟩
theorem OwnG.mono {base base' g : Nat} {w : World} {L : List Int} (h : OwnG base w g L) (hb : base' ≤ base) : OwnG base' w g L := ⟨Nat.le_trans hb h.1, h.2⟩
theorem OwnG.cell {base g : Nat} {w : World} {L : List Int} (h : OwnG base w g L) {i : Nat} (hi : i < L.length) : w.cell? ⟨g, i, none⟩ = some (.int .u64 (L.getD i 0)) := by
  simp [World.cell?, h.2, List.getD_eq_getElem?_getD, List.getElem?_eq_getElem hi]
theorem OwnG.sl {base g : Nat} {w : World} {L : List Int} (h : OwnG base w g L) : SlK .u64 w (some ⟨g, 0, none⟩) L.length L := by
  refine ⟨rfl, .inr ⟨g, 0, rfl, fun i hi => ?_⟩⟩
  rw [Nat.zero_add]; exact h.cell hi
theorem OwnG.own {base g : Nat} {w : World} {L : List Int} (h : OwnG base w g L) : OwnK .u64 base w (some ⟨g, 0, none⟩) L :=
  .inr ⟨g, rfl, h.1, h.lt, fun i hi => h.cell hi, fun i => by simp [World.frozen?, h.2]⟩
theorem heapNew (w : World) (o : Obj) : (w.alloc o).heap[w.heap.size]? = some o := World.alloc_heap_new w o
theorem heapOld (w : World) (o : Obj) {g : Nat} {x : Obj} (h : w.heap[g]? = some x) : (w.alloc o).heap[g]? = some x := by
  rw [Below.heap_alloc w o g (Array.getElem?_eq_some_iff.1 h).1]; exact h
theorem heapSet (w : World) (a : Addr) (v : Value) {g : Nat} {x : Obj} (h : w.heap[g]? = some x) (hne : g ≠ a.block) : (w.setCell a v).heap[g]? = some x := by
  rw [Below.heap_setCell w a v g hne]; exact h
theorem Try.info_px : (Try.prog.info? 23).map (fun i => (i.zero, i.size, i.bytes)) = some (some (.int .u64 0), 1, 8) := by kernel_rfl
theorem made_noughts (n : Nat) : madeCells #[Value.int .u64 0] n = ((List.replicate n (0 : Int)).map (Value.int .u64)).toArray := by
  apply Array.ext
  · simp [madeCells]
  · intro i h1 h2
    simp [madeCells, Nat.mod_one]

set_option maxHeartbeats 1000000 in
theorem new_any (a b : Int) (w : World) (hs : Rc.sized a b = true) :
    Calls Try.prog 84 #[.int .i64 a, .int .i64 b] w fun e w' => ∃ g, e = .returned (.tuple #[.agg #[.int .i64 a, .int .i64 b, .slice (some ⟨g, 0, none⟩) (b.toNat * a.toNat) (b.toNat * a.toNat)], .int .i64 0]) ∧ OwnG w.heap.size w' g (List.replicate (b.toNat * a.toNat) 0) ∧ Below w.heap.size w w' := by
  obtain ⟨h1, h2, h3, h4, h5⟩ := Rc.sized_iff.1 hs
  obtain ⟨n, hn⟩ : ∃ n, b.toNat * a.toNat = n := ⟨_, rfl⟩
  have e : a * b = (n : Int) := by rw [← hn, Int.natCast_mul, Int.toNat_of_nonneg (by omega), Int.toNat_of_nonneg (by omega), Int.mul_comm]
  have e1 : wrap64 (a * b) = (n : Int) := by rw [e, IntWalk.wrap64_in] <;> omega
  rw [hn]
  clear hn
  rw [e] at h5
  clear e
  have hmk := run_make_row' (P := Try.prog) 32 23 (.int .u64 0) 8 Try.underlying32 Try.info_px rfl .i64 .i64 n (by omega) (by omega)
  rw [made_noughts] at hmk
  have hl : n ≤ 16777216 := by omega
  obtain ⟨cs, hcs⟩ : ∃ cs, ((List.replicate n (0 : Int)).map (Value.int .u64)).toArray = cs := ⟨_, rfl⟩
  rw [hcs] at hmk
  have HCS := Lib.hid hcs
  clear hcs h5 h1 h2 h3 h4
  go_enter Try.func84, Try.ntmps84
  go_wp2_with (go_at_call 64; refine (mayMeasure_any a b _).mono ?_; rw [hs]; rintro e w1 ⟨rfl, rfl⟩)
  go_returns
  refine ⟨_, rfl, ⟨?_, ?_⟩, by go_grown⟩
  · omega
  · rw [HCS.out]
    repeat (refine heapSet _ _ _ ?_ (by simp))
    simpa using heapNew (w.alloc (.cells #[.int .i64 a, .int .i64 b, .slice (some ⟨w.heap.size + 1, 0, none⟩) n n] 34)) (.cells cs 23)
theorem ownG_len {w : World} {base g n : Nat} {L : List Int} (h : OwnG base w g L) (hn : L.length = n) : SlK .u64 w (some ⟨g, 0, none⟩) n L := by rw [← hn]; exact h.sl
theorem new_no (a b : Int) (w : World) (hs : Rc.sized a b = false) :
    Calls Try.prog 84 #[.int .i64 a, .int .i64 b] w fun e w' => e = .returned (.tuple #[.agg #[.int .i64 0, .int .i64 0, .slice none 0 0], .int .i64 1]) ∧ Below w.heap.size w w' := by
  go_enter Try.func84, Try.ntmps84
  go_wp2_with (go_at_call 64; refine (mayMeasure_any a b _).mono ?_; rw [hs]; rintro e w1 ⟨rfl, rfl⟩)
  go_returns
  exact ⟨rfl, by go_grown⟩
end Go.Proofs.Ytmlinoanpcbflaa

/- A struct of three cells in a block of the call's own, as a result too; a row that is copied into one. No condition. -/
namespace Go.Proofs.Ytmlinoanpcbflaa
open Go.RowKit
set_option linter.unusedVariables false

/-- three cells in a block of the call's own -/
def Sb (w : World) (b : Nat) (t : TypeId) (u v x : Value) : Prop := w.heap[b]? = some (.cells #[u, v, x] t (0, 0))
section
variable {w w' : World} {b : Nat} {t : TypeId} {u v x : Value}
theorem Sb.lt (h : Sb w b t u v x) : b < w.heap.size := (Array.getElem?_eq_some_iff.1 h).1
theorem Sb.later (h : Sb w b t u v x) (hb : Below w.heap.size w w') : Sb w' b t u v x := (hb.block b h.lt).trans h
theorem Sb.row (h : Sb w b t u v x) {g : Nat} (cs : Array Value) (hne : b ≠ g) : Sb (w.setRow g cs) b t u v x := (setRow_other w g b cs hne).trans h
theorem Sb.cells (h : Sb w b t u v x) : w.cell? ⟨b, 0, none⟩ = some u ∧ w.cell? ⟨b, 1, none⟩ = some v ∧ w.cell? ⟨b, 2, none⟩ = some x := by
  have h' : w.heap[b]? = _ := h
  refine ⟨?_, ?_, ?_⟩ <;> simp [World.cell?, h']
theorem Sb.fr (h : Sb w b t u v x) : w.frozen? ⟨b, 0, none⟩ = false ∧ w.frozen? ⟨b, 1, none⟩ = false ∧ w.frozen? ⟨b, 2, none⟩ = false := by
  have h' : w.heap[b]? = _ := h
  refine ⟨?_, ?_, ?_⟩ <;> simp [World.frozen?, h']
theorem Sb.new (w : World) (t : TypeId) (u v x : Value) : Sb (w.alloc (.cells #[u, v, x] t)) w.heap.size t u v x := World.alloc_heap_new w _
theorem Sb.alloc (h : Sb w b t u v x) (o : Obj) : Sb (w.alloc o) b t u v x := heapOld w o h
theorem Sb.put (h : Sb w b t u v x) (u' v' x' : Value) : Sb (((w.setCell ⟨b, 0, none⟩ u').setCell ⟨b, 1, none⟩ v').setCell ⟨b, 2, none⟩ x') b t u' v' x' := by
  have h' : w.heap[b]? = _ := h
  have h1 := Go.heap_setCell_same w b 0 _ t u' h'
  have h2 := Go.heap_setCell_same _ b 1 _ t v' h1
  have h3 := Go.heap_setCell_same _ b 2 _ t x' h2
  simpa [Sb] using h3
theorem Sb.set (h : Sb w b t u v x) (a : Addr) (y : Value) (hne : b ≠ a.block) : Sb (w.setCell a y) b t u v x := heapSet w a y h hne
theorem Sb.drew (h : Sb w b t u v x) : Sb w.drew b t u v x := h
theorem OwnG.drew {base g : Nat} {L : List Int} (h : OwnG base w g L) : OwnG base w.drew g L := h
theorem OwnG.set {base g : Nat} {L : List Int} (h : OwnG base w g L) (a : Addr) (y : Value) (hne : g ≠ a.block) : OwnG base (w.setCell a y) g L := ⟨h.1, heapSet w a y h.2 hne⟩
theorem OwnG.alloc {base g : Nat} {L : List Int} (h : OwnG base w g L) (o : Obj) : OwnG base (w.alloc o) g L := ⟨h.1, heapOld w o h.2⟩
end
theorem load_mt {w : World} {b : Nat} {t : TypeId} {u v x : Value} (h : Sb w b t u v x) : (loadVar 34 ⟨b, 0, none⟩).run Try.prog w = .ok (.agg #[u, v, x]) w := by
  obtain ⟨h0, h1, h2⟩ := h.cells
  simp [go_sem, h0, h1, h2]
theorem load_m {w : World} {b : Nat} {t : TypeId} {u v x : Value} (h : Sb w b t u v x) : (loadVar 45 ⟨b, 0, none⟩).run Try.prog w = .ok (.agg #[u, v, x]) w := by
  obtain ⟨h0, h1, h2⟩ := h.cells
  simp [go_sem, h0, h1, h2]
theorem ret_cell1 {P : Program} {fn : Func} {p : Tmp} {ty : TypeId} (h : fn.results = #[.cell p ty]) (tmps : Array Value) (w : World) (b : Nat) (val : Value) (hp : tmps.getD p undef = .pointer (some ⟨b, 0, none⟩)) (hl : (loadVar ty ⟨b, 0, none⟩).run P w = .ok val w) :
    (results fn tmps).run P w = .ok val w := by
  have hp' : tmps[p]?.getD undef = .pointer (some ⟨b, 0, none⟩) := by simpa using hp
  simp only [results, h]
  simp [hp', asAddr, hl]
theorem ret_cell2 {P : Program} {fn : Func} {p u : Tmp} {ty : TypeId} (h : fn.results = #[.cell p ty, .tmp u]) (tmps : Array Value) (w : World) (b : Nat) (val : Value) (hp : tmps.getD p undef = .pointer (some ⟨b, 0, none⟩)) (hl : (loadVar ty ⟨b, 0, none⟩).run P w = .ok val w) :
    (results fn tmps).run P w = .ok (.tuple #[val, tmps.getD u undef]) w := by
  rw [results_cell_tmp h, hp]
  simp [asAddr, Result.andThen, hl]
theorem step_copy_row {P : Program} {ops : Array Oper} {o : Oper} {a : Act} {w : World} {K : Act → World → Prop} {Q : Exit → Act → World → Prop} {E : Prop} (hgd : o.guard = none) (d s : Operand) (dT sT : TypeId)
    (ho : o.op = .call { callee := .builtin .copy, args := #[d, s], argTypes := #[dT, sT] }) (elem : TypeId) (hu : P.underlying dT = some (.slice elem)) (hsz : (P.info? elem).map (·.size) = some 1)
    (g off dLen dCap : Nat) (ad : Addr) (sLen sCap : Nat) (hd : a.eval d = .slice (some ⟨g, off, none⟩) dLen dCap) (hs : a.eval s = .slice (some ad) sLen sCap)
    (cur : List Value) (t : TypeId) (hg : w.heap[g]? = some (.cells cur.toArray t (0, 0))) (cs : List Value) (hn : cs.length = Nat.min sLen dLen)
    (hsrc : ∀ j v, cs[j]? = some v → w.cell? (ad.add j) = some v) (hfit : off + cs.length ≤ cur.length) (h1 : ∀ v ∈ cs, v.oneCell' = true)
    (h : ∀ v9 : Value, K (a.put o.dst v9) (w.setRow g (splice cur off cs).toArray)) :
    if Region.wanted o (yielded ops a.tmps) = true then Oper.wp P o a w K Q else E := by
  have hw : Region.wanted o (yielded ops a.tmps) = true := by simp [Region.wanted, hgd]
  rw [if_pos hw]
  have hrun := run_copy_row (P := P) w dT sT o.type elem g off dLen dCap ad sLen sCap cur.toArray t cs hu hsz hg hn hsrc (by simpa using hfit) h1
  unfold Oper.wp
  simp [execOp, ho, resolve, invoke, builtin, hd, hs, hrun, Result.andThen]
  have h' := h (goInt cs.length)
  unfold splice at h'
  exact h'
theorem Try.size_px : (Try.prog.info? 23).map (·.size) = some 1 := by kernel_rfl
theorem ownG_row {base g : Nat} {w : World} {L : List Int} (h : OwnG base w g L) (off : Nat) (cs : List Int) : OwnG base (w.setRow g (splice (L.map (Value.int .u64)) off (cs.map (Value.int .u64))).toArray) g (splice L off cs) := by
  refine ⟨h.1, ?_⟩
  rw [setRow_heap w g _ _ _ _ h.2]
  simp [splice]
theorem Rc.rows_noughts {f : Nat → List Int} (m : Nat) : ∀ n, Rc.rowsOf (fun j => if j < 0 then f j else List.replicate m 0) n = List.replicate (n * m) 0
  | 0 => by simp [Rc.rowsOf_zero]
  | n + 1 => by rw [Rc.rowsOf_succ, Rc.rows_noughts m n]; simp [Nat.succ_mul, List.replicate_append_replicate]
theorem one_px (zs : List Int) : ∀ u ∈ zs.map (Value.int .u64), u.oneCell' = true := by
  intro u hu
  obtain ⟨y, _, rfl⟩ := List.mem_map.1 hu
  rfl
/-- the numbers of a row that is cut out, as a copy's source -/
theorem cut_src {w : World} {b off p m : Nat} {L : List Int} (h : ∀ i, i < L.length → w.cell? ⟨b, off + i, none⟩ = some (.int .u64 (L.getD i 0))) (hp : p + m ≤ L.length) :
    ∀ j v, (((L.drop p).take m).map (Value.int .u64))[j]? = some v → w.cell? ((⟨b, off + p, none⟩ : Addr).add j) = some v := by
  intro j v hv
  rw [List.getElem?_map, List.getElem?_take] at hv
  split at hv
  · rename_i hj
    rw [List.getElem?_drop, List.getElem?_eq_getElem (by omega)] at hv
    simp at hv; subst hv
    rw [addrK_add, Nat.add_assoc, h (p + j) (by omega), List.getD_eq_getElem?_getD, List.getElem?_eq_getElem (by omega)]; rfl
  · simp at hv

end Go.Proofs.Ytmlinoanpcbflaa

/- A part of a matrix, in memory of the call's own. Condition: numbers fit their kinds. -/
namespace Go.Proofs.Ytmlinoanpcbflaa
open Go.RowKit
end Go.Proofs.Ytmlinoanpcbflaa

/- A part of a matrix, its rows, its columns, whatever places are told. Condition: numbers fit their kinds. -/
namespace Go.Proofs.Ytmlinoanpcbflaa
open Go.RowKit
set_option linter.unusedVariables false

theorem zero_mt (w : World) (o : Obj) : Sb ((w.alloc o).alloc (.cells #[.int .i64 0, .int .i64 0, .slice none 0 0] 34)) (w.heap.size + 1) 34 (.int .i64 0) (.int .i64 0) (.slice none 0 0) := by
  simpa using Sb.new (w.alloc o) 34 (.int .i64 0) (.int .i64 0) (.slice none 0 0)
/-- what a call hands back that makes a matrix -/
def MatR (base : Nat) (w' : World) (e : Ending) (S : Int × Int × List Int) (tail : List Value) : Prop :=
  ∃ a c, e = .returned (.tuple ((.agg #[.int .i64 S.1, .int .i64 S.2.1, .slice a S.2.2.length c]) :: tail).toArray) ∧ OwnK .u64 base w' a S.2.2 ∧ S.2.2.length ≤ c ∧ c ≤ 9223372036854775807
def rowV (W H : Int) (L : List Int) (y : Int) : List Int := (Rc.subV W H L 0 y W 1).2.2.1
def colV (W H : Int) (L : List Int) (x : Int) : List Int := (Rc.subV W H L x 0 1 H).2.2.1
end Go.Proofs.Ytmlinoanpcbflaa

/- Where a matrix stands in another one, by the program's own search. Condition: the places lie within. -/
namespace Go.Proofs.Ytmlinoanpcbflaa
open Go.RowKit
set_option linter.unusedVariables false

/-- places as cells, two a place -/
def pairs (F : List (Int × Int)) : List Value := F.flatMap fun p => [.int .i64 p.1, .int .i64 p.2]
theorem pairs_length : ∀ F, (pairs F).length = F.length * 2
  | [] => rfl
  | p :: F => by simp only [pairs, List.flatMap_cons, List.length_append, List.length_cons, List.length_nil] at *; have := pairs_length F; simp only [pairs] at this; rw [this]; omega
theorem pairs_append (F G : List (Int × Int)) : pairs (F ++ G) = pairs F ++ pairs G := by simp [pairs]
theorem pairs_one (x y : Int) : pairs [(x, y)] = [.int .i64 x, .int .i64 y] := rfl
theorem pair_new (w : World) (t : TypeId) (x y : Int) : ∀ j u, [Value.int .i64 x, .int .i64 y][j]? = some u → (w.alloc (.cells #[.int .i64 x, .int .i64 y] t)).cell? ((⟨w.heap.size, 0, none⟩ : Addr).add j) = some u := by
  intro j u hu
  rw [addrK_add, Nat.zero_add]
  rw [World.cell?_alloc_at _ _ _ _ rfl]
  simpa using hu
theorem one_pair (x y : Int) : ∀ u ∈ [Value.int .i64 x, .int .i64 y], u.oneCell' = true := by
  intro u hu; simp at hu; rcases hu with rfl | rfl <;> rfl
/-- two cells in a block of the call's own -/
def Pc (w : World) (b : Nat) (t : TypeId) (x y : Int) : Prop := w.heap[b]? = some (.cells #[.int .i64 x, .int .i64 y] t (0, 0))
theorem Pc.cells {w : World} {b : Nat} {t : TypeId} {x y : Int} (h : Pc w b t x y) : w.cell? ⟨b, 0, none⟩ = some (.int .i64 x) ∧ w.cell? ⟨b, 1, none⟩ = some (.int .i64 y) := by
  have h' : w.heap[b]? = _ := h
  refine ⟨?_, ?_⟩ <;> simp [World.cell?, h']
theorem Sb.below {w w' : World} {b B : Nat} {t : TypeId} {u v x : Value} (h : Sb w b t u v x) (hb : Below B w w') (hlt : b < B) : Sb w' b t u v x := (hb.block b hlt).trans h
theorem Pc.below {w w' : World} {b B : Nat} {t : TypeId} {x y : Int} (h : Pc w b t x y) (hb : Below B w w') (hlt : b < B) : Pc w' b t x y := (hb.block b hlt).trans h
theorem slk_cut {w : World} {b off p m : Nat} {L : List Int} (h : ∀ i, i < L.length → w.cell? ⟨b, off + i, none⟩ = some (.int .u64 (L.getD i 0))) (hp : p + m ≤ L.length) : SlK .u64 w (some ⟨b, off + p, none⟩) m ((L.drop p).take m) := by
  refine ⟨by rw [List.length_take, List.length_drop]; omega, .inr ⟨b, off + p, rfl, fun i hi => ?_⟩⟩
  rw [Nat.add_assoc, h (p + i) (by omega), List.getD_eq_getElem?_getD, List.getD_eq_getElem?_getD, List.getElem?_take_of_lt hi, List.getElem?_drop]
/-- what stands through all rounds of a search -/
structure SF (w wr : World) (t s : TypeId) (u1 v1 x1 u2 v2 x2 : Value) (fx fy lx ly : Int) : Prop where
  bel : Below w.heap.size w wr
  m : Sb wr w.heap.size t u1 v1 x1
  o : Sb wr (w.heap.size + 1) t u2 v2 x2
  lo : Pc wr (w.heap.size + 1 + 1) s fx fy
  hi : Pc wr (w.heap.size + 1 + 1 + 1) s lx ly
  size : w.heap.size + 4 ≤ wr.heap.size
theorem SF.later {w wr w' : World} {t s : TypeId} {u1 v1 x1 u2 v2 x2 : Value} {fx fy lx ly : Int} (h : SF w wr t s u1 v1 x1 u2 v2 x2 fx fy lx ly) (hb : Below (w.heap.size + 4) wr w') : SF w w' t s u1 v1 x1 u2 v2 x2 fx fy lx ly :=
  ⟨h.bel.trans (hb.mono (by omega)), h.m.below hb (by omega), h.o.below hb (by omega), h.lo.below hb (by omega), h.hi.below hb (by omega), Nat.le_trans h.size hb.size⟩
theorem flat_succ {α : Type} (f : Nat → List α) (n : Nat) : (List.range (n + 1)).flatMap f = (List.range n).flatMap f ++ f n := by rw [List.range_succ, List.flatMap_append]; simp
/-- how many places at most -/
theorem flat_le {n : Nat} {f : Nat → List (Int × Int)} {m : Nat} (h : ∀ k, (f k).length ≤ m) : ((List.range n).flatMap f).length ≤ n * m := by
  induction n with
  | zero => simp
  | succ n ih => rw [flat_succ, List.length_append, Nat.succ_mul]; have := h n; omega
/-- row j of a search, its first i places -/
def sRow (L : List Int) (W w h : Int) (M : List Int) (fx fy : Int) (j i : Nat) : List (Int × Int) :=
  (List.range i).flatMap fun (i : Nat) => if Rc.eqAt L W w h M (fx + i) (fy + j) = true then [(fx + i, fy + j)] else []
theorem sRow_le (L : List Int) (W w h : Int) (M : List Int) (fx fy : Int) (j i : Nat) : (sRow L W w h M fx fy j i).length ≤ i := by
  have := flat_le (n := i) (f := fun (i : Nat) => if Rc.eqAt L W w h M (fx + i) (fy + j) = true then [(fx + i, fy + j)] else []) (m := 1) (fun k => by split <;> simp)
  simpa [sRow] using this
theorem sRow_yes {L : List Int} {W w h : Int} {M : List Int} {fx fy : Int} {j i : Nat} (e : Rc.eqAt L W w h M (fx + i) (fy + j) = true) : sRow L W w h M fx fy j (i + 1) = sRow L W w h M fx fy j i ++ [(fx + i, fy + j)] := by
  unfold sRow; rw [flat_succ]; simp [e]
theorem sRow_no {L : List Int} {W w h : Int} {M : List Int} {fx fy : Int} {j i : Nat} (e : Rc.eqAt L W w h M (fx + i) (fy + j) = false) : sRow L W w h M fx fy j (i + 1) = sRow L W w h M fx fy j i := by
  unfold sRow; rw [flat_succ]; simp [e]
def sRows (L : List Int) (W w h : Int) (M : List Int) (fx fy : Int) (nx j : Nat) : List (Int × Int) := (List.range j).flatMap fun j => sRow L W w h M fx fy j nx
theorem sRows_eq (L : List Int) (W w h : Int) (M : List Int) (fx fy : Int) (nx ny : Nat) : Rc.searchV L W w h M fx fy nx ny = sRows L W w h M fx fy nx ny := rfl
theorem sRows_le (L : List Int) (W w h : Int) (M : List Int) (fx fy : Int) (nx j : Nat) : (sRows L W w h M fx fy nx j).length ≤ j * nx := flat_le (fun k => sRow_le ..)

theorem ownsRow_later {w w' : World} {base size n : Nat} {e : TypeId} {v : Value} {xs : List Value} (h : w.ownsRow base e size v n xs) (hb : Below w.heap.size w w') : w'.ownsRow base e size v n xs := by
  obtain ⟨h1, h2⟩ := h
  refine ⟨h1, ?_⟩
  rcases h2 with h2 | ⟨g, cap, cur, rfl, hbs, hg, r⟩
  · exact .inl h2
  · exact .inr ⟨g, cap, cur, rfl, hbs, (hb.block g (Array.getElem?_eq_some_iff.1 hg).1).trans hg, r⟩
end Go.Proofs.Ytmlinoanpcbflaa

/- Whether, and where, a matrix stands in another one, by the program. Condition: both may be. -/
namespace Go.Proofs.Ytmlinoanpcbflaa
open Go.RowKit
set_option linter.unusedVariables false

theorem ownsRow_val {w : World} {base size n : Nat} {e : TypeId} {v : Value} {xs : List Value} (h : w.ownsRow base e size v n xs) : ∃ ad cap, v = .slice ad n cap := by
  rcases h.2 with ⟨rfl, rfl⟩ | ⟨g, cap, cur, rfl, _⟩
  · exact ⟨_, _, rfl⟩
  · exact ⟨_, _, rfl⟩
end Go.Proofs.Ytmlinoanpcbflaa

/- A matrix of rows, by the program. Condition: rows' lengths fit an int. -/
namespace Go.Proofs.Ytmlinoanpcbflaa
open Go.RowKit
set_option linter.unusedVariables false

/-- what is known of a slice of slices of integers -/
def RowsK (w : World) (a : Option Addr) (n : Nat) (R : List (List Int)) : Prop :=
  R.length = n ∧ (n = 0 ∨ ∃ b off, a = some ⟨b, off, none⟩ ∧ ∀ i, i < n → ∃ ai ci, w.cell? ⟨b, off + i, none⟩ = some (.slice ai (R.getD i []).length ci) ∧ SlK .u64 w ai (R.getD i []).length (R.getD i []))
theorem RowsK.later {w w' : World} {a : Option Addr} {n : Nat} {R : List (List Int)} (h : RowsK w a n R) (hb : Below w.heap.size w w') : RowsK w' a n R := by
  obtain ⟨h1, h2⟩ := h
  refine ⟨h1, ?_⟩
  rcases h2 with h2 | ⟨b, off, ha, hc⟩
  · exact .inl h2
  · refine .inr ⟨b, off, ha, fun i hi => ?_⟩
    obtain ⟨ai, ci, k1, k2⟩ := hc i hi
    exact ⟨ai, ci, cell_later hb k1, k2.below hb⟩
/-- how long all rows are: 0, if they are not as long all -/
def lenV (R : List (List Int)) : Nat := if ∀ i, i < R.length → (R.getD i []).length = (R.getD 0 []).length then (R.getD 0 []).length else 0
theorem lenV_yes {R : List (List Int)} (h : ∀ i, i < R.length → (R.getD i []).length = (R.getD 0 []).length) : lenV R = (R.getD 0 []).length := if_pos h
theorem lenV_no {R : List (List Int)} {i : Nat} (hi : i < R.length) (h : (R.getD i []).length ≠ (R.getD 0 []).length) : lenV R = 0 := if_neg fun k => h (k i hi)
theorem lenV_all {R : List (List Int)} (h : lenV R ≠ 0) : ∀ i, i < R.length → (R.getD i []).length = lenV R := by
  by_cases k : ∀ i, i < R.length → (R.getD i []).length = (R.getD 0 []).length
  · rw [lenV_yes k]; exact k
  · exact absurd (if_neg k) h
def ofV (R : List (List Int)) : Int × Int × List Int × Int := if Rc.sized (lenV R) R.length = true then ((lenV R : Int), (R.length : Int), Rc.rowsOf (fun k => R.getD k []) R.length, 0) else (0, 0, [], 1)
theorem ret_n {a b : Nat} (h : a = b) : Ending.returned (.int .i64 (a : Int)) = .returned (.int .i64 (b : Int)) := by rw [h]

end Go.Proofs.Ytmlinoanpcbflaa

/- A matrix of rows, by the program, and its example. Condition: rows' lengths fit an int. -/
namespace Go.Proofs.Ytmlinoanpcbflaa
open Go.RowKit
set_option linter.unusedVariables false

theorem slk_src {w : World} {a : Option Addr} {n : Nat} {zs : List Int} (h : SlK .u64 w a n zs) (hn : 0 < n) : ∃ ad, a = some ad ∧ ∀ j v, (zs.map (Value.int .u64))[j]? = some v → w.cell? (ad.add j) = some v := by
  obtain ⟨b, off, rfl, hc⟩ := slk_pos h hn
  refine ⟨_, rfl, fun j v hv => ?_⟩
  rw [List.getElem?_map] at hv
  rcases Nat.lt_or_ge j zs.length with hj | hj
  · rw [List.getElem?_eq_getElem hj] at hv
    rw [addrK_add, hc j (by rw [← h.1]; exact hj), ← hv, List.getD_eq_getElem?_getD, List.getElem?_eq_getElem hj]; rfl
  · rw [List.getElem?_eq_none hj] at hv; cases hv
theorem wpList_copy_row {P : Program} {w : World} {ops : Array Oper} {rest : List Oper} {o : Oper} {a : Act} {Q : Exit → Act → World → Prop} (hgd : o.guard = none) (d s : Operand) (dT sT : TypeId)
    (ho : o.op = .call { callee := .builtin .copy, args := #[d, s], argTypes := #[dT, sT] }) (elem : TypeId) (hu : P.underlying dT = some (.slice elem)) (hsz : (P.info? elem).map (·.size) = some 1)
    (g off dLen dCap : Nat) (ad : Addr) (sLen sCap : Nat) (hd : a.eval d = .slice (some ⟨g, off, none⟩) dLen dCap) (hs : a.eval s = .slice (some ad) sLen sCap)
    (cur : List Value) (t : TypeId) (hg : w.heap[g]? = some (.cells cur.toArray t (0, 0))) (cs : List Value) (hn : cs.length = Nat.min sLen dLen)
    (hsrc : ∀ j v, cs[j]? = some v → w.cell? (ad.add j) = some v) (hfit : off + cs.length ≤ cur.length) (h1 : ∀ v ∈ cs, v.oneCell' = true)
    (h : ∀ v9, wpList P ops Q rest (a.put o.dst v9) (w.setRow g (splice cur off cs).toArray)) : wpList P ops Q (o :: rest) a w := by
  refine wpList_copy_own hgd d s dT sT ho elem hu hsz g off dLen dCap ad sLen sCap hd hs cur.toArray t hg cs hn hsrc (by simpa using hfit) h1 ?_
  have h' := h (goInt cs.length)
  unfold splice at h'
  exact h'
theorem zero_mt1 (w : World) : Sb (w.alloc (.cells #[.int .i64 0, .int .i64 0, .slice none 0 0] 34)) w.heap.size 34 (.int .i64 0) (.int .i64 0) (.slice none 0 0) := Sb.new _ _ _ _ _
end Go.Proofs.Ytmlinoanpcbflaa

/- The chapter's example, over any memory. No condition. -/
namespace Go.Proofs.Ytmlinoanpcbflaa
open Go.RowKit
set_option linter.unusedVariables false

theorem pairs_cells {w : World} {base : Nat} {e : TypeId} {g cap : Nat} {F : List (Int × Int)} (h : w.ownsRow base e 2 (.slice (some ⟨g, 0, none⟩) F.length cap) F.length (pairs F)) {i : Nat} (hi : i < F.length) :
    w.cell? ⟨g, i * 2, none⟩ = some (.int .i64 (F.getD i (0, 0)).1) ∧ w.cell? ⟨g, i * 2 + 1, none⟩ = some (.int .i64 (F.getD i (0, 0)).2) := by
  have hp : ∀ (F : List (Int × Int)) (i : Nat), i < F.length → (pairs F)[i * 2]? = some (.int .i64 (F.getD i (0, 0)).1) ∧ (pairs F)[i * 2 + 1]? = some (.int .i64 (F.getD i (0, 0)).2) := by
    intro F
    induction F with
    | nil => intro i hi; simp at hi
    | cons p F ih =>
      intro i hi
      cases i with
      | zero => simp [pairs]
      | succ i =>
        have := ih i (by simpa using hi)
        simp only [pairs, List.flatMap_cons] at this ⊢
        rw [show (i + 1) * 2 = i * 2 + 2 by omega, show i * 2 + 2 + 1 = (i * 2 + 1) + 2 by omega]
        simpa using this
  obtain ⟨p1, p2⟩ := hp F i hi
  exact ⟨by rw [h.cellAt _ (by omega), p1], by rw [h.cellAt _ (by omega), p2]⟩
theorem ownsRow_pos {W : World} {base : Nat} {e : TypeId} {size : Nat} {v : Value} {k : Nat} {xs : List Value} (h : W.ownsRow base e size v k xs) (hk : 0 < k) : ∃ g cap, v = .slice (some ⟨g, 0, none⟩) k cap := by
  rcases h.2 with ⟨_, h0⟩ | ⟨g, cap, _, rfl, _⟩
  · omega
  · exact ⟨g, cap, rfl⟩
end Go.Proofs.Ytmlinoanpcbflaa

/- A struct's slice that grows, the struct in a block of the call's own. No condition. -/
namespace Go.Proofs.Ytmlinoanpcbflaa
open Go.RowKit
set_option linter.unusedVariables false

theorem Sb.setL {w : World} {b : Nat} {t : TypeId} {u v x : Value} (h : Sb w b t u v x) (y : Value) : Sb (w.setCell ⟨b, 2, none⟩ y) b t u v y := by
  have h' : w.heap[b]? = _ := h
  have h1 := Go.heap_setCell_same w b 2 _ t y h'
  simpa [Sb] using h1
theorem ownsRow_set {w : World} {base size n : Nat} {e : TypeId} {v : Value} {xs : List Value} (h : w.ownsRow base e size v n xs) {a : Addr} (ha : a.block < base) (y : Value) : (w.setCell a y).ownsRow base e size v n xs := by
  obtain ⟨h1, h2⟩ := h
  refine ⟨h1, ?_⟩
  rcases h2 with h2 | ⟨g, cap, cur, rfl, hbs, hg, r⟩
  · exact .inl h2
  · exact .inr ⟨g, cap, cur, rfl, hbs, heapSet w a y hg (by omega), r⟩
theorem pushL0 {W w1 : World} {b base : Nat} {T e : TypeId} {u1 u2 v v' : Value} {k m size : Nat} {xs ys : List Value}
    (hbox : Sb W b T u1 u2 v) (hrow : W.ownsRow base e size v k xs) (hlt : b < base) (hsz : base ≤ W.heap.size) (hown' : w1.ownsRow base e size v' m ys) (hgrow : W.grownBy w1 v.ownBlock) :
    Sb w1 b T u1 u2 v ∧ Sb (w1.setCell ⟨b, 2, none⟩ v') b T u1 u2 v' ∧ (w1.setCell ⟨b, 2, none⟩ v').ownsRow base e size v' m ys ∧ (∀ B, B ≤ b → Below B W (w1.setCell ⟨b, 2, none⟩ v')) ∧ base ≤ (w1.setCell ⟨b, 2, none⟩ v').heap.size := by
  have hb : ∀ j, v.ownBlock = some j → base ≤ j := fun j ej => (hrow.lt j ej).1
  have hBe : Below base W w1 := (Below.refl base W).grown hgrow hsz hb
  have h1 : Sb w1 b T u1 u2 v := hbox.below hBe hlt
  refine ⟨h1, h1.setL v', ownsRow_set hown' hlt v', fun B hB => (hBe.mono (by omega)).setCell hB v', ?_⟩
  have := hBe.size
  simp; omega
theorem pushL {W w1 : World} {b base : Nat} {T e : TypeId} {u1 u2 v v' : Value} {k m size : Nat} {xs ys : List Value} {tmp : Obj}
    (hbox : Sb W b T u1 u2 v) (hrow : W.ownsRow base e size v k xs) (hlt : b < base) (hsz : base ≤ W.heap.size) (hown' : w1.ownsRow base e size v' m ys) (hgrow : (W.alloc tmp).grownBy w1 v.ownBlock) :
    Sb w1 b T u1 u2 v ∧ Sb (w1.setCell ⟨b, 2, none⟩ v') b T u1 u2 v' ∧ (w1.setCell ⟨b, 2, none⟩ v').ownsRow base e size v' m ys ∧ (∀ B, B ≤ b → Below B W (w1.setCell ⟨b, 2, none⟩ v')) ∧ base ≤ (w1.setCell ⟨b, 2, none⟩ v').heap.size := by
  obtain ⟨h1, h2, h3, h4, h5⟩ := pushL0 (hbox.alloc tmp) (hrow.alloc tmp) hlt (by simp; omega) hown' hgrow
  exact ⟨h1, h2, h3, fun B hB => ((Below.refl B W).alloc (by omega) tmp).trans (h4 B hB), h5⟩
theorem bel_drewN {B : Nat} {a w : World} (h : Below B a w) (n : Nat) : Below B a (w.drewN n) := ⟨h.os, h.tape, h.output, h.size, h.block⟩
end Go.Proofs.Ytmlinoanpcbflaa

/- A matrix that may be, made of any, by the document. Condition: numbers fit their kinds. -/
namespace Go.Proofs.Ytmlinoanpcbflaa
open Go.RowKit
set_option linter.unusedVariables false

theorem i64_of {n : Int} (h : (Lit.int .i64 n).wf = true) : I64 n := wfI h
theorem around_i {n m : Int} (h : I64 n) (hm : 0 < m) (hm2 : m ≤ 9223372036854775807) (w : World) :
    Calls Try.prog 7 #[.int .i64 n, .int .i64 m] w fun e w' => e = .returned (.int .i64 (Ar.around n m)) ∧ w = w' := aroundOf n m h.1 h.2 hm hm2 w
theorem Pc.lt {w : World} {b : Nat} {t : TypeId} {x y : Int} (h : Pc w b t x y) : b < w.heap.size := (Array.getElem?_eq_some_iff.1 h).1
theorem bel_draw {wr X w9 : World} (hb : Below X.heap.size X w9) (h1 : X.heap = wr.heap) (h2 : X.os = wr.os) (h3 : X.tape = wr.tape) (h4 : X.output = wr.output) : Below wr.heap.size wr w9 :=
  ⟨hb.os.trans h2, hb.tape.trans h3, hb.output.trans h4, by have := hb.size; rw [h1] at this; exact this, fun k hk => by rw [hb.block k (by rw [h1]; exact hk), h1]⟩
theorem size_drewN' (w : World) (n : Nat) : (w.drewN n).heap.size = w.heap.size := rfl
theorem quiet_one {P : Program} {f : FuncId} {args : Array Value} {w : World} {n : Nat} {v : Value} (h : ∀ W : World, Calls P f args W fun e w' => e = .returned v ∧ W = w') :
    Calls P f args (w.drewN n) fun e w'' => e = .returned v ∧ ∃ m, w'' = w.drewN m := (h _).mono fun _ _ ⟨he, hw⟩ => ⟨he, n, hw.symm⟩
/-- the i-th number of a matrix made of others -/
def goodAt (zs : List Int) (i : Nat) : Int := if zs = [] then 0 else zs.getD (i % zs.length) 0 % 3
def goodL (zs : List Int) (n : Nat) : List Int := (List.range n).map (goodAt zs)
def goodW (W most : Int) : Int := 1 + Ar.around W most
theorem goodL_len (zs : List Int) (n : Nat) : (goodL zs n).length = n := by simp [goodL]
theorem goodL_succ (zs : List Int) (n : Nat) : goodL zs (n + 1) = goodL zs n ++ [goodAt zs n] := by simp [goodL, List.range_succ]
theorem goodW_in (W most : Int) (h : 0 < most) : 1 ≤ goodW W most ∧ goodW W most ≤ most := by have := Ar.around_lt W most h; unfold goodW; omega
/-- the matrix -/
def goodM (W H most : Int) (zs : List Int) : List Int := goodL zs ((goodW H most).toNat * (goodW W most).toNat)
theorem good_ok (W H most : Int) (zs : List Int) (h : 0 < most) (h8 : most ≤ 8) : Rc.Ok (goodW W most) (goodW H most) (goodM W H most zs) := by
  obtain ⟨a1, a2⟩ := goodW_in W most h
  obtain ⟨b1, b2⟩ := goodW_in H most h
  refine ⟨a1, by omega, b1, by omega, ?_, goodL_len _ _⟩
  have := Int.mul_le_mul a2 b2 (by omega) (by omega : (0:Int) ≤ most)
  have h64 : most * most ≤ 8 * 8 := Int.mul_le_mul h8 h8 (by omega) (by omega)
  omega
theorem goodAt_lt {zs : List Int} (hz : ∀ n ∈ zs, 0 ≤ n ∧ n ≤ 18446744073709551615) (i : Nat) : 0 ≤ goodAt zs i ∧ goodAt zs i ≤ 2 := by
  unfold goodAt; split <;> omega
theorem ownK_set {q : IntKind} {base : Nat} {w : World} {ad : Option Addr} {zs : List Int} (h : OwnK q base w ad zs) {a : Addr} (ha : a.block < base) (y : Value) : OwnK q base (w.setCell a y) ad zs := by
  rcases h with h | ⟨g, h1, h2, h3, h4, h5⟩
  · exact .inl h
  · refine .inr ⟨g, h1, h2, by simpa using h3, fun i hi => ?_, fun i => ?_⟩
    · rw [World.cell?_setCell_other _ _ _ _ (fun e => by have := congrArg Addr.block e; simp at this; omega)]; exact h4 i hi
    · rw [World.frozen?_setCell]; exact h5 i
end Go.Proofs.Ytmlinoanpcbflaa

/- A row, a column, a part, by the document. Condition: the matrix may be. -/
namespace Go.Proofs.Ytmlinoanpcbflaa
open Go.RowKit
set_option linter.unusedVariables false

theorem ownsRow_cap9 {w : World} {base size k n cap : Nat} {e : TypeId} {ad : Option Addr} {xs : List Value} (h : w.ownsRow base e size (.slice ad n cap) k xs) : cap ≤ 9223372036854775807 := by
  rcases h.2 with ⟨h1, _⟩ | ⟨g, c, cur, h1, _, _, _, h9, _⟩
  · injection h1 with _ _ h3; omega
  · injection h1 with _ _ h3; subst h3; exact h9
theorem flatMap_one {α : Type} (f : Nat → α) (n : Nat) : (List.range n).flatMap (fun i => [f i]) = (List.range n).map f := by
  induction n with
  | zero => rfl
  | succ n ih => rw [flat_succ, ih, List.range_succ, List.map_append]; rfl
theorem cut_map {L : List Int} {W x y w : Int} (h : y.toNat * W.toNat + x.toNat + w.toNat ≤ L.length) : Rc.cutL L W x y w = (List.range w.toNat).map fun i => L.getD (y.toNat * W.toNat + x.toNat + i) 0 := by
  unfold Rc.cutL
  refine List.ext_getElem (by simp; omega) fun i h1 h2 => ?_
  simp at h1 h2
  simp [List.getElem_take, List.getElem_drop]
  rw [List.getElem?_eq_getElem (by omega)]; rfl
/-- row k of a part, its first i numbers -/
def pRow (L : List Int) (W x y : Int) (k i : Nat) : List Int := (List.range i).map fun (i : Nat) => L.getD ((y + k).toNat * W.toNat + (x + i).toNat) 0
theorem pRow_succ (L : List Int) (W x y : Int) (k i : Nat) : pRow L W x y k (i + 1) = pRow L W x y k i ++ [L.getD ((y + k).toNat * W.toNat + (x + i).toNat) 0] := by simp [pRow, List.range_succ]
theorem pRow_len (L : List Int) (W x y : Int) (k i : Nat) : (pRow L W x y k i).length = i := by simp [pRow]
theorem pRow_all {L : List Int} {W H x y w h : Int} (ho : Rc.Ok W H L) (hx : Rc.insV x w W = true) (hy : Rc.insV y h H = true) {k : Nat} (hk : k < h.toNat) : pRow L W x y k w.toNat = Rc.cutL L W x (y + k) w := by
  obtain ⟨p1, p2, p3, p4⟩ := place ho hx (Rc.insV_row hy hk)
  obtain ⟨a1, a2, a3, a4⟩ := Rc.insV_iff.1 hx
  rw [cut_map p3, pRow]
  refine List.map_congr_left fun i hi => ?_
  rw [show (x + (i : Int)).toNat = x.toNat + i by omega, Nat.add_assoc]
def pRows (L : List Int) (W x y w : Int) (k : Nat) : List Int := Rc.rowsOf (fun j => pRow L W x y j w.toNat) k
theorem pRows_len (L : List Int) (W x y w : Int) (k : Nat) : (pRows L W x y w k).length = k * w.toNat := Rc.rowsOf_length fun j hj => pRow_len ..
end Go.Proofs.Ytmlinoanpcbflaa

/- The smallest functions of turn: what is a turn, what mirrors, how wide and high; over any memory. Condition: numbers fit their kinds. -/
namespace Go.Proofs.Ytmlinoanpcbflaa
open Go.RowKit
set_option linter.unusedVariables false

namespace Tu
def isT (g : Int) : Bool := decide (0 ≤ g) && decide (g < 8)
theorem isT_iff {g : Int} : isT g = true ↔ 0 ≤ g ∧ g < 8 := by simp [isT]
theorem isT_no {g : Int} : isT g = false ↔ g < 0 ∨ 8 ≤ g := by simp [isT]; omega
theorem isT_nat {g : Int} (h : isT g = true) : ∃ n : Nat, n < 8 ∧ g = n := by
  obtain ⟨h1, h2⟩ := isT_iff.1 h
  exact ⟨g.toNat, by omega, by omega⟩
end Tu
set_option maxHeartbeats 1000000 in
theorem turnMay_any (g : Int) (w : World) :
    Calls Try.prog 30 #[.int .i64 g] w fun e w' => e = .returned (.bool (Tu.isT g)) ∧ w = w' := by
  by_cases h1 : 0 ≤ g
  · have X := Lib.hid (show decide (g < 8) = Tu.isT g by simp [Tu.isT, h1])
    go_enter Try.func30, Try.ntmps30
    go_wp2
    go_ret
    exact ⟨ret_bR X.out, rfl⟩
  · have X := Lib.hid (show false = Tu.isT g by simp [Tu.isT, h1])
    go_enter Try.func30, Try.ntmps30
    go_wp2
    go_ret
    exact ⟨ret_bR X.out, rfl⟩
set_option maxHeartbeats 1000000 in
theorem mirrors_any (g : Int) (w : World) :
    Calls Try.prog 96 #[.int .i64 g] w fun e w' => e = .returned (.bool (decide (4 ≤ g))) ∧ w = w' := by
  go_enter Try.func96, Try.ntmps96
  go_wp2
  go_ret
  exact ⟨rfl, rfl⟩
set_option maxHeartbeats 1000000 in
theorem size_no (a b g : Int) (hg : Tu.isT g = false) (w : World) :
    Calls Try.prog 34 #[.int .i64 a, .int .i64 b, .int .i64 g] w fun e w' => e = .returned (.tuple #[.int .i64 0, .int .i64 0]) ∧ w = w' := by
  have HG := Lib.hid hg
  clear hg
  go_enter Try.func34, Try.ntmps34
  go_wp2_with (go_at_call 30; refine (turnMay_any _ _).mono ?_; rw [HG.out]; rintro e w1 ⟨rfl, rfl⟩)
  go_ret2
  exact ⟨rfl, rfl⟩
set_option maxHeartbeats 1000000 in
theorem size_any (a b g : Nat) (hg : g < 8) (w : World) :
    Calls Try.prog 34 #[.int .i64 a, .int .i64 b, .int .i64 g] w fun e w' => e = .returned (.tuple #[.int .i64 (Tu.sw g a b), .int .i64 (Tu.sw g b a)]) ∧ w = w' := by
  rcases Tu.turn8 hg with rfl | rfl | rfl | rfl | rfl | rfl | rfl | rfl
  all_goals
    clear hg
    go_enter Try.func34, Try.ntmps34
    go_wp2_with (go_at_call 30; refine (turnMay_any _ _).mono ?_; rw [show Tu.isT _ = true from rfl]; rintro e w1 ⟨rfl, rfl⟩)
    go_ret2
    exact ⟨rfl, rfl⟩
end Go.Proofs.Ytmlinoanpcbflaa

/- Where something stood, as a function made for a turn: the closures of turn's source, over any memory. Condition: the place lies in what is laid. -/
namespace Go.Proofs.Ytmlinoanpcbflaa
open Go.RowKit
set_option linter.unusedVariables false

/-- the blocks from base on lie in w2 as they lay in w -/
def Keep (base : Nat) (w w2 : World) : Prop := w.heap.size ≤ w2.heap.size ∧ ∀ j, base ≤ j → j < w.heap.size → w2.heap[j]? = w.heap[j]?
theorem Keep.refl (base : Nat) (w : World) : Keep base w w := ⟨Nat.le_refl _, fun _ _ _ => rfl⟩
theorem Keep.cell {base b : Nat} {w w2 : World} (h : Keep base w w2) (h1 : base ≤ b) (h2 : b < w.heap.size) : w2.cell? ⟨b, 0, none⟩ = w.cell? ⟨b, 0, none⟩ := by simp [World.cell?, h.2 b h1 h2]
theorem Keep.below {base : Nat} {w w2 w3 : World} (h : Keep base w w2) (hb : Below w2.heap.size w2 w3) : Keep base w w3 :=
  ⟨Nat.le_trans h.1 hb.size, fun j h1 h2 => (hb.block j (Nat.lt_of_lt_of_le h2 h.1)).trans (h.2 j h1 h2)⟩
theorem Keep.set {base : Nat} {w w2 : World} (h : Keep base w w2) {a : Addr} (ha : a.block < base) (v : Value) : Keep base w (w2.setCell a v) :=
  ⟨by simpa using h.1, fun j h1 h2 => by rw [Below.heap_setCell w2 a v j (by omega)]; exact h.2 j h1 h2⟩
/-- a function that tells where what stands at x, y then stood, made in the world w -/
def Src (base : Nat) (w : World) (v : Value) (W H g : Nat) : Prop :=
  ∃ n lb, v = .func (.func n) #[] lb ∧ (∀ args w, (callFunc n args).run Try.prog w = .ok (.enter n args) w) ∧
    ∀ (w2 : World) (x y : Nat), Keep base w w2 → x < Tu.sw g W H → y < Tu.sw g H W →
      Calls Try.prog n (#[.int .i64 x, .int .i64 y] ++ lb) w2 fun e w' => e = .returned (.tuple #[.int .i64 (Tu.sx g W H x y), .int .i64 (Tu.sy g W H x y)]) ∧ Below w2.heap.size w2 w'
theorem ret_2 {a b c d : Int} (h : a = c) (k : b = d) : Ending.returned (.tuple #[.int .i64 a, .int .i64 b]) = .returned (.tuple #[.int .i64 c, .int .i64 d]) := by rw [h, k]
set_option maxHeartbeats 1000000 in
theorem src0_any (x y : Int) (w : World) :
    Calls Try.prog 92 #[.int .i64 x, .int .i64 y] w fun e w' => e = .returned (.tuple #[.int .i64 x, .int .i64 y]) ∧ Below w.heap.size w w' := by
  go_enter Try.func92, Try.ntmps92
  go_wp2
  go_ret2
  exact ⟨rfl, by go_grown⟩
set_option maxHeartbeats 1000000 in
theorem src1_any (x y b : Nat) (H z : Int) (h0 : 0 ≤ H) (h1 : H ≤ 65536) (hz : H - 1 - x = z) (hx : x ≤ 65536) (w : World) (hc : w.cell? ⟨b, 0, none⟩ = some (.int .i64 H)) :
    Calls Try.prog 93 #[.int .i64 x, .int .i64 y, .pointer (some ⟨b, 0, none⟩)] w fun e w' => e = .returned (.tuple #[.int .i64 y, .int .i64 z]) ∧ Below w.heap.size w w' := by
  obtain ⟨p, hp⟩ : ∃ p, H - 1 = p := ⟨_, rfl⟩
  rw [hp] at hz
  have e1 : wrap64 (H - 1) = p := by rw [IntWalk.wrap64_in] <;> omega
  have e2 : wrap64 (p - x) = z := by rw [IntWalk.wrap64_in] <;> omega
  have f1 : IntKind.i64.wrap (H - 1) = p := by rw [IntWalk.i64_in] <;> omega
  have f2 : IntKind.i64.wrap (p - x) = z := by rw [IntWalk.i64_in] <;> omega
  clear hp hz hx h0 h1
  go_enter Try.func93, Try.ntmps93
  go_wp2_with (go_quiet (fail))
  go_ret2
  exact ⟨rfl, ⟨rfl, rfl, rfl, Nat.le_refl _, fun _ _ => rfl⟩⟩
set_option maxHeartbeats 1000000 in
theorem src2_any (x y b c : Nat) (W H z u : Int) (h0 : 0 ≤ H) (h1 : H ≤ 65536) (w0 : 0 ≤ W) (w1 : W ≤ 65536) (hz : W - 1 - x = z) (hu : H - 1 - y = u) (hx : x ≤ 65536) (hy : y ≤ 65536) (w : World) (hb : w.cell? ⟨b, 0, none⟩ = some (.int .i64 W)) (hc : w.cell? ⟨c, 0, none⟩ = some (.int .i64 H)) :
    Calls Try.prog 94 #[.int .i64 x, .int .i64 y, .pointer (some ⟨b, 0, none⟩), .pointer (some ⟨c, 0, none⟩)] w fun e w' => e = .returned (.tuple #[.int .i64 z, .int .i64 u]) ∧ Below w.heap.size w w' := by
  obtain ⟨p, hp⟩ : ∃ p, H - 1 = p := ⟨_, rfl⟩
  obtain ⟨q, hq⟩ : ∃ q, W - 1 = q := ⟨_, rfl⟩
  rw [hq] at hz
  rw [hp] at hu
  have e1 : wrap64 (H - 1) = p := by rw [IntWalk.wrap64_in] <;> omega
  have e2 : wrap64 (q - x) = z := by rw [IntWalk.wrap64_in] <;> omega
  have e3 : wrap64 (W - 1) = q := by rw [IntWalk.wrap64_in] <;> omega
  have e4 : wrap64 (p - y) = u := by rw [IntWalk.wrap64_in] <;> omega
  clear hp hq hz hu hx hy h0 h1 w0 w1
  go_enter Try.func94, Try.ntmps94
  go_wp2_with (go_quiet (fail))
  go_ret2
  exact ⟨ret_2 e2 e4, ⟨rfl, rfl, rfl, Nat.le_refl _, fun _ _ => rfl⟩⟩
set_option maxHeartbeats 1000000 in
theorem src3_any (x y b : Nat) (W z : Int) (w0 : 0 ≤ W) (w1 : W ≤ 65536) (hz : W - 1 - y = z) (hy : y ≤ 65536) (w : World) (hb : w.cell? ⟨b, 0, none⟩ = some (.int .i64 W)) :
    Calls Try.prog 95 #[.int .i64 x, .int .i64 y, .pointer (some ⟨b, 0, none⟩)] w fun e w' => e = .returned (.tuple #[.int .i64 z, .int .i64 x]) ∧ Below w.heap.size w w' := by
  obtain ⟨q, hq⟩ : ∃ q, W - 1 = q := ⟨_, rfl⟩
  rw [hq] at hz
  have e2 : wrap64 (q - y) = z := by rw [IntWalk.wrap64_in] <;> omega
  have e3 : wrap64 (W - 1) = q := by rw [IntWalk.wrap64_in] <;> omega
  clear hq hz hy w0 w1
  go_enter Try.func95, Try.ntmps95
  go_wp2_with (go_quiet (fail))
  go_ret2
  exact ⟨ret_2 e2 rfl, by go_grown⟩
set_option maxHeartbeats 1000000 in
/-- mirrored first: the first number counted from the last column -/
theorem srcM_any (n : Nat) (lb : Array Value) (x y b c : Nat) (W q z p s : Int) (w0 : 0 ≤ W) (w1 : W ≤ 65536) (q0 : 0 ≤ q) (q1 : q ≤ 65536) (hz : W - 1 - q = z) (w : World) (hb : w.cell? ⟨b, 0, none⟩ = some (.func (.func n) #[] lb)) (hc : w.cell? ⟨c, 0, none⟩ = some (.int .i64 W))
    (hn : ∀ args w, (callFunc n args).run Try.prog w = .ok (.enter n args) w) (hbc : b < w.heap.size) (hcc : c < w.heap.size)
    (hcall : ∀ w2, Below w.heap.size w w2 → Calls Try.prog n (#[.int .i64 x, .int .i64 y] ++ lb) w2 fun e w' => e = .returned (.tuple #[.int .i64 q, .int .i64 s]) ∧ Below w2.heap.size w2 w') :
    Calls Try.prog 97 #[.int .i64 x, .int .i64 y, .pointer (some ⟨b, 0, none⟩), .pointer (some ⟨c, 0, none⟩)] w fun e w' => e = .returned (.tuple #[.int .i64 z, .int .i64 s]) ∧ Below w.heap.size w w' := by
  obtain ⟨r, hr⟩ : ∃ r, W - 1 = r := ⟨_, rfl⟩
  rw [hr] at hz
  have e2 : wrap64 (r - q) = z := by rw [IntWalk.wrap64_in] <;> omega
  have e3 : wrap64 (W - 1) = r := by rw [IntWalk.wrap64_in] <;> omega
  clear hr hz w0 w1 q0 q1
  have HC := Lib.hid hc
  clear hc
  go_enter Try.func97, Try.ntmps97
  go_wp2_with (go_at_fn n; refine (hcall _ (Below.refl _ _)).mono ?_; rintro e w3 ⟨rfl, hb3⟩; have hc := (hb3.cell (p := ⟨c, 0, none⟩) hcc).trans HC.out)
  go_ret2
  exact ⟨ret_2 e2 rfl, hb3⟩
end Go.Proofs.Ytmlinoanpcbflaa

/- What turn's source hands back: the function of each turn, over any memory. Condition: what is laid is as wide and high as a matrix may be. -/
namespace Go.Proofs.Ytmlinoanpcbflaa
open Go.RowKit
set_option linter.unusedVariables false

theorem index4_0 (f0 f1 f2 f3 : Value) (w : World) : (Instr.index 148 (.agg #[f0, f1, f2, f3]) (.int .i64 0)).run Try.prog w = .ok f0 w := by kernel_rfl
theorem index4_1 (f0 f1 f2 f3 : Value) (w : World) : (Instr.index 148 (.agg #[f0, f1, f2, f3]) (.int .i64 1)).run Try.prog w = .ok f1 w := by kernel_rfl
theorem index4_2 (f0 f1 f2 f3 : Value) (w : World) : (Instr.index 148 (.agg #[f0, f1, f2, f3]) (.int .i64 2)).run Try.prog w = .ok f2 w := by kernel_rfl
theorem index4_3 (f0 f1 f2 f3 : Value) (w : World) : (Instr.index 148 (.agg #[f0, f1, f2, f3]) (.int .i64 3)).run Try.prog w = .ok f3 w := by kernel_rfl
theorem give0 (s : Nat) (w : World) (W H : Nat) : Src s w (.func (.func 92) #[] #[]) W H 0 :=
  ⟨_, _, rfl, enters_of Try.func92 (by kernel_rfl) rfl, fun w2 x y hk hx hy => (src0_any x y w2).mono (fun _ _ h => h)⟩
theorem give1 (s : Nat) (w : World) (W H : Nat) (hH : H ≤ 65536) (c : Nat) (hcb : s ≤ c) (hcs : c < w.heap.size) (hc : w.cell? ⟨c, 0, none⟩ = some (.int .i64 H)) : Src s w (.func (.func 93) #[] #[.pointer (some ⟨c, 0, none⟩)]) W H 1 :=
  ⟨_, _, rfl, enters_of Try.func93 (by kernel_rfl) rfl, fun w2 x y hk hx hy => by
    have hx' : x < H := hx
    exact (src1_any x y c H ((H - 1 - x : Nat) : Int) (by omega) (by omega) (by omega) (by omega) w2 ((hk.cell hcb hcs).trans hc)).mono (fun _ _ h => h)⟩
theorem give2 (s : Nat) (w : World) (W H : Nat) (hW : W ≤ 65536) (hH : H ≤ 65536) (b c : Nat) (hbb : s ≤ b) (hbs : b < w.heap.size) (hb : w.cell? ⟨b, 0, none⟩ = some (.int .i64 W)) (hcb : s ≤ c) (hcs : c < w.heap.size) (hc : w.cell? ⟨c, 0, none⟩ = some (.int .i64 H)) : Src s w (.func (.func 94) #[] #[.pointer (some ⟨b, 0, none⟩), .pointer (some ⟨c, 0, none⟩)]) W H 2 :=
  ⟨_, _, rfl, enters_of Try.func94 (by kernel_rfl) rfl, fun w2 x y hk hx hy => by
    have hx' : x < W := hx
    have hy' : y < H := hy
    exact (src2_any x y b c W H ((W - 1 - x : Nat) : Int) ((H - 1 - y : Nat) : Int) (by omega) (by omega) (by omega) (by omega) (by omega) (by omega) (by omega) (by omega) w2 ((hk.cell hbb hbs).trans hb) ((hk.cell hcb hcs).trans hc)).mono (fun _ _ h => h)⟩
theorem give3 (s : Nat) (w : World) (W H : Nat) (hW : W ≤ 65536) (b : Nat) (hbb : s ≤ b) (hbs : b < w.heap.size) (hb : w.cell? ⟨b, 0, none⟩ = some (.int .i64 W)) : Src s w (.func (.func 95) #[] #[.pointer (some ⟨b, 0, none⟩)]) W H 3 :=
  ⟨_, _, rfl, enters_of Try.func95 (by kernel_rfl) rfl, fun w2 x y hk hx hy => by
    have hy' : y < W := hy
    exact (src3_any x y b W ((W - 1 - y : Nat) : Int) (by omega) (by omega) (by omega) (by omega) w2 ((hk.cell hbb hbs).trans hb)).mono (fun _ _ h => h)⟩
theorem give_m (s : Nat) (w : World) (W H r : Nat) (hr : r < 4) (hW : W ≤ 65536) (v : Value) (h : Src s w v W H r) (b c : Nat) (hbb : s ≤ b) (hbs : b < w.heap.size) (hb : w.cell? ⟨b, 0, none⟩ = some v) (hcb : s ≤ c) (hcs : c < w.heap.size) (hc : w.cell? ⟨c, 0, none⟩ = some (.int .i64 W)) :
    Src s w (.func (.func 97) #[] #[.pointer (some ⟨b, 0, none⟩), .pointer (some ⟨c, 0, none⟩)]) W H (4 + r) := by
  obtain ⟨n, lb, rfl, hn, hcall⟩ := h
  refine ⟨_, _, rfl, enters_of Try.func97 (by kernel_rfl) rfl, fun w2 x y hk hx hy => ?_⟩
  have e1 : ∀ p q, Tu.sw (4 + r) p q = Tu.sw r p q := fun p q => by unfold Tu.sw; rw [show (4 + r) % 2 = r % 2 by omega]
  rw [e1] at hx hy
  have hs := Tu.src_in (by omega : r < 8) hx hy
  have e2 : Tu.sx (4 + r) W H x y = W - 1 - Tu.sx r W H x y := by unfold Tu.sx; rw [if_neg (by omega), if_pos hr, show (4 + r) % 4 = r % 4 by omega]
  have e3 : Tu.sy (4 + r) W H x y = Tu.sy r W H x y := by unfold Tu.sy; rw [show (4 + r) % 4 = r % 4 by omega]
  rw [e2, e3]
  exact (srcM_any n lb x y b c W (Tu.sx r W H x y : Nat) ((W - 1 - Tu.sx r W H x y : Nat) : Int) 0 (Tu.sy r W H x y : Nat) (by omega) (by omega) (by omega) (by omega) (by omega) w2 ((hk.cell hbb hbs).trans hb) ((hk.cell hcb hcs).trans hc) hn (Nat.lt_of_lt_of_le hbs hk.1) (Nat.lt_of_lt_of_le hcs hk.1) (fun w3 hb3 => hcall w3 x y (hk.below hb3) hx hy)).mono (fun _ _ h => h)
set_option maxHeartbeats 2000000 in
theorem source0 (W H : Nat) (hW : W ≤ 65536) (hH : H ≤ 65536) (w : World) :
    Calls Try.prog 85 #[.int .i64 W, .int .i64 H, .int .i64 (0 : Nat)] w fun e w' => ∃ v, e = .returned v ∧ Src w.heap.size w' v W H 0 ∧ Below w.heap.size w w' := by
  have HWW := Lib.hid hW
  have HHH := Lib.hid hH
  clear hW hH
  rw [show ((0 : Nat) : Int) = 0 from rfl]
  have hix := index4_0
  go_enter Try.func85, Try.ntmps85
  go_wp2_with (go_at_call 96; refine (mirrors_any _ _).mono ?_; rw [show decide ((4 : Int) ≤ 0) = false from by decide]; rintro e w1 ⟨rfl, rfl⟩)
  go_ret
  exact ⟨_, rfl, give0 _ _ W H, by go_grown⟩
set_option maxHeartbeats 2000000 in
theorem source1 (W H : Nat) (hW : W ≤ 65536) (hH : H ≤ 65536) (w : World) :
    Calls Try.prog 85 #[.int .i64 W, .int .i64 H, .int .i64 (1 : Nat)] w fun e w' => ∃ v, e = .returned v ∧ Src w.heap.size w' v W H 1 ∧ Below w.heap.size w w' := by
  have HWW := Lib.hid hW
  have HHH := Lib.hid hH
  clear hW hH
  rw [show ((1 : Nat) : Int) = 1 from rfl]
  have hix := index4_1
  go_enter Try.func85, Try.ntmps85
  go_wp2_with (go_at_call 96; refine (mirrors_any _ _).mono ?_; rw [show decide ((4 : Int) ≤ 1) = false from by decide]; rintro e w1 ⟨rfl, rfl⟩)
  go_ret
  refine ⟨_, rfl, ?_, by go_grown⟩
  refine give1 _ _ W H HHH.out _ ?_ ?_ ?_ <;> first | omega | simp [go_sem]
set_option maxHeartbeats 2000000 in
theorem source2 (W H : Nat) (hW : W ≤ 65536) (hH : H ≤ 65536) (w : World) :
    Calls Try.prog 85 #[.int .i64 W, .int .i64 H, .int .i64 (2 : Nat)] w fun e w' => ∃ v, e = .returned v ∧ Src w.heap.size w' v W H 2 ∧ Below w.heap.size w w' := by
  have HWW := Lib.hid hW
  have HHH := Lib.hid hH
  clear hW hH
  rw [show ((2 : Nat) : Int) = 2 from rfl]
  have hix := index4_2
  go_enter Try.func85, Try.ntmps85
  go_wp2_with (go_at_call 96; refine (mirrors_any _ _).mono ?_; rw [show decide ((4 : Int) ≤ 2) = false from by decide]; rintro e w1 ⟨rfl, rfl⟩)
  go_ret
  refine ⟨_, rfl, ?_, by go_grown⟩
  refine give2 _ _ W H HWW.out HHH.out _ _ ?_ ?_ ?_ ?_ ?_ ?_ <;> first | omega | simp [go_sem]
set_option maxHeartbeats 2000000 in
theorem source3 (W H : Nat) (hW : W ≤ 65536) (hH : H ≤ 65536) (w : World) :
    Calls Try.prog 85 #[.int .i64 W, .int .i64 H, .int .i64 (3 : Nat)] w fun e w' => ∃ v, e = .returned v ∧ Src w.heap.size w' v W H 3 ∧ Below w.heap.size w w' := by
  have HWW := Lib.hid hW
  have HHH := Lib.hid hH
  clear hW hH
  rw [show ((3 : Nat) : Int) = 3 from rfl]
  have hix := index4_3
  go_enter Try.func85, Try.ntmps85
  go_wp2_with (go_at_call 96; refine (mirrors_any _ _).mono ?_; rw [show decide ((4 : Int) ≤ 3) = false from by decide]; rintro e w1 ⟨rfl, rfl⟩)
  go_ret
  refine ⟨_, rfl, ?_, by go_grown⟩
  refine give3 _ _ W H HWW.out _ ?_ ?_ ?_ <;> first | omega | simp [go_sem]
set_option maxHeartbeats 2000000 in
theorem source4 (W H : Nat) (hW : W ≤ 65536) (hH : H ≤ 65536) (w : World) :
    Calls Try.prog 85 #[.int .i64 W, .int .i64 H, .int .i64 (4 : Nat)] w fun e w' => ∃ v, e = .returned v ∧ Src w.heap.size w' v W H 4 ∧ Below w.heap.size w w' := by
  have HWW := Lib.hid hW
  have HHH := Lib.hid hH
  clear hW hH
  rw [show ((4 : Nat) : Int) = 4 from rfl]
  have hix := index4_0
  go_enter Try.func85, Try.ntmps85
  go_wp2_with (go_at_call 96; refine (mirrors_any _ _).mono ?_; rw [show decide ((4 : Int) ≤ 4) = true from by decide]; rintro e w1 ⟨rfl, rfl⟩)
  go_ret
  refine ⟨_, rfl, ?_, by go_grown⟩
  refine give_m _ _ W H 0 (by omega) HWW.out _ (give0 _ _ W H) _ _ ?_ ?_ ?_ ?_ ?_ ?_ <;> first | omega | simp [go_sem]
set_option maxHeartbeats 2000000 in
theorem source5 (W H : Nat) (hW : W ≤ 65536) (hH : H ≤ 65536) (w : World) :
    Calls Try.prog 85 #[.int .i64 W, .int .i64 H, .int .i64 (5 : Nat)] w fun e w' => ∃ v, e = .returned v ∧ Src w.heap.size w' v W H 5 ∧ Below w.heap.size w w' := by
  have HWW := Lib.hid hW
  have HHH := Lib.hid hH
  clear hW hH
  rw [show ((5 : Nat) : Int) = 5 from rfl]
  have hix := index4_1
  go_enter Try.func85, Try.ntmps85
  go_wp2_with (go_at_call 96; refine (mirrors_any _ _).mono ?_; rw [show decide ((4 : Int) ≤ 5) = true from by decide]; rintro e w1 ⟨rfl, rfl⟩)
  go_ret
  refine ⟨_, rfl, ?_, by go_grown⟩
  refine give_m _ _ W H 1 (by omega) HWW.out _ (give1 _ _ W H HHH.out (w.heap.size + 1) (by simp [go_sem]) (by simp [go_sem]) (by simp [go_sem])) _ _ ?_ ?_ ?_ ?_ ?_ ?_ <;> first | omega | simp [go_sem]
set_option maxHeartbeats 2000000 in
theorem source6 (W H : Nat) (hW : W ≤ 65536) (hH : H ≤ 65536) (w : World) :
    Calls Try.prog 85 #[.int .i64 W, .int .i64 H, .int .i64 (6 : Nat)] w fun e w' => ∃ v, e = .returned v ∧ Src w.heap.size w' v W H 6 ∧ Below w.heap.size w w' := by
  have HWW := Lib.hid hW
  have HHH := Lib.hid hH
  clear hW hH
  rw [show ((6 : Nat) : Int) = 6 from rfl]
  have hix := index4_2
  go_enter Try.func85, Try.ntmps85
  go_wp2_with (go_at_call 96; refine (mirrors_any _ _).mono ?_; rw [show decide ((4 : Int) ≤ 6) = true from by decide]; rintro e w1 ⟨rfl, rfl⟩)
  go_ret
  refine ⟨_, rfl, ?_, by go_grown⟩
  refine give_m _ _ W H 2 (by omega) HWW.out _ (give2 _ _ W H HWW.out HHH.out w.heap.size (w.heap.size + 1) (by simp [go_sem]) (by simp [go_sem]) (by simp [go_sem]) (by simp [go_sem]) (by simp [go_sem]) (by simp [go_sem])) _ _ ?_ ?_ ?_ ?_ ?_ ?_ <;> first | omega | simp [go_sem]
set_option maxHeartbeats 2000000 in
theorem source7 (W H : Nat) (hW : W ≤ 65536) (hH : H ≤ 65536) (w : World) :
    Calls Try.prog 85 #[.int .i64 W, .int .i64 H, .int .i64 (7 : Nat)] w fun e w' => ∃ v, e = .returned v ∧ Src w.heap.size w' v W H 7 ∧ Below w.heap.size w w' := by
  have HWW := Lib.hid hW
  have HHH := Lib.hid hH
  clear hW hH
  rw [show ((7 : Nat) : Int) = 7 from rfl]
  have hix := index4_3
  go_enter Try.func85, Try.ntmps85
  go_wp2_with (go_at_call 96; refine (mirrors_any _ _).mono ?_; rw [show decide ((4 : Int) ≤ 7) = true from by decide]; rintro e w1 ⟨rfl, rfl⟩)
  go_ret
  refine ⟨_, rfl, ?_, by go_grown⟩
  refine give_m _ _ W H 3 (by omega) HWW.out _ (give3 _ _ W H HWW.out w.heap.size (by simp [go_sem]) (by simp [go_sem]) (by simp [go_sem])) _ _ ?_ ?_ ?_ ?_ ?_ ?_ <;> first | omega | simp [go_sem]
theorem source_any (W H g : Nat) (hg : g < 8) (hW : W ≤ 65536) (hH : H ≤ 65536) (w : World) :
    Calls Try.prog 85 #[.int .i64 W, .int .i64 H, .int .i64 g] w fun e w' => ∃ v, e = .returned v ∧ Src w.heap.size w' v W H g ∧ Below w.heap.size w w' := by
  rcases Tu.turn8 hg with rfl | rfl | rfl | rfl | rfl | rfl | rfl | rfl
  · exact source0 W H hW hH w
  · exact source1 W H hW hH w
  · exact source2 W H hW hH w
  · exact source3 W H hW hH w
  · exact source4 W H hW hH w
  · exact source5 W H hW hH w
  · exact source6 W H hW hH w
  · exact source7 W H hW hH w
end Go.Proofs.Ytmlinoanpcbflaa

/- A part of a part; what a law's walk starts from. No condition. -/
namespace Go.Proofs.Ytmlinoanpcbflaa
open Go.RowKit
set_option linter.unusedVariables false

namespace Rc
theorem sub_sub {L : List Int} {W H x y p q i k s t : Int} (hL : Ok W H L) (hx : insV x p W = true) (hy : insV y q H = true) (hi : insV i s p = true) (hk : insV k t q = true) :
    subL (subL L W x y p q) p i k s t = subL L W (x + i) (y + k) s t := by
  obtain ⟨a1, a2, a3, a4⟩ := insV_iff.1 hx
  obtain ⟨b1, b2, b3, b4⟩ := insV_iff.1 hy
  obtain ⟨c1, c2, c3, c4⟩ := insV_iff.1 hi
  obtain ⟨d1, d2, d3, d4⟩ := insV_iff.1 hk
  refine rowsOf_congr fun r hr => ?_
  have h1 := cut_rowsOf (f := fun j => cutL L W x (y + (j : Int)) p) (n := q.toNat) (y := (k + r).toNat) (W := p.toNat) (x := i.toNat) (m := s.toNat) (by omega) (fun j hj => cutL_length hL.2.2.2.2.2 hx (insV_row hy hj)) (by omega)
  show ((rowsOf (fun j => cutL L W x (y + (j : Int)) p) q.toNat).drop ((k + r).toNat * p.toNat + i.toNat)).take s.toNat = _
  rw [h1]
  unfold cutL
  rw [List.drop_take, List.take_take, List.drop_drop]
  rw [show (y + ((k + (r : Int)).toNat : Int)).toNat = (y + k + r).toNat by omega]
  congr 1
  · omega
  · congr 1
    omega
end Rc
/-- four cells in a block of the call's own -/
def P4 (w : World) (b : Nat) (t : TypeId) (p0 p1 p2 p3 : Int) : Prop := w.heap[b]? = some (.cells #[.int .i64 p0, .int .i64 p1, .int .i64 p2, .int .i64 p3] t (0, 0))
theorem P4.cells {w : World} {b : Nat} {t : TypeId} {p0 p1 p2 p3 : Int} (h : P4 w b t p0 p1 p2 p3) : w.cell? ⟨b, 0, none⟩ = some (.int .i64 p0) ∧ w.cell? ⟨b, 1, none⟩ = some (.int .i64 p1) ∧ w.cell? ⟨b, 2, none⟩ = some (.int .i64 p2) ∧ w.cell? ⟨b, 3, none⟩ = some (.int .i64 p3) := by
  have h' : w.heap[b]? = _ := h
  refine ⟨?_, ?_, ?_, ?_⟩ <;> simp [World.cell?, h']
theorem P4.lt {w : World} {b : Nat} {t : TypeId} {p0 p1 p2 p3 : Int} (h : P4 w b t p0 p1 p2 p3) : b < w.heap.size := (Array.getElem?_eq_some_iff.1 h).1
theorem P4.later {w w' : World} {b : Nat} {t : TypeId} {p0 p1 p2 p3 : Int} (h : P4 w b t p0 p1 p2 p3) (hb : Below w.heap.size w w') : P4 w' b t p0 p1 p2 p3 := (hb.block b h.lt).trans h
theorem row_slk {k : IntKind} {w : World} {a : Option Addr} {len cap : Nat} {zs : List Int} (h : IsRow k w a len cap zs) : SlK k w a len (zs.take len) := isrow_takeK h len (Nat.le_refl _)
theorem px_take {w : World} {a : Option Addr} {len cap : Nat} {zs : List Int} (h : IsRow .u64 w a len cap zs) (n : Nat) : ∀ x ∈ zs.take n, 0 ≤ x ∧ x ≤ 18446744073709551615 := fun x hx => by
  have := isrow_wfK h x (List.mem_of_mem_take hx)
  simp [Lit.wf, IntKind.min, IntKind.max, IntKind.bits, IntKind.signed] at this; omega
theorem start3 (w : World) (o1 : Obj) (u v x : Value) (t s r : TypeId) (p0 p1 p2 p3 q0 q1 q2 q3 : Int) :
    Sb (((w.alloc (.cells #[u, v, x] t)).alloc (.cells #[.int .i64 p0, .int .i64 p1, .int .i64 p2, .int .i64 p3] s)).alloc (.cells #[.int .i64 q0, .int .i64 q1, .int .i64 q2, .int .i64 q3] r)) w.heap.size t u v x ∧
    P4 (((w.alloc (.cells #[u, v, x] t)).alloc (.cells #[.int .i64 p0, .int .i64 p1, .int .i64 p2, .int .i64 p3] s)).alloc (.cells #[.int .i64 q0, .int .i64 q1, .int .i64 q2, .int .i64 q3] r)) (w.heap.size + 1) s p0 p1 p2 p3 ∧
    P4 (((w.alloc (.cells #[u, v, x] t)).alloc (.cells #[.int .i64 p0, .int .i64 p1, .int .i64 p2, .int .i64 p3] s)).alloc (.cells #[.int .i64 q0, .int .i64 q1, .int .i64 q2, .int .i64 q3] r)) (w.heap.size + 1 + 1) r q0 q1 q2 q3 ∧
    Below w.heap.size w (((w.alloc (.cells #[u, v, x] t)).alloc (.cells #[.int .i64 p0, .int .i64 p1, .int .i64 p2, .int .i64 p3] s)).alloc (.cells #[.int .i64 q0, .int .i64 q1, .int .i64 q2, .int .i64 q3] r)) := by
  refine ⟨((Sb.new _ _ _ _ _).alloc _).alloc _, heapOld _ _ ?_, ?_, by go_grown⟩
  · have := heapNew (w.alloc (.cells #[u, v, x] t)) (.cells #[.int .i64 p0, .int .i64 p1, .int .i64 p2, .int .i64 p3] s)
    simp only [World.size_alloc] at this
    exact this
  · have := heapNew ((w.alloc (.cells #[u, v, x] t)).alloc (.cells #[.int .i64 p0, .int .i64 p1, .int .i64 p2, .int .i64 p3] s)) (.cells #[.int .i64 q0, .int .i64 q1, .int .i64 q2, .int .i64 q3] r)
    simp only [World.size_alloc] at this
    exact this

theorem P4.drew {w : World} {b : Nat} {t : TypeId} {p0 p1 p2 p3 : Int} (h : P4 w b t p0 p1 p2 p3) : P4 w.drew b t p0 p1 p2 p3 := h
theorem start4 (w : World) (u v x u2 v2 x2 : Value) (t t2 s : TypeId) (p0 p1 p2 p3 : Int) :
    Sb (((w.alloc (.cells #[u, v, x] t)).alloc (.cells #[u2, v2, x2] t2)).alloc (.cells #[.int .i64 p0, .int .i64 p1, .int .i64 p2, .int .i64 p3] s)) w.heap.size t u v x ∧
    Sb (((w.alloc (.cells #[u, v, x] t)).alloc (.cells #[u2, v2, x2] t2)).alloc (.cells #[.int .i64 p0, .int .i64 p1, .int .i64 p2, .int .i64 p3] s)) (w.heap.size + 1) t2 u2 v2 x2 ∧
    P4 (((w.alloc (.cells #[u, v, x] t)).alloc (.cells #[u2, v2, x2] t2)).alloc (.cells #[.int .i64 p0, .int .i64 p1, .int .i64 p2, .int .i64 p3] s)) (w.heap.size + 1 + 1) s p0 p1 p2 p3 ∧
    Below w.heap.size w (((w.alloc (.cells #[u, v, x] t)).alloc (.cells #[u2, v2, x2] t2)).alloc (.cells #[.int .i64 p0, .int .i64 p1, .int .i64 p2, .int .i64 p3] s)) := by
  refine ⟨((Sb.new _ _ _ _ _).alloc _).alloc _, heapOld _ _ ?_, ?_, by go_grown⟩
  · have := heapNew (w.alloc (.cells #[u, v, x] t)) (.cells #[u2, v2, x2] t2)
    simp only [World.size_alloc] at this
    exact this
  · have := heapNew ((w.alloc (.cells #[u, v, x] t)).alloc (.cells #[u2, v2, x2] t2)) (.cells #[.int .i64 p0, .int .i64 p1, .int .i64 p2, .int .i64 p3] s)
    simp only [World.size_alloc] at this
    exact this
end Go.Proofs.Ytmlinoanpcbflaa

/- The arithmetic of a counter, as small lemmas. No condition. -/
namespace Go.Proofs.Ytmlinoanpcbflaa
open Go.RowKit
theorem ownsRow_max {w : World} {base : Nat} {e : TypeId} {size : Nat} {v : Value} {n : Nat} {xs : List Value} (h : w.ownsRow base e size v n xs) : n ≤ 9223372036854775807 := by
  have hm : maxLen = 9223372036854775807 := rfl
  rcases h.2 with ⟨_, e⟩ | ⟨_, _, _, _, _, _, h1, h2, _⟩
  · omega
  · exact Nat.le_trans h1 (by omega)
theorem st_one {j g n : Nat} (h : j + (g + 1) = n) : j + 1 + g = n := by omega
theorem st_num (j : Nat) : Value.int .i64 ((j : Int) + 1) = Value.int .i64 ((j + 1 : Nat) : Int) := by simp
theorem st_lt {j g n : Nat} (h : j + (g + 1) = n) : j < n := by omega
theorem st_lti {j g n : Nat} (h : j + (g + 1) = n) : (j : Int) < (n : Int) := by omega
theorem st_wrap {j g n : Nat} (h : j + (g + 1) = n) (h9 : n ≤ 9223372036854775807) : wrap64 ((j : Int) + 1) = (j : Int) + 1 := by rw [IntWalk.wrap64_in] <;> omega
end Go.Proofs.Ytmlinoanpcbflaa

/- A part of a matrix by the document's own answer, over any memory. Condition: the matrix may be. -/
namespace Go.Proofs.Ytmlinoanpcbflaa
open Go.RowKit
end Go.Proofs.Ytmlinoanpcbflaa

/- A part, whether and where a matrix stands in another one, by the document. Condition: the matrices may be. -/
namespace Go.Proofs.Ytmlinoanpcbflaa
open Go.RowKit
set_option linter.unusedVariables false
def fRow (W H : Int) (L : List Int) (w h : Int) (M : List Int) (y x : Nat) : List (Int × Int) :=
  (List.range x).flatMap fun (x : Nat) => if Rc.hasV W H L w h M (x : Int) (y : Int) = true then [((x : Int), (y : Int))] else []
def fRows (W H : Int) (L : List Int) (w h : Int) (M : List Int) (y : Nat) : List (Int × Int) := (List.range y).flatMap fun (y : Nat) => fRow W H L w h M y W.toNat
theorem fRow_le (W H : Int) (L : List Int) (w h : Int) (M : List Int) (y x : Nat) : (fRow W H L w h M y x).length ≤ x := by
  have := flat_le (n := x) (f := fun (x : Nat) => if Rc.hasV W H L w h M (x : Int) (y : Int) = true then [((x : Int), (y : Int))] else []) (m := 1) (fun k => by split <;> simp)
  simpa [fRow] using this
theorem fRows_le (W H : Int) (L : List Int) (w h : Int) (M : List Int) (y : Nat) : (fRows W H L w h M y).length ≤ y * W.toNat := flat_le (fun k => fRow_le ..)
theorem fRow_yes {W H : Int} {L : List Int} {w h : Int} {M : List Int} {y x : Nat} (e : Rc.hasV W H L w h M x y = true) : fRow W H L w h M y (x + 1) = fRow W H L w h M y x ++ [((x : Int), (y : Int))] := by
  unfold fRow; rw [flat_succ]; simp [e]
theorem fRow_no {W H : Int} {L : List Int} {w h : Int} {M : List Int} {y x : Nat} (e : Rc.hasV W H L w h M x y = false) : fRow W H L w h M y (x + 1) = fRow W H L w h M y x := by
  unfold fRow; rw [flat_succ]; simp [e]
end Go.Proofs.Ytmlinoanpcbflaa

/- What Unpack, May, Format and Fits come to, over any memory, of pix and of the document's own answer. Condition: numbers fit their kinds. -/
namespace Go.Proofs.Ytmlinoanpcbflaa
open Go.RowKit
set_option linter.unusedVariables false
namespace Pq
/-- Integers in memory of the call's own. -/
def Own (base : Nat) (w : World) (ad : Option Addr) (zs : List Int) : Prop :=
  zs = [] ∨ ∃ g, ad = some ⟨g, 0, none⟩ ∧ base ≤ g ∧ g < w.heap.size ∧ (∀ i, i < zs.length → w.cell? ⟨g, i, none⟩ = some (.int .i64 (zs.getD i 0))) ∧ (∀ i, i < zs.length → w.frozen? ⟨g, i, none⟩ = false)
theorem Own.sl {base : Nat} {w : World} {ad : Option Addr} {zs : List Int} (h : Own base w ad zs) : Sl w ad zs.length zs := by
  refine ⟨rfl, ?_⟩
  rcases h with rfl | ⟨g, h1, _, _, h2, _⟩
  · exact .inl rfl
  · exact .inr ⟨g, 0, h1, fun i hi => by simpa using h2 i hi⟩
theorem Own.mono {base base' : Nat} {w : World} {ad : Option Addr} {zs : List Int} (h : Own base w ad zs) (hb : base' ≤ base) : Own base' w ad zs := by
  rcases h with h | ⟨g, h1, h2, h3⟩
  · exact .inl h
  · exact .inr ⟨g, h1, Nat.le_trans hb h2, h3⟩
theorem Own.later {base : Nat} {w w' : World} {ad : Option Addr} {zs : List Int} (h : Own base w ad zs) (hb : Below w.heap.size w w') : Own base w' ad zs := by
  rcases h with rfl | ⟨g, h1, h2, h3, h4, h5⟩
  · exact .inl rfl
  · exact .inr ⟨g, h1, h2, by have := hb.size; omega, fun i hi => cell_later hb (h4 i hi), fun i hi => by rw [hb.frozen (p := ⟨g, i, none⟩) h3]; exact h5 i hi⟩
theorem own_row {base : Nat} {w : World} {v : Value} {n : Nat} {zs : List Int} (hn : zs.length = n) (h : w.ownsRow base 3 1 v n (zs.map (Value.int .i64))) :
    ∃ ad cap, v = .slice ad n cap ∧ Own base w ad zs := by
  have H := h
  obtain ⟨h1, h2⟩ := h
  rcases h2 with ⟨rfl, rfl⟩ | ⟨g, cap, cur, rfl, hb, hg, hle, hm, hsz, htk⟩
  · exact ⟨none, 0, rfl, .inl (by cases zs with | nil => rfl | cons => simp at hn)⟩
  · refine ⟨_, cap, rfl, .inr ⟨g, rfl, hb, (H.lt g rfl).2, fun i hi => ?_, fun i hi => H.frozenAt i⟩⟩
    have hi' : i < (zs.map (Value.int .i64)).length := by simpa using hi
    have e : cur[i]? = some (.int .i64 (zs.getD i 0)) := by
      have : (zs.map (Value.int .i64))[i]? = some (.int .i64 (zs.getD i 0)) := by
        rw [List.getElem?_map, List.getElem?_eq_getElem hi, List.getD_eq_getElem?_getD, List.getElem?_eq_getElem hi]; rfl
      rw [← htk, List.getElem?_take_of_lt (by simp at hi'; omega)] at this
      simpa using this
    simp [World.cell?, hg, e]
theorem own_lit (w : World) (cs : Array Value) (zs : List Int) (h : cs.toList = zs.map (Value.int .i64)) : Own w.heap.size (w.alloc (.cells cs 3)) (some ⟨w.heap.size, 0, none⟩) zs := by
  refine .inr ⟨w.heap.size, rfl, Nat.le_refl _, by simp, fun i hi => ?_, fun i hi => by simp [go_sem]⟩
  rw [World.cell?_alloc_at _ _ _ _ rfl]
  have : cs[i]? = cs.toList[i]? := by simp
  rw [this, h, List.getElem?_map, List.getElem?_eq_getElem hi, List.getD_eq_getElem?_getD, List.getElem?_eq_getElem hi]; rfl
/-- a result that is a slice of one's own -/
def OutSl (w : World) (zs : List Int) (e : Ending) (w' : World) : Prop :=
  ∃ ad cap, e = .returned (.slice ad zs.length cap) ∧ Own w.heap.size w' ad zs ∧ Below w.heap.size w w'

theorem addr_add (b off j : Nat) : (⟨b, off, none⟩ : Addr).add j = ⟨b, off + j, none⟩ := by cases j <;> simp [Addr.add]
theorem Try.info_int : (Try.prog.info? 3).map (fun i => (i.zero, i.size, i.bytes)) = some (some (.int .i64 0), 1, 8) := by kernel_rfl

end Pq
end Go.Proofs.Ytmlinoanpcbflaa

/- What Format, Fits, Form, Good, Gray, Turned and Scaled come to, over any memory, of pix and of the document's own answer. Condition: numbers fit their kinds. -/
namespace Go.Proofs.Ytmlinoanpcbflaa
open Go.RowKit
set_option linter.unusedVariables false
namespace Pq
theorem format_any (c m : Int) (w : World) :
    Calls Try.prog 62 #[.agg #[.int .i64 c, .int .i64 m]] w fun e w' => e = .returned (.bool (Px.formatV c m)) ∧ Below w.heap.size w w' := by
  by_cases hc : c = 1 ∨ c = 3
  · by_cases h1 : 1 ≤ m
    · by_cases h2 : m ≤ 65535
      · rcases hc with rfl | rfl
        · have X := Lib.hid (show true = Px.formatV 1 m by simp [Px.formatV, h1, h2])
          go_enter Try.func62, Try.ntmps62
          go_wp2
          go_ret
          exact ⟨ret_b X.out, (Below.refl _ _).alloc (Nat.le_refl _) _⟩
        · have X := Lib.hid (show true = Px.formatV 3 m by simp [Px.formatV, h1, h2])
          go_enter Try.func62, Try.ntmps62
          go_wp2
          go_ret
          exact ⟨ret_b X.out, (Below.refl _ _).alloc (Nat.le_refl _) _⟩
      · rcases hc with rfl | rfl
        · have X := Lib.hid (show false = Px.formatV 1 m by simp [Px.formatV, h2])
          go_enter Try.func62, Try.ntmps62
          go_wp2
          go_ret
          exact ⟨ret_b X.out, (Below.refl _ _).alloc (Nat.le_refl _) _⟩
        · have X := Lib.hid (show false = Px.formatV 3 m by simp [Px.formatV, h2])
          go_enter Try.func62, Try.ntmps62
          go_wp2
          go_ret
          exact ⟨ret_b X.out, (Below.refl _ _).alloc (Nat.le_refl _) _⟩
    · rcases hc with rfl | rfl
      · have X := Lib.hid (show false = Px.formatV 1 m by simp [Px.formatV, h1])
        go_enter Try.func62, Try.ntmps62
        go_wp2
        go_ret
        exact ⟨ret_b X.out, (Below.refl _ _).alloc (Nat.le_refl _) _⟩
      · have X := Lib.hid (show false = Px.formatV 3 m by simp [Px.formatV, h1])
        go_enter Try.func62, Try.ntmps62
        go_wp2
        go_ret
        exact ⟨ret_b X.out, (Below.refl _ _).alloc (Nat.le_refl _) _⟩
  · have k1 : (c == 1) = false := by simp; omega
    have k3 : (c == 3) = false := by simp; omega
    clear hc
    have X := Lib.hid (show false = Px.formatV c m by simp only [Px.formatV, k1, k3]; rfl)
    go_enter Try.func62, Try.ntmps62
    go_wp2
    go_ret
    exact ⟨ret_b X.out, (Below.refl _ _).alloc (Nat.le_refl _) _⟩

theorem bcell {W w1 : World} (hb : Below W.heap.size W w1) : (∀ b o, b < W.heap.size → w1.cell? ⟨b, o, none⟩ = W.cell? ⟨b, o, none⟩) ∧ (∀ b o, b < W.heap.size → w1.frozen? ⟨b, o, none⟩ = W.frozen? ⟨b, o, none⟩) :=
  ⟨fun b o h => hb.cell (p := ⟨b, o, none⟩) h, fun b o h => hb.frozen (p := ⟨b, o, none⟩) h⟩
theorem max3 (blk off cap : Nat) (a b c : Int) (w : World)
    (c0 : w.cell? ⟨blk, off, none⟩ = some (.int .i64 a)) (c1 : w.cell? ⟨blk, off + 1, none⟩ = some (.int .i64 b)) (c2 : w.cell? ⟨blk, off + 2, none⟩ = some (.int .i64 c)) :
    Calls Try.prog 63 #[.slice (some ⟨blk, off, none⟩) 3 cap] w fun e w' => e = .returned (.int .i64 (max (max a b) c)) ∧ w = w' := by
  go_enter Try.func63, Try.ntmps63
  go_wp2
  go_rounds 3
  all_goals (go_ret; exact ⟨ret_i (by omega), rfl⟩)

theorem max3M (blk off cap : Nat) (a b c M : Int) (hM : Hid (max (max a b) c = M)) (w : World)
    (c0 : w.cell? ⟨blk, off, none⟩ = some (.int .i64 a)) (c1 : w.cell? ⟨blk, off + 1, none⟩ = some (.int .i64 b)) (c2 : w.cell? ⟨blk, off + 2, none⟩ = some (.int .i64 c)) :
    Calls Try.prog 63 #[.slice (some ⟨blk, off, none⟩) 3 cap] w fun e w' => e = .returned (.int .i64 M) ∧ w = w' :=
  (max3 blk off cap a b c w c0 c1 c2).mono fun _ _ h => by rw [← hM.out]; exact h

theorem max1 (blk off cap : Nat) (a : Int) (w : World)
    (c0 : w.cell? ⟨blk, off, none⟩ = some (.int .i64 a)) :
    Calls Try.prog 63 #[.slice (some ⟨blk, off, none⟩) 1 cap] w fun e w' => e = .returned (.int .i64 a) ∧ w = w' := by
  go_enter Try.func63, Try.ntmps63
  go_wp2
  go_rounds 1
  go_ret
  exact ⟨rfl, rfl⟩


theorem box_below (w : World) (cs : Array Value) (t : TypeId) {w1 : World} (hb1 : Below (w.alloc (.cells cs t)).heap.size (w.alloc (.cells cs t)) w1) : Below w.heap.size w w1 :=
  ((Below.refl _ _).alloc (Nat.le_refl _) _).trans (hb1.mono (by simp))

theorem fits3_no (p c m a b d : Int) (h : Px.Is3 p a b d) (k : ((3 : Int) == c) = false) (w : World) :
    Calls Try.prog 50 #[.int .u64 p, .agg #[.int .i64 c, .int .i64 m]] w fun e w' => e = .returned (.bool false) ∧ Below w.heap.size w w' := by
  go_enter Try.func50, Try.ntmps50
  go_wp2_with (go_at_call 61; refine (split3 p a b d h _).mono ?_; rintro e w1 ⟨rfl, hb1⟩)
  have d0 : w1.cell? ⟨w.heap.size, 0, none⟩ = some (.int .i64 c) := cell_later hb1 (by simp [go_sem])
  have d1 : w1.cell? ⟨w.heap.size, 1, none⟩ = some (.int .i64 m) := cell_later hb1 (by simp [go_sem])
  have hz : w.heap.size < w1.heap.size := by have := hb1.size; simp at this; omega
  go_quiet (fail)
  go_wp2
  go_ret
  exact ⟨rfl, below_drewN ((box_below w _ _ hb1).alloc (Nat.le_of_lt hz) _) _⟩
theorem fits1_no (p c m a : Int) (h : Px.Is1 p a) (k : ((1 : Int) == c) = false) (w : World) :
    Calls Try.prog 50 #[.int .u64 p, .agg #[.int .i64 c, .int .i64 m]] w fun e w' => e = .returned (.bool false) ∧ Below w.heap.size w w' := by
  go_enter Try.func50, Try.ntmps50
  go_wp2_with (go_at_call 61; refine (split1 p a h _).mono ?_; rintro e w1 ⟨rfl, hb1⟩)
  have d0 : w1.cell? ⟨w.heap.size, 0, none⟩ = some (.int .i64 c) := cell_later hb1 (by simp [go_sem])
  have d1 : w1.cell? ⟨w.heap.size, 1, none⟩ = some (.int .i64 m) := cell_later hb1 (by simp [go_sem])
  have hz : w.heap.size < w1.heap.size := by have := hb1.size; simp at this; omega
  go_quiet (fail)
  go_wp2
  go_ret
  exact ⟨rfl, below_drewN ((box_below w _ _ hb1).alloc (Nat.le_of_lt hz) _) _⟩
theorem fits0_no (p c m : Int) (hU : Px.U p) (h : Px.Is0 p) (k : ((0 : Int) == c) = false) (w : World) :
    Calls Try.prog 50 #[.int .u64 p, .agg #[.int .i64 c, .int .i64 m]] w fun e w' => e = .returned (.bool false) ∧ Below w.heap.size w w' := by
  go_enter Try.func50, Try.ntmps50
  go_wp2_with (go_at_call 61; refine (split0 p hU h _).mono ?_; rintro e w1 ⟨rfl, hb1⟩)
  have d0 : w1.cell? ⟨w.heap.size, 0, none⟩ = some (.int .i64 c) := cell_later hb1 (by simp [go_sem])
  have d1 : w1.cell? ⟨w.heap.size, 1, none⟩ = some (.int .i64 m) := cell_later hb1 (by simp [go_sem])
  have hz : w.heap.size < w1.heap.size := by have := hb1.size; simp at this; omega
  go_quiet (fail)
  go_wp2
  go_ret
  exact ⟨rfl, below_drewN ((box_below w _ _ hb1).alloc (Nat.le_of_lt hz) _) _⟩
end Pq
end Go.Proofs.Ytmlinoanpcbflaa

/- Unpack at numbers that are pixels of three samples, of one, and at those that are none. Condition: numbers fit their kinds. -/
namespace Go.Proofs.Ytmlinoanpcbflaa
open Go.RowKit
set_option linter.unusedVariables false
namespace Pq
/-- three, one, no integers in memory of the call's own -/
def Own3 (base : Nat) (w' : World) (g : Nat) (a b c : Int) : Prop :=
  base ≤ g ∧ g < w'.heap.size ∧ w'.cell? ⟨g, 0, none⟩ = some (.int .i64 a) ∧ w'.cell? ⟨g, 1, none⟩ = some (.int .i64 b) ∧ w'.cell? ⟨g, 2, none⟩ = some (.int .i64 c) ∧
    w'.frozen? ⟨g, 0, none⟩ = false ∧ w'.frozen? ⟨g, 1, none⟩ = false ∧ w'.frozen? ⟨g, 2, none⟩ = false
def Own1 (base : Nat) (w' : World) (g : Nat) (a : Int) : Prop :=
  base ≤ g ∧ g < w'.heap.size ∧ w'.cell? ⟨g, 0, none⟩ = some (.int .i64 a) ∧ w'.frozen? ⟨g, 0, none⟩ = false
theorem own3 {base : Nat} {w : World} {ad : Option Addr} {a b c : Int} (h : Own base w ad [a, b, c]) : ∃ g, ad = some ⟨g, 0, none⟩ ∧ Own3 base w g a b c := by
  rcases h with h | ⟨g, h1, h2, h3, h4, h5⟩
  · cases h
  · exact ⟨g, h1, h2, h3, h4 0 (by simp), h4 1 (by simp), h4 2 (by simp), h5 0 (by simp), h5 1 (by simp), h5 2 (by simp)⟩
theorem own1 {base : Nat} {w : World} {ad : Option Addr} {a : Int} (h : Own base w ad [a]) : ∃ g, ad = some ⟨g, 0, none⟩ ∧ Own1 base w g a := by
  rcases h with h | ⟨g, h1, h2, h3, h4, h5⟩
  · cases h
  · exact ⟨g, h1, h2, h3, h4 0 (by simp), h5 0 (by simp)⟩
theorem isU3 {p a b c : Int} (h : Px.Is3 p a b c) : Px.U p := by unfold Px.Is3 at h; unfold Px.U; omega
theorem isU1 {p a : Int} (h : Px.Is1 p a) : Px.U p := by unfold Px.Is1 at h; unfold Px.U; omega
end Pq
end Go.Proofs.Ytmlinoanpcbflaa

/- What Fits, Good, Same and the example of the document's own answer come to, over any memory. Condition: numbers fit their kinds. -/
namespace Go.Proofs.Ytmlinoanpcbflaa
open Go.RowKit
set_option linter.unusedVariables false
namespace Pq

end Pq
end Go.Proofs.Ytmlinoanpcbflaa

/- A head in four cells of a block of the call's own, over any memory. No condition. -/
namespace Go.Proofs.Ytmlinoanpcbflaa
open Go.RowKit
set_option linter.unusedVariables false

/-- a head, as a value -/
def agH (h : Hd.H) : Value := .agg #[.int .i64 h.kd, .int .i64 h.w, .int .i64 h.h, .int .i64 h.m]
/-- four cells in a block of the call's own -/
def Hb (w : World) (b : Nat) (t : TypeId) (h : Hd.H) : Prop := w.heap[b]? = some (.cells #[.int .i64 h.kd, .int .i64 h.w, .int .i64 h.h, .int .i64 h.m] t (0, 0))
section
variable {w w' : World} {b : Nat} {t : TypeId} {h : Hd.H}
theorem Hb.lt (hh : Hb w b t h) : b < w.heap.size := (Array.getElem?_eq_some_iff.1 hh).1
theorem Hb.later (hh : Hb w b t h) (hb : Below w.heap.size w w') : Hb w' b t h := (hb.block b hh.lt).trans hh
theorem Hb.sep {Z : Nat → Prop} (hh : Hb w b t h) (hs : Sep Z w w') (hz : ¬ Z b) : Hb w' b t h := (hs.block b hh.lt hz).trans hh
theorem Hb.kept {row : Option Nat} (hh : Hb w b t h) (hg : w.grownBy w' row) (hne : some b ≠ row) : Hb w' b t h := (hg.block b hh.lt hne).trans hh
theorem Hb.cells (hh : Hb w b t h) : w.cell? ⟨b, 0, none⟩ = some (.int .i64 h.kd) ∧ w.cell? ⟨b, 1, none⟩ = some (.int .i64 h.w) ∧ w.cell? ⟨b, 2, none⟩ = some (.int .i64 h.h) ∧ w.cell? ⟨b, 3, none⟩ = some (.int .i64 h.m) := by
  have h' : w.heap[b]? = _ := hh
  refine ⟨?_, ?_, ?_, ?_⟩ <;> simp [World.cell?, h']
theorem Hb.fr (hh : Hb w b t h) : w.frozen? ⟨b, 0, none⟩ = false ∧ w.frozen? ⟨b, 1, none⟩ = false ∧ w.frozen? ⟨b, 2, none⟩ = false ∧ w.frozen? ⟨b, 3, none⟩ = false := by
  have h' : w.heap[b]? = _ := hh
  refine ⟨?_, ?_, ?_, ?_⟩ <;> simp [World.frozen?, h']
theorem Hb.new (w : World) (t : TypeId) (h : Hd.H) : Hb (w.alloc (.cells #[.int .i64 h.kd, .int .i64 h.w, .int .i64 h.h, .int .i64 h.m] t)) w.heap.size t h := World.alloc_heap_new w _
theorem Hb.alloc (hh : Hb w b t h) (o : Obj) : Hb (w.alloc o) b t h := hh.kept (World.grownBy_alloc w o none) (by simp)
theorem Hb.drew (hh : Hb w b t h) : Hb w.drew b t h := hh
theorem Hb.put (hh : Hb w b t h) (k : Hd.H) : Hb ((((w.setCell ⟨b, 0, none⟩ (.int .i64 k.kd)).setCell ⟨b, 1, none⟩ (.int .i64 k.w)).setCell ⟨b, 2, none⟩ (.int .i64 k.h)).setCell ⟨b, 3, none⟩ (.int .i64 k.m)) b t k := by
  have h' : w.heap[b]? = _ := hh
  have h1 := Go.heap_setCell_same w b 0 _ _ (.int .i64 k.kd) h'
  have h2 := Go.heap_setCell_same _ b 1 _ _ (.int .i64 k.w) h1
  have h3 := Go.heap_setCell_same _ b 2 _ _ (.int .i64 k.h) h2
  have h4 := Go.heap_setCell_same _ b 3 _ _ (.int .i64 k.m) h3
  simpa [Hb] using h4
end
theorem Hj.ret3 {P : Program} {fn : Func} {p u v : Tmp} {ty : TypeId} (h : fn.results = #[.cell p ty, .tmp u, .tmp v]) (tmps : Array Value) (w : World) (b : Nat) (val : Value) (hp : tmps.getD p undef = .pointer (some ⟨b, 0, none⟩)) (hl : (loadVar ty ⟨b, 0, none⟩).run P w = .ok val w) :
    (results fn tmps).run P w = .ok (.tuple #[val, tmps.getD u undef, tmps.getD v undef]) w := by
  have hp' : tmps[p]?.getD undef = .pointer (some ⟨b, 0, none⟩) := by simpa using hp
  simp only [results, h]
  simp [hp', asAddr, hl, Result.andThen]
theorem Hj.ret1 {P : Program} {fn : Func} {p : Tmp} {ty : TypeId} (h : fn.results = #[.cell p ty]) (tmps : Array Value) (w : World) (b : Nat) (val : Value) (hp : tmps.getD p undef = .pointer (some ⟨b, 0, none⟩)) (hl : (loadVar ty ⟨b, 0, none⟩).run P w = .ok val w) :
    (results fn tmps).run P w = .ok val w := by
  have hp' : tmps[p]?.getD undef = .pointer (some ⟨b, 0, none⟩) := by simpa using hp
  simp only [results, h]
  simp [hp', asAddr, hl]
end Go.Proofs.Ytmlinoanpcbflaa

/- Whether two heads, or two formats, are the same, by '==' and '!='. No condition. -/
namespace Go.Proofs.Ytmlinoanpcbflaa
open Go.RowKit
set_option linter.unusedVariables false
def Hj.same4 (a b c d x y z u : Int) : Bool := ((a == x) && (b == y)) && (c == z) && (d == u)
theorem Hj.same4_self (a b c d : Int) : Hj.same4 a b c d a b c d = true := by simp [Hj.same4]
def Hj.same2 (a b x y : Int) : Bool := (a == x) && (b == y)
theorem Hj.same2_self (a b : Int) : Hj.same2 a b a b = true := by simp [Hj.same2]
theorem feq_run (a b x y : Int) (w : World) : (binOp .eql 25 (.agg #[.int .i64 a, .int .i64 b]) (.agg #[.int .i64 x, .int .i64 y])).run Try.prog w = .ok (.bool (Hj.same2 a b x y)) w := by
  rw [run_eql_struct]
  unfold Hj.same2
  cases h1 : (a == x) <;> cases h2 : (b == y) <;> simp [go_sem, h1, h2]
theorem feq_guard (a b : Operand) (xs ys : Array Value) (w : World) : (eqGuard .eql 25 a b (.agg xs) (.agg ys)).run Try.prog w = .ok () w := run_eqGuard_agg _ _ _ _ _ _ _ (by kernel_rfl)
end Go.Proofs.Ytmlinoanpcbflaa
