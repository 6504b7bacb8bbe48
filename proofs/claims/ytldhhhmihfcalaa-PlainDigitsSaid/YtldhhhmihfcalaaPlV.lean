/- All pixels of a raster of digits, as a plain function; a reader beside a list that grows. No condition. -/
import Derived.Test.YtldhhhmihfcalaaPlG
import Derived.Test.YtldhhhmihfcalaaApp
namespace Go.Proofs.Ytldhhhmihfcalaa
open Go.RowKit
set_option linter.unusedVariables false
namespace Pl
/-- told the rest of a text, i bytes in -/
def readF : S → Nat → List Int → List Int → List Int × Int × Int
  | s, i, acc, [] => if (fin s).1.last = 2 then ([], 0, (fin s).1.e) else (acc ++ (fin s).2, (i : Int), 0)
  | s, i, acc, c :: cs =>
    if (put s c).1.last = 1 then (acc ++ (put s c).2, (i : Int) + 1, 0)
    else if (put s c).1.last = 2 then ([], 0, (put s c).1.e)
    else readF (put s c).1 (i + 1) (acc ++ (put s c).2) cs
def readV (h : Hd.H) (x : List Int) : List Int × Int × Int := if May h then readF (new h) 0 [] x else ([], 0, 1)
theorem readF_over {s : S} {q : S × List Int} {i : Nat} {acc : List Int} {c : Int} {cs : List Int} (hq : put s c = q) (h : q.1.last = 1) : readF s i acc (c :: cs) = (acc ++ q.2, (i : Int) + 1, 0) := by rw [readF, hq, if_pos h]
theorem readF_wrong {s : S} {q : S × List Int} {i : Nat} {acc : List Int} {c : Int} {cs : List Int} (hq : put s c = q) (h : q.1.last = 2) : readF s i acc (c :: cs) = ([], 0, q.1.e) := by rw [readF, hq, if_neg (by omega), if_pos h]
theorem readF_more {s : S} {q : S × List Int} {i : Nat} {acc : List Int} {c : Int} {cs : List Int} (hq : put s c = q) (h : q.1.last = 0) : readF s i acc (c :: cs) = readF q.1 (i + 1) (acc ++ q.2) cs := by rw [readF, hq, if_neg (by omega), if_neg (by omega)]
theorem readF_nil {s : S} {q : S × List Int} {i : Nat} {acc : List Int} (hq : fin s = q) : readF s i acc [] = if q.1.last = 2 then ([], 0, q.1.e) else (acc ++ q.2, (i : Int), 0) := by rw [readF, hq]
theorem sample_grow (s : S) (n : Int) : (sample s n).2.length + (sample s n).1.row.length ≤ s.row.length + 1 := by
  unfold sample
  split
  · simp [more]
  · split <;> simp [pixel, line]
theorem put_grow (s : S) (c : Int) : (put s c).2.length + (put s c).1.row.length ≤ s.row.length + 1 := by
  unfold put
  split
  · simp
  split
  · split
    · exact sample_grow s _
    · simp
  split
  · split
    · exact sample_grow s _
    · simp [wrong]
  split
  · simp [digit]
  · simp [wrong]
theorem fin_grow (s : S) : (fin s).2.length ≤ s.row.length + 1 := by
  have := put_grow s 32
  unfold fin
  split
  · show (put s 32).2.length ≤ _; omega
  · omega
theorem fin_last {s : S} (hG : Good s) : (fin s).1.last = 1 ∨ (fin s).1.last = 2 := by
  have hg := (good_put hG 32).last
  unfold fin
  split
  · exact .inr rfl
  · omega
end Pl
/-- a list's memory is not the reader's -/
def Ap (v : Value) (b : Nat) (sv rv : Value) : Prop := ∀ k, v.ownBlock = some k → ¬ PlZ b sv rv k
theorem ap_nil (b : Nat) (sv rv : Value) : Ap (.slice none 0 0) b sv rv := fun k hk => by cases hk
theorem Ap.ne {v : Value} {b : Nat} {sv rv : Value} (h : Ap v b sv rv) : some b ≠ v.ownBlock := fun e => h b e.symm (.inl rfl)
theorem Ap.s {v : Value} {b : Nat} {sv rv : Value} (h : Ap v b sv rv) : sv.ownBlock = none ∨ sv.ownBlock ≠ v.ownBlock := by
  cases hv : sv.ownBlock with
  | none => exact .inl rfl
  | some k => right; intro e; exact h k e.symm (.inr (.inl hv))
theorem Ap.r {v : Value} {b : Nat} {sv rv : Value} (h : Ap v b sv rv) : rv.ownBlock = none ∨ rv.ownBlock ≠ v.ownBlock := by
  cases hv : rv.ownBlock with
  | none => exact .inl rfl
  | some k => right; intro e; exact h k e.symm (.inr (.inr hv))
theorem row_sep {w w2 : World} {b : Nat} {sv rv v : Value} {base k : Nat} {e : TypeId} {xs : List Value} (hr : w.ownsRow base e 1 v k xs) (hs : Sep (PlZ b sv rv) w w2) (ha : Ap v b sv rv) : w2.ownsRow base e 1 v k xs := by
  refine ⟨hr.1, ?_⟩
  rcases hr.2 with h | ⟨g, cap, cur, rfl, hb, hg, r⟩
  · exact .inl h
  · exact .inr ⟨g, cap, cur, rfl, hb, (hs.block g (Array.getElem?_eq_some_iff.1 hg).1 (ha g rfl)).trans hg, r⟩
theorem ap_put {w : World} {b base k : Nat} {sv rv sv' rv' v : Value} {e : TypeId} {xs : List Value} (hr : w.ownsRow base e 1 v k xs) (ha : Ap v b sv rv) (hs : PlNew w sv sv') (hn : PlNew w rv rv') : Ap v b sv' rv' := by
  intro j hj hz
  have hlt := (hr.lt j hj).2
  have hnz := ha j hj
  rcases hz with rfl | hz | hz
  · exact hnz (.inl rfl)
  · rcases hs with h | h
    · exact hnz (.inr (.inl (by rw [← h]; exact hz)))
    · have := h j hz; omega
  · rcases hn with h | h
    · exact hnz (.inr (.inr (by rw [← h]; exact hz)))
    · have := h j hz; omega
theorem PlX.lt {w : World} {b : Nat} {sv rv : Value} {s : Pl.S} (X : PlX w b sv rv s) : b < w.heap.size := by obtain ⟨n, x, hC, _⟩ := X.ex; exact hC.lt
theorem PlX.kept {w w' : World} {b : Nat} {sv rv v : Value} {s : Pl.S} (X : PlX w b sv rv s) (ha : Ap v b sv rv) (hg : w.grownBy w' v.ownBlock) : PlX w' b sv rv s := by
  obtain ⟨n, x, hC, hx⟩ := X.ex
  refine ⟨X.g, z_up X.z hg.size, n, x, hC.kept hg ha.ne, fun h0 => ?_⟩
  obtain ⟨e1, e2, h1, h2⟩ := hx h0
  exact ⟨e1, e2, h1.kept hg ha.s, h2.kept hg ha.r⟩
theorem PlX.later {w w' : World} {b : Nat} {sv rv : Value} {s : Pl.S} (X : PlX w b sv rv s) (hb : Below w.heap.size w w') : PlX w' b sv rv s := by
  obtain ⟨n, x, hC, hx⟩ := X.ex
  refine ⟨X.g, z_up X.z hb.size, n, x, hC.later hb, fun h0 => ?_⟩
  obtain ⟨e1, e2, h1, h2⟩ := hx h0
  exact ⟨e1, e2, below_row h1 hb, below_row h2 hb⟩
theorem ap_app {w : World} {b : Nat} {sv rv v v' : Value} {s : Pl.S} (X : PlX w b sv rv s) (ha : Ap v b sv rv) (hat : v'.ownBlock = v.ownBlock ∨ v'.ownBlock = some w.heap.size) : Ap v' b sv rv := by
  intro k hk hz
  rcases hat with h | h
  · exact ha k (by rw [← h]; exact hk) hz
  · rw [h] at hk; cases hk
    have := (X.z _ hz).2; omega
theorem plError_x {w : World} {b : Nat} {sv rv : Value} {s : Pl.S} (X : PlX w b sv rv s) :
    Calls Try.prog 47 #[.pointer (some ⟨b, 0, none⟩)] w fun e w' => e = .returned (.int .i64 s.e) ∧ w = w' := by
  obtain ⟨n, x, hC, _⟩ := X.ex
  exact plError_any w b s.h n sv rv s.rows s.last s.e x hC
theorem plRows_x {w : World} {b : Nat} {sv rv : Value} {s : Pl.S} (X : PlX w b sv rv s) :
    Calls Try.prog 46 #[.pointer (some ⟨b, 0, none⟩)] w fun e w' => e = .returned (.int .i64 s.rows) ∧ w = w' := by
  obtain ⟨n, x, hC, _⟩ := X.ex
  exact plRows_any w b s.h n sv rv s.rows s.last s.e x hC
theorem slk_row {w : World} {base k : Nat} {v : Value} {l : List Int} (hr : w.ownsRow base 88 1 v k (pixs l)) (hk : l.length = k) :
    ∃ a c, v = .slice a k c ∧ SlK .u64 w a k l := by
  rcases hr.2 with ⟨rfl, rfl⟩ | ⟨g, cap, cur, rfl, hb, hg, hle, hm, hs, ht⟩
  · exact ⟨none, 0, rfl, hk, .inl rfl⟩
  · exact ⟨_, cap, rfl, slk_of_row (c := cap) hr hk⟩
/-- all pixels, told -/
def RdR (t : List Int × Int × Int) (w : World) (e : Ending) (w' : World) : Prop :=
  ∃ a c, e = .returned (.tuple #[.slice a t.1.length c, .int .i64 t.2.1, .int .i64 t.2.2]) ∧ SlK .u64 w' a t.1.length t.1 ∧ Below w.heap.size w w'
theorem rdr_nil {t : List Int × Int × Int} {e1 e2 : Int} (ht : t = ([], e1, e2)) {w w' : World} (hB : Below w.heap.size w w') : RdR t w (.returned (.tuple #[.slice none 0 0, .int .i64 e1, .int .i64 e2])) w' :=
  ⟨none, 0, by rw [ht]; rfl, by rw [ht]; exact slk_nil, hB⟩
theorem rdr_row {t : List Int × Int × Int} {l : List Int} {e1 e2 x : Int} (ht : t = (l, e1, e2)) (hx : x = e1) {w w' : World} {base k : Nat} {v : Value} (hr : w'.ownsRow base 88 1 v k (pixs l)) (hk : l.length = k) (hB : Below w.heap.size w w') : RdR t w (.returned (.tuple #[v, .int .i64 x, .int .i64 e2])) w' := by
  obtain ⟨a, c, rfl, hs⟩ := slk_row hr hk
  subst hk; subst hx
  exact ⟨a, c, by rw [ht], by rw [ht]; exact hs, hB⟩
end Go.Proofs.Ytldhhhmihfcalaa
