/- The document's reader of digits is told a byte: what it comes to, over any memory. Condition: its head may be. -/
import Derived.Test.YtmnhiagppicegaaGreatZPlP
import Derived.Test.YtmnhiagppicegaaGreatZgAE
import Derived.Deep.RegionHeld3
import Derived.Deep.DeepCutAuto
import Derived.Test.YtmnhiagppicegaaGreatZgAB
import Derived.Test.YtmnhiagppicegaaGreatZgAC
import Derived.Test.YtmnhiagppicegaaGreatZgAD
import Derived.Deep.RegionLaw
import Derived.Deep.AppendLies
import Derived.Test.YtmnhiagppicegaaGreatZHedK
import Derived.Test.YtmnhiagppicegaaGreatZgAA
import Derived.Test.YtmnhiagppicegaaGreatZPlWi
import Derived.Test.YtmnhiagppicegaaGreatZgAF
import Derived.RegionIn
import Derived.Shelf.Strings.BuilderK
import Derived.Deep.LoopGhost
namespace Go.Proofs.YtmnhiagppicegaaGreat
open Go.RowKit
set_option linter.unusedVariables false

/-- v is the document's reader where s says; its memory is what was handed in, or was made since W -/
def RfF (A1 A2 : Option Addr) (O1 O2 : List Int) (W w : World) (v : Value) (s : Pl.S) : Prop :=
  ∃ a1 c1 a2 c2, v = agR s.h (Pl.nn s) (.slice a1 s.one.length c1) (.slice a2 s.row.length c2) s.rows s.last s.e ∧ SlK .i64 w a1 s.one.length s.one ∧ SlK .u64 w a2 s.row.length s.row ∧ ((a1 = A1 ∧ s.one = O1) ∨ Nw W a1) ∧ ((a2 = A2 ∧ s.row = O2) ∨ Nw W a2)
/-- a block that was made between W0 and W is written into -/
theorem slk_far {q : IntKind} {W0 W w w' : World} {a : Option Addr} {n b : Nat} {l : List Int} (h : SlK q w a n l) (hf : SlK q W0 a n l ∨ Nw W a) (h1 : W0.heap.size ≤ b) (h2 : b < W.heap.size) (hg : w.grownBy w' (some b)) : SlK q w' a n l := by
  rcases hf with hf | hf
  · refine ⟨h.1, ?_⟩
    rcases hf.2 with h0 | ⟨g, o, rfl, hc⟩
    · exact .inl h0
    · rcases h.2 with h0 | ⟨g', o', ha, hc'⟩
      · exact .inl h0
      · cases ha
        refine .inr ⟨g, o, rfl, fun i hi => ?_⟩
        have hlt := block_lt_of_cell (hc i hi)
        exact hg.cell (hc' i hi) (by intro e; injection e with e; have e : g = b := e; omega)
  · exact slk_kept h (far_of hf h2) hg
theorem RfF.far {A1 A2 : Option Addr} {O1 O2 : List Int} {W0 W w w' : World} {v : Value} {s : Pl.S} (h : RfF A1 A2 O1 O2 W w v s) {n1 n2 : Nat} (S1 : SlK .i64 W0 A1 n1 O1) (S2 : SlK .u64 W0 A2 n2 O2) {b : Nat} (h1 : W0.heap.size ≤ b) (h2 : b < W.heap.size) (hg : w.grownBy w' (some b)) : RfF A1 A2 O1 O2 W w' v s := by
  obtain ⟨a1, c1, a2, c2, hv, s1, s2, f1, f2⟩ := h
  refine ⟨a1, c1, a2, c2, hv, slk_far s1 (f1.imp ?_ id) h1 h2 hg, slk_far s2 (f2.imp ?_ id) h1 h2 hg, f1, f2⟩
  · rintro ⟨rfl, e⟩; rw [e]; have := S1.1; rw [this]; exact S1
  · rintro ⟨rfl, e⟩; rw [e]; have := S2.1; rw [this]; exact S2
theorem RfF.mono {A1 A2 : Option Addr} {O1 O2 : List Int} {W W' w : World} {v : Value} {s : Pl.S} (h : RfF A1 A2 O1 O2 W' w v s) (hw : W.heap.size ≤ W'.heap.size) : RfF A1 A2 O1 O2 W w v s := by
  obtain ⟨a1, c1, a2, c2, hv, s1, s2, f1, f2⟩ := h
  exact ⟨a1, c1, a2, c2, hv, s1, s2, f1.imp id (nw_mono hw), f2.imp id (nw_mono hw)⟩
theorem RfF.later {A1 A2 : Option Addr} {O1 O2 : List Int} {W w w' : World} {v : Value} {s : Pl.S} (h : RfF A1 A2 O1 O2 W w v s) (hb : Below w.heap.size w w') : RfF A1 A2 O1 O2 W w' v s := by
  obtain ⟨a1, c1, a2, c2, hv, s1, s2, f1, f2⟩ := h
  exact ⟨a1, c1, a2, c2, hv, s1.below hb, s2.below hb, f1, f2⟩
end Go.Proofs.YtmnhiagppicegaaGreat

/- The document's reader of digits is told the end: what it comes to, over any memory. Condition: its head may be. -/
namespace Go.Proofs.YtmnhiagppicegaaGreat
open Go.RowKit
set_option linter.unusedVariables false

end Go.Proofs.YtmnhiagppicegaaGreat

/- All pixels of a raster of digits by the document, over any memory. Condition: the text is short, the head's numbers fit. -/
namespace Go.Proofs.YtmnhiagppicegaaGreat
open Go.RowKit
set_option linter.unusedVariables false

/-- a slice that is known, in memory that is neither the block k nor the value v's own -/
def SlF (q : IntKind) (w : World) (a : Option Addr) (n : Nat) (l : List Int) (k : Nat) (v : Value) : Prop :=
  l.length = n ∧ (n = 0 ∨ ∃ g o, a = some ⟨g, o, none⟩ ∧ g ≠ k ∧ v.ownBlock ≠ some g ∧ ∀ i, i < n → w.cell? ⟨g, o + i, none⟩ = some (.int q (l.getD i 0)))
theorem SlF.sl {q : IntKind} {w : World} {a : Option Addr} {n k : Nat} {l : List Int} {v : Value} (h : SlF q w a n l k v) : SlK q w a n l := by
  refine ⟨h.1, ?_⟩
  rcases h.2 with h | ⟨g, o, ha, _, _, hc⟩
  · exact .inl h
  · exact .inr ⟨g, o, ha, hc⟩
theorem SlF.put {q : IntKind} {w w' : World} {a : Option Addr} {n k : Nat} {l : List Int} {v : Value} (h : SlF q w a n l k v) (hg : w.grownBy w' (some k)) : SlF q w' a n l k v := by
  refine ⟨h.1, ?_⟩
  rcases h.2 with h | ⟨g, o, ha, h1, h2, hc⟩
  · exact .inl h
  · exact .inr ⟨g, o, ha, h1, h2, fun i hi => hg.cell (hc i hi) (by intro e; injection e with e; exact h1 e)⟩
theorem SlF.app {q : IntKind} {w w' : World} {a : Option Addr} {n k : Nat} {l : List Int} {v v' : Value} (h : SlF q w a n l k v) (hg : w.grownBy w' v.ownBlock) (hat : v'.ownBlock = v.ownBlock ∨ v'.ownBlock = some w.heap.size) : SlF q w' a n l k v' := by
  refine ⟨h.1, ?_⟩
  by_cases hn : n = 0
  · exact .inl hn
  rcases h.2 with h | ⟨g, o, ha, h1, h2, hc⟩
  · exact .inl h
  · refine .inr ⟨g, o, ha, h1, ?_, fun i hi => hg.cell (hc i hi) (fun e => h2 e.symm)⟩
    rcases hat with e | e
    · rw [e]; exact h2
    · rw [e]; intro e2; injection e2 with e2
      have h3 : g < w.heap.size := block_lt_of_cell (hc 0 (by omega))
      omega
theorem SlF.of {q : IntKind} {wr w : World} {a A : Option Addr} {n m k : Nat} {l O : List Int} {v : Value} (h : SlK q w a n l) (hf : (a = A ∧ l = O) ∨ Nw wr a) (hA : SlF q wr A m O k v) (hk : k < wr.heap.size) (hv : ∀ j, v.ownBlock = some j → j < wr.heap.size) : SlF q w a n l k v := by
  refine ⟨h.1, ?_⟩
  rcases h.2 with h0 | ⟨g, o, ha, hc⟩
  · exact .inl h0
  · by_cases hn : n = 0
    · exact .inl hn
    refine .inr ⟨g, o, ha, ?_, ?_, hc⟩
    · rcases hf with ⟨rfl, rfl⟩ | hf
      · rcases hA.2 with h0 | ⟨g', o', ha', h1, h2, _⟩
        · exact absurd (h.1.symm.trans (hA.1.trans h0)) hn
        · rw [ha] at ha'; cases ha'; exact h1
      · have h3 : wr.heap.size ≤ g := hf _ ha
        intro e; have e4 : g = k := e; omega
    · rcases hf with ⟨rfl, rfl⟩ | hf
      · rcases hA.2 with h0 | ⟨g', o', ha', h1, h2, _⟩
        · exact absurd (h.1.symm.trans (hA.1.trans h0)) hn
        · rw [ha] at ha'; cases ha'; exact h2
      · intro e; have h1 := hv g e; have h2 : wr.heap.size ≤ g := hf _ ha; omega
section
variable {A1 A2 : Option Addr} {O1 O2 : List Int} {q : Pl.S × List Int} {wr W w9 : World} {m1 m2 m : Nat} {h2 : Hd.H} {N2 rows2 last2 er2 : Int} {b1 b2 a : Option Addr} {e1 e2 c : Nat}
end
end Go.Proofs.YtmnhiagppicegaaGreat

/- Two heads in a block of the call's own; Read of both told as one. No condition. -/
namespace Go.Proofs.YtmnhiagppicegaaGreat
open Go.RowKit
set_option linter.unusedVariables false

def Ha (w : World) (g : Nat) (h k : Hd.H) : Prop := w.heap[g]? = some (.cells #[.int .i64 h.kd, .int .i64 h.w, .int .i64 h.h, .int .i64 h.m, .int .i64 k.kd, .int .i64 k.w, .int .i64 k.h, .int .i64 k.m] 112 (0, 0))
section
variable {w w' : World} {g : Nat} {h k : Hd.H}
theorem Ha.lt (H : Ha w g h k) : g < w.heap.size := (Array.getElem?_eq_some_iff.1 H).1
theorem Ha.later (H : Ha w g h k) (hb : Below w.heap.size w w') : Ha w' g h k := (hb.block g H.lt).trans H
theorem Ha.cells (H : Ha w g h k) : w.cell? ⟨g, 0, none⟩ = some (.int .i64 h.kd) ∧ w.cell? ⟨g, 1, none⟩ = some (.int .i64 h.w) ∧ w.cell? ⟨g, 2, none⟩ = some (.int .i64 h.h) ∧ w.cell? ⟨g, 3, none⟩ = some (.int .i64 h.m) ∧ w.cell? ⟨g, 4, none⟩ = some (.int .i64 k.kd) ∧ w.cell? ⟨g, 5, none⟩ = some (.int .i64 k.w) ∧ w.cell? ⟨g, 6, none⟩ = some (.int .i64 k.h) ∧ w.cell? ⟨g, 7, none⟩ = some (.int .i64 k.m) := by
  have h' : w.heap[g]? = _ := H
  refine ⟨?_, ?_, ?_, ?_, ?_, ?_, ?_, ?_⟩ <;> simp [World.cell?, h']
end
end Go.Proofs.YtmnhiagppicegaaGreat

/- How many bytes a row has, by the document and by the code; the document's example. Condition: the head may be. -/
namespace Go.Proofs.YtmnhiagppicegaaGreat
open Go.RowKit
set_option linter.unusedVariables false

def Rw.strideV (h : Hd.H) : Int := if 4 ≤ h.kd then (Rw.stride h : Int) else 0
theorem Rw.strideV_size {h : Hd.H} (H : Hd.May h) : Rw.strideV h * h.h = Hj.size h ∧ 0 ≤ Rw.strideV h ∧ Rw.strideV h ≤ 24576 := by
  unfold Rw.strideV
  split
  · rename_i h4
    have hs := (Rw.stride_at ⟨H, h4⟩).2.1
    rw [Rw.size_eq ⟨H, h4⟩, Int.mul_comm]
    exact ⟨rfl, by omega, by omega⟩
  · rw [Hj.size_small (by omega)]; simp
end Go.Proofs.YtmnhiagppicegaaGreat

/- Samples of bytes, and with which byte a raster is wrong, by the document, over any memory. Condition: not too many bytes. -/
namespace Go.Proofs.YtmnhiagppicegaaGreat
open Go.RowKit
set_option linter.unusedVariables false
namespace Rw
theorem take_snoc1 (bs : List Int) (i : Nat) (h : i < bs.length) : bs.take (i + 1) = bs.take i ++ [bs.getD i 0] := by
  rw [List.take_succ_eq_append_getElem h, List.getD_eq_getElem?_getD, List.getElem?_eq_getElem h]; rfl
theorem smp_in {h : Hd.H} {r : List Int} (hr : ∀ x ∈ r, 0 ≤ x ∧ x ≤ 255) : ∀ x ∈ smp h r, 0 ≤ x ∧ x ≤ 65535 := by
  revert hr
  refine snoc_ind (P := fun r => (∀ x ∈ r, 0 ≤ x ∧ x ≤ 255) → ∀ x ∈ smp h r, 0 ≤ x ∧ x ≤ 65535) (fun _ x hx => by cases hx) (fun l c ih hr => ?_) r
  have hl : ∀ x ∈ l, 0 ≤ x ∧ x ≤ 255 := fun x hx => hr x (List.mem_append_left _ hx)
  have hc := hr c (by simp)
  by_cases hf : (parts (wide h) l).2.length + 1 = wide h
  · rw [smp_more hf]
    intro x hx
    rcases List.mem_append.1 hx with hx | hx
    · exact ih hl x hx
    · rw [List.mem_singleton.1 hx]
      rcases wait_in (h := h) hl with e | ⟨y, e, y0, y1, _⟩
      · rw [e]; show 0 ≤ val [c] ∧ _ ≤ _; rw [show ([] : List Int) ++ [c] = [c] from rfl, val_one]; omega
      · rw [e]; show 0 ≤ val [y, c] ∧ val [y, c] ≤ _; rw [val_two]; omega
  · rw [smp_wait hf]; exact ih hl
/-- the number of the byte with which samples are wrong -/
def badL (w m : Int) : List Int → Int → Int
  | [], _ => 0
  | x :: l, i => if m < x then w * (i + 1) else badL w m l (i + 1)
def badV (h : Hd.H) (bs : List Int) : Int := if h.kd = 4 then 0 else badL (wide h) h.m (smp h (bs.take (Hj.size h).toNat)) 0
end Rw
end Go.Proofs.YtmnhiagppicegaaGreat

/- With which byte a raster is wrong, by the document, over any memory. Condition: not too many bytes, the head may be. -/
namespace Go.Proofs.YtmnhiagppicegaaGreat
open Go.RowKit
set_option linter.unusedVariables false
theorem Rw.badL_cons (w m x : Int) (l : List Int) (i : Int) : Rw.badL w m (x :: l) i = if m < x then w * (i + 1) else Rw.badL w m l (i + 1) := by rw [Rw.badL]
end Go.Proofs.YtmnhiagppicegaaGreat

/- A row's pixels, by the document, over any memory. Condition: the head may be, the bytes are a row's. -/
namespace Go.Proofs.YtmnhiagppicegaaGreat
open Go.RowKit
set_option linter.unusedVariables false
namespace Rw
theorem parts_part {k : Nat} {l : List Int} (hl : (parts k l).2 = []) : ∀ t : List Int, t.length < k → parts k (l ++ t) = ((parts k l).1, t) := by
  refine snoc_ind (fun _ => ?_) fun t x ih ht => ?_
  · rw [List.append_nil]; exact Prod.ext rfl hl
  · rw [List.length_append, List.length_singleton] at ht
    have h := ih (by omega)
    rw [← List.append_assoc, parts_wait (by rw [h]; show ¬ t.length + 1 = k; omega), h]
theorem parts_whole {k : Nat} {l t : List Int} (hl : (parts k l).2 = []) (hk : 1 ≤ k) (ht : t.length = k) : parts k (l ++ t) = ((parts k l).1 ++ [t], []) := by
  have hne : t ≠ [] := by intro e; subst e; simp at ht; omega
  obtain ⟨t', x, rfl⟩ : ∃ t' x, t = t' ++ [x] := ⟨_, _, (List.dropLast_concat_getLast hne).symm⟩
  rw [List.length_append, List.length_singleton] at ht
  have h := parts_part hl t' (by omega)
  rw [← List.append_assoc, parts_full (by rw [h]; exact ht), h]
end Rw
end Go.Proofs.YtmnhiagppicegaaGreat

/- Plain facts on rasters of bytes: where a reader is behind so many bytes, what is read of them. No condition. -/
namespace Go.Proofs.YtmnhiagppicegaaGreat
open Go.RowKit
set_option linter.unusedVariables false
namespace Rw
/-- the row that is told at byte i; how many rows were; the reader there -/
def curAt (h : Hd.H) (bs : List Int) (i : Nat) : List Int := (bs.take i).drop (i / stride h * stride h)
def st (h : Hd.H) (bs : List Int) (i : Nat) : S := ⟨h, curAt h bs i, ((i / stride h : Nat) : Int), Hj.size h - (i : Int), 0⟩
/-- rows of pixels -/
def rowsV (h : Hd.H) (bs : List Int) : Nat → List Int
  | 0 => []
  | y + 1 => rowsV h bs y ++ rowV h ((bs.drop (y * stride h)).take (stride h))
/-- the number of the byte with which the first i bytes are wrong -/
def badN (h : Hd.H) (bs : List Int) (i : Nat) : Int := if h.kd = 4 then 0 else badL (wide h) h.m (smp h (bs.take i)) 0
theorem badV_eq (h : Hd.H) (bs : List Int) : badV h bs = badN h bs (Hj.size h).toNat := rfl
theorem badL_snoc (w m : Int) (w0 : 1 ≤ w) (x : Int) : ∀ (l : List Int) (i : Int), 0 ≤ i → badL w m (l ++ [x]) i = if badL w m l i ≠ 0 then badL w m l i else if m < x then w * (i + l.length + 1) else 0
  | [], i, hi => by
    show badL w m [x] i = _
    rw [badL_cons]
    show (if m < x then w * (i + 1) else 0) = if (0 : Int) ≠ 0 then 0 else if m < x then w * (i + ((0 : Nat) : Int) + 1) else 0
    rw [if_neg (show ¬ (0 : Int) ≠ 0 by omega)]
    split
    · congr 1; omega
    · rfl
  | y :: l, i, hi => by
    rw [List.cons_append, badL_cons, badL_cons]
    by_cases hy : m < y
    · rw [if_pos hy, if_pos hy, if_pos]
      have : 1 * 1 ≤ w * (i + 1) := Int.mul_le_mul w0 (by omega) (by omega) (by omega)
      omega
    · rw [if_neg hy, if_neg hy, badL_snoc w m w0 x l (i + 1) (by omega)]
      have e : i + 1 + (l.length : Int) + 1 = i + ((y :: l).length : Int) + 1 := by rw [List.length_cons]; omega
      rw [e]
theorem badN_zero (h : Hd.H) (bs : List Int) : badN h bs 0 = 0 := by
  unfold badN
  split
  · rfl
  · rfl
theorem badN_succ (h : Hd.H) (bs : List Int) (i : Nat) (hi : i < bs.length) : badN h bs (i + 1) = if badN h bs i ≠ 0 then badN h bs i else if bad h (bs.take i) (bs.getD i 0) then ((i + 1 : Nat) : Int) else 0 := by
  unfold badN
  by_cases h4 : h.kd = 4
  · rw [if_pos h4, if_pos h4, if_neg (by omega), if_neg]
    intro hb; exact hb.1 h4
  rw [if_neg h4, if_neg h4, take_snoc1 bs i hi]
  have hw := wide_at h
  by_cases hf : (parts (wide h) (bs.take i)).2.length + 1 = wide h
  · rw [smp_more hf, badL_snoc _ _ (by omega) _ _ _ (Int.le_refl _)]
    have hl := smp_len h (bs.take i)
    rw [List.length_take, Nat.min_eq_left (by omega)] at hl
    have e : (wide h : Int) * (0 + ((smp h (bs.take i)).length : Int) + 1) = ((i + 1 : Nat) : Int) := by
      have e1 : (smp h (bs.take i)).length * wide h + wide h = i + 1 := by omega
      have e2 : ((smp h (bs.take i)).length + 1) * wide h = i + 1 := by rw [Nat.add_mul, Nat.one_mul]; exact e1
      rw [← e2, Int.natCast_mul, Int.mul_comm]
      congr 1; omega
    rw [e]
    have eb : bad h (bs.take i) (bs.getD i 0) ↔ h.m < val ((parts (wide h) (bs.take i)).2 ++ [bs.getD i 0]) := ⟨fun hb => hb.2.2, fun hv => ⟨h4, hf, hv⟩⟩
    by_cases hv : h.m < val ((parts (wide h) (bs.take i)).2 ++ [bs.getD i 0])
    · rw [if_pos hv, if_pos (eb.2 hv)]
    · rw [if_neg hv, if_neg fun hb => hv (eb.1 hb)]
  · rw [smp_wait hf, if_neg (c := bad _ _ _) fun hb => hf hb.2.1]
    split
    · rfl
    · rename_i h0; exact Classical.not_not.1 h0
/-- once wrong, always wrong -/
theorem badN_stays (h : Hd.H) (bs : List Int) {i : Nat} (hb : badN h bs i ≠ 0) : ∀ j, i ≤ j → j ≤ bs.length → badN h bs j = badN h bs i := by
  intro j hij
  induction j with
  | zero => intro _; have : i = 0 := by omega
            subst this; rfl
  | succ j ih =>
    intro hj
    by_cases he : i = j + 1
    · subst he; rfl
    · have h1 := ih (by omega) (by omega)
      rw [badN_succ h bs j (by omega), h1, if_pos hb]
theorem badN_early (h : Hd.H) (bs : List Int) {i j : Nat} (hij : i ≤ j) (hj : j ≤ bs.length) (hb : badN h bs j = 0) : badN h bs i = 0 := by
  by_cases h0 : badN h bs i = 0
  · exact h0
  · exact absurd (badN_stays h bs h0 j hij hj) (by rw [hb]; exact fun e => h0 e.symm)
theorem badN_over (h : Hd.H) (bs : List Int) {i : Nat} (hi : bs.length ≤ i) : badN h bs i = badN h bs bs.length := by unfold badN; rw [List.take_of_length_le hi, List.take_length]
theorem parts_app {k : Nat} {a : List Int} (ha : (parts k a).2 = []) : ∀ b : List Int, parts k (a ++ b) = ((parts k a).1 ++ (parts k b).1, (parts k b).2) := by
  refine snoc_ind ?_ fun b x ih => ?_
  · rw [List.append_nil, parts_nil, List.append_nil]; exact Prod.ext rfl ha
  · rw [← List.append_assoc]
    by_cases hf : (parts k b).2.length + 1 = k
    · rw [parts_full (by rw [ih]; exact hf), parts_full hf, ih]; simp
    · rw [parts_wait (by rw [ih]; exact hf), parts_wait hf, ih]
theorem parts_mul {k : Nat} (hk : 1 ≤ k) {a : List Int} {q : Nat} (ha : a.length = q * k) : (parts k a).2 = [] := by
  obtain ⟨h1, h2, _⟩ := parts_at hk a
  rw [ha] at h2
  have h3 : (parts k a).2.length % k = 0 := by
    have : (parts k a).2.length = q * k - (parts k a).1.length * k := by omega
    rw [this, ← Nat.sub_mul, Nat.mul_mod_left]
  rw [Nat.mod_eq_of_lt h1] at h3
  exact List.eq_nil_of_length_eq_zero h3
theorem stride_wide (h : Hd.H) (hm : May h) : ∃ c, stride h = c * wide h := by
  by_cases h4 : h.kd = 4
  · exact ⟨stride h, by rw [(hm.one h4).2.1, Nat.mul_one]⟩
  · refine ⟨h.w.toNat * chan h, ?_⟩
    unfold stride; rw [if_neg h4, Nat.mul_assoc]
theorem cur_split (h : Hd.H) (bs : List Int) (i : Nat) : bs.take (i / stride h * stride h) ++ curAt h bs i = bs.take i := by
  unfold curAt
  have hle : i / stride h * stride h ≤ i := Nat.div_mul_le_self _ _
  have e : bs.take (i / stride h * stride h) = (bs.take i).take (i / stride h * stride h) := by rw [List.take_take, Nat.min_eq_left hle]
  rw [e, List.take_append_drop]
theorem rest_cur {h : Hd.H} (hm : May h) (bs : List Int) {i : Nat} (hi : i ≤ bs.length) : rest h (bs.take i) = rest h (curAt h bs i) := by
  obtain ⟨c, hc⟩ := stride_wide h hm
  have hle : i / stride h * stride h ≤ i := Nat.div_mul_le_self _ _
  have h0 : (parts (wide h) (bs.take (i / stride h * stride h))).2 = [] := parts_mul (wide_pos h) (q := i / stride h * c) (by rw [List.length_take, Nat.min_eq_left (by omega), Nat.mul_assoc, ← hc])
  unfold rest
  rw [← cur_split h bs i, parts_app h0]
theorem bad_cur {h : Hd.H} (hm : May h) (bs : List Int) {i : Nat} (hi : i ≤ bs.length) (c : Int) : bad h (bs.take i) c ↔ bad h (curAt h bs i) c := by
  have := rest_cur hm bs hi
  unfold rest at this
  unfold bad
  rw [this]
theorem cur_len {h : Hd.H} (hm : May h) (bs : List Int) {i : Nat} (hi : i ≤ bs.length) : (curAt h bs i).length = i % stride h := by
  have hs := (stride_at hm).1
  have := Nat.div_add_mod i (stride h)
  rw [Nat.mul_comm] at this
  unfold curAt; rw [List.length_drop, List.length_take, Nat.min_eq_left hi]; omega
theorem cur_more {h : Hd.H} (bs : List Int) {i : Nat} (hi : i < bs.length) : curAt h bs i ++ [bs.getD i 0] = (bs.take (i + 1)).drop (i / stride h * stride h) := by
  have hle : i / stride h * stride h ≤ i := Nat.div_mul_le_self _ _
  unfold curAt
  rw [take_snoc1 bs i hi, List.drop_append_of_le_length (by rw [List.length_take, Nat.min_eq_left (by omega)]; exact hle)]
end Rw
end Go.Proofs.YtmnhiagppicegaaGreat

/- Plain facts on rasters of bytes: a reader that is told them one by one, all that is read. No condition. -/
namespace Go.Proofs.YtmnhiagppicegaaGreat
open Go.RowKit
set_option linter.unusedVariables false
namespace Rw
theorem dm_lt {i W : Nat} (h : i % W + 1 < W) : (i + 1) / W = i / W ∧ (i + 1) % W = i % W + 1 := by
  have h0 := Nat.div_add_mod i W
  have hW : 0 < W := by omega
  have e : i + 1 = W * (i / W) + (i % W + 1) := by omega
  constructor
  · rw [e, Nat.mul_add_div hW, Nat.div_eq_of_lt h, Nat.add_zero]
  · rw [e, Nat.mul_add_mod, Nat.mod_eq_of_lt h]
theorem dm_eq {i W : Nat} (h : i % W + 1 = W) : (i + 1) / W = i / W + 1 ∧ (i + 1) % W = 0 := by
  have h0 := Nat.div_add_mod i W
  have hW : 0 < W := by omega
  have e : i + 1 = W * (i / W + 1) := by rw [Nat.mul_add, Nat.mul_one]; omega
  constructor
  · rw [e, Nat.mul_div_cancel_left _ hW]
  · rw [e, Nat.mul_mod_right]
theorem st_zero {h : Hd.H} (hm : May h) (bs : List Int) : st h bs 0 = new h := by
  unfold st new curAt
  simp
/-- told byte i, where nothing is wrong -/
theorem put_st {h : Hd.H} (hm : May h) (bs : List Int) {i : Nat} (hi : i < bs.length) (hsz : (i : Int) < Hj.size h) (hb : badN h bs (i + 1) = 0) :
    put (st h bs i) (bs.getD i 0) = (st h bs (i + 1), if (i + 1) % stride h = 0 then rowV h ((bs.drop (i / stride h * stride h)).take (stride h)) else []) := by
  have hs := (stride_at hm).1
  have hb0 := badN_early h bs (Nat.le_succ i) (by omega) hb
  have hnb : ¬ bad h (curAt h bs i) (bs.getD i 0) := fun hbd => by
    rw [badN_succ h bs i hi, hb0, if_neg (by omega), if_pos ((bad_cur hm bs (by omega) _).2 hbd)] at hb
    omega
  have hcl := cur_len hm bs (i := i) (by omega)
  have hml := Nat.mod_lt i hs
  unfold put
  rw [if_neg (show ¬ (st h bs i).left = 0 by show ¬ Hj.size h - (i : Int) = 0; omega), if_neg (show ¬ bad (st h bs i).h (st h bs i).cur (bs.getD i 0) from hnb)]
  have hcl' : (st h bs i).cur.length = i % stride h := hcl
  rw [hcl']
  show (if i % stride h + 1 = stride h then _ else _) = _
  by_cases he : i % stride h + 1 = stride h
  · obtain ⟨d1, d2⟩ := dm_eq he
    rw [if_pos he, if_pos d2]
    have e1 : i / stride h * stride h + stride h = i + 1 := by have := Nat.div_add_mod i (stride h); rw [Nat.mul_comm] at this; omega
    refine Prod.ext ?_ ?_
    · show (⟨h, [], ((i / stride h : Nat) : Int) + 1, Hj.size h - (i : Int) - 1, 0⟩ : S) = st h bs (i + 1)
      unfold st
      have e2 : curAt h bs (i + 1) = [] := List.eq_nil_of_length_eq_zero (by rw [cur_len hm bs hi, d2])
      rw [e2, d1]
      congr 1; omega
    · show rowV h (curAt h bs i ++ [bs.getD i 0]) = rowV h _
      rw [cur_more bs hi, ← e1, List.drop_take]
      congr 2; omega
  · obtain ⟨d1, d2⟩ := dm_lt (show i % stride h + 1 < stride h by omega)
    rw [if_neg he, if_neg (by omega)]
    refine Prod.ext ?_ rfl
    show (⟨h, curAt h bs i ++ [bs.getD i 0], ((i / stride h : Nat) : Int), Hj.size h - (i : Int) - 1, 0⟩ : S) = st h bs (i + 1)
    unfold st
    have e2 : curAt h bs (i + 1) = curAt h bs i ++ [bs.getD i 0] := by rw [cur_more bs hi]; unfold curAt; rw [d1]
    rw [e2, d1]
    congr 1; omega
/-- told the byte with which it is wrong -/
theorem put_wrong {h : Hd.H} (hm : May h) (bs : List Int) {i : Nat} (hi : i < bs.length) (hsz : (i : Int) < Hj.size h) (hb0 : badN h bs i = 0) (hb : badN h bs (i + 1) ≠ 0) :
    put (st h bs i) (bs.getD i 0) = (⟨h, curAt h bs i, ((i / stride h : Nat) : Int), 0, 5⟩, []) ∧ badN h bs (i + 1) = ((i + 1 : Nat) : Int) := by
  have hbd : bad h (bs.take i) (bs.getD i 0) := by
    rw [badN_succ h bs i hi, hb0, if_neg (by omega)] at hb
    by_cases hbd : bad h (bs.take i) (bs.getD i 0)
    · exact hbd
    · rw [if_neg hbd] at hb; exact absurd rfl hb
  refine ⟨?_, ?_⟩
  · unfold put
    rw [if_neg (show ¬ (st h bs i).left = 0 by show ¬ Hj.size h - (i : Int) = 0; omega), if_pos (show bad (st h bs i).h (st h bs i).cur (bs.getD i 0) from (bad_cur hm bs (by omega) _).1 hbd)]
    rfl
  · rw [badN_succ h bs i hi, hb0, if_neg (by omega), if_pos hbd]
theorem size_nat {h : Hd.H} (hm : May h) : ∃ H sz : Nat, h.h = (H : Int) ∧ Hj.size h = (sz : Int) ∧ sz = H * stride h ∧ 1 ≤ H := by
  have hmm := hm.m
  refine ⟨h.h.toNat, h.h.toNat * stride h, by omega, ?_, rfl, by omega⟩
  rw [size_eq hm, Int.natCast_mul]
  congr 1; omega
/-- what is read, by the document -/
def refV (h : Hd.H) (bs : List Int) : List Int × Int :=
  if 0 < badV h bs then ([], 5) else if (bs.length : Int) < Hj.size h then ([], 6) else (rowsV h bs h.h.toNat, 0)
theorem last_st {h : Hd.H} (bs : List Int) {i : Nat} (hsz : (i : Int) < Hj.size h) : last (st h bs i) = 0 := by
  show (if (0 : Int) ≠ 0 then (2 : Int) else if Hj.size h - (i : Int) = 0 then 1 else 0) = 0
  rw [if_neg (by omega), if_neg (by omega)]
theorem last_st1 {h : Hd.H} (bs : List Int) {i : Nat} (hsz : (i : Int) = Hj.size h) : last (st h bs i) = 1 := by
  show (if (0 : Int) ≠ 0 then (2 : Int) else if Hj.size h - (i : Int) = 0 then 1 else 0) = 1
  rw [if_neg (by omega), if_pos (by omega)]
theorem readF_st {h : Hd.H} (hm : May h) (bs : List Int) : ∀ (d i : Nat), bs.length - i = d → i ≤ bs.length → (i : Int) < Hj.size h → badN h bs i = 0 → readF (st h bs i) (rowsV h bs (i / stride h)) (bs.drop i) = refV h bs := by
  obtain ⟨H, sz, hH, hsz, hszm, H1⟩ := size_nat hm
  have hs := (stride_at hm).1
  intro d
  induction d with
  | zero =>
    intro i hd hi hlt hb
    have e : i = bs.length := by omega
    subst e
    rw [List.drop_length, readF_nil]
    unfold refV
    have hbv : badV h bs = 0 := by rw [badV_eq, hsz, badN_over h bs (by show bs.length ≤ sz; omega)]; exact hb
    rw [hbv, if_neg (by omega), if_pos hlt]
  | succ d ih =>
    intro i hd hi hlt hb
    have hil : i < bs.length := by omega
    have hdr : bs.drop i = bs.getD i 0 :: bs.drop (i + 1) := by rw [List.drop_eq_getElem_cons hil, List.getD_eq_getElem?_getD, List.getElem?_eq_getElem hil]; rfl
    rw [hdr]
    by_cases hb1 : badN h bs (i + 1) = 0
    · have hp := put_st hm bs hil hlt hb1
      have hrow : rowsV h bs (i / stride h) ++ (if (i + 1) % stride h = 0 then rowV h ((bs.drop (i / stride h * stride h)).take (stride h)) else []) = rowsV h bs ((i + 1) / stride h) := by
        have hml := Nat.mod_lt i hs
        by_cases he : i % stride h + 1 = stride h
        · obtain ⟨d1, d2⟩ := dm_eq he
          rw [if_pos d2, d1]; rfl
        · obtain ⟨d1, d2⟩ := dm_lt (show i % stride h + 1 < stride h by omega)
          rw [if_neg (by omega), d1, List.append_nil]
      by_cases hlt1 : ((i + 1 : Nat) : Int) < Hj.size h
      · rw [readF_more hp (last_st bs hlt1)]
        show readF (st h bs (i + 1)) (rowsV h bs (i / stride h) ++ _) _ = _
        rw [hrow]
        exact ih (i + 1) (by omega) (by omega) hlt1 hb1
      · have e1 : ((i + 1 : Nat) : Int) = Hj.size h := by omega
        rw [readF_over hp (last_st1 bs e1)]
        show (rowsV h bs (i / stride h) ++ _, (0 : Int)) = _
        rw [hrow]
        have e2 : i + 1 = sz := by omega
        have hbv : badV h bs = 0 := by rw [badV_eq, hsz]; show badN h bs sz = 0; rw [← e2]; exact hb1
        unfold refV
        rw [hbv, if_neg (by omega), if_neg (by omega), e2, hszm, Nat.mul_div_cancel _ hs]
        congr 2; omega
    · obtain ⟨hp, hv⟩ := put_wrong hm bs hil hlt hb hb1
      rw [readF_wrong hp rfl]
      have hbv : badV h bs = ((i + 1 : Nat) : Int) := by
        rw [badV_eq, hsz]
        show badN h bs sz = _
        by_cases hle : sz ≤ bs.length
        · rw [badN_stays h bs hb1 sz (by omega) hle, hv]
        · rw [badN_over h bs (by omega), badN_stays h bs hb1 bs.length (by omega) (Nat.le_refl _), hv]
      unfold refV
      rw [hbv, if_pos (by omega)]
theorem readV_ref {h : Hd.H} (hm : May h) (bs : List Int) : readV h bs = refV h bs := by
  obtain ⟨H, sz, hH, hsz, hszm, H1⟩ := size_nat hm
  have hs := (stride_at hm).1
  have h1 := size_pos hm
  unfold readV
  rw [if_pos hm, ← st_zero hm bs]
  have := readF_st hm bs bs.length 0 (by omega) (by omega) (by omega) (badN_zero h bs)
  rw [Nat.zero_div] at this
  exact this
end Rw
end Go.Proofs.YtmnhiagppicegaaGreat

/- Plain facts on rasters of bytes that are written: their bytes, and what is read of them. No condition. -/
namespace Go.Proofs.YtmnhiagppicegaaGreat
open Go.RowKit
set_option linter.unusedVariables false
namespace Rw
/-- a sample's bytes; a pixel's; its first sample; a row's bytes; all rows' -/
def wbs (h : Hd.H) (s : Int) : List Int := if wide h = 2 then [s / 256, s % 256] else [s % 256]
def bts (h : Hd.H) (p : Int) : List Int := (Pq.Px.smp p).flatMap (wbs h)
def s0 (p : Int) : Int := (Pq.Px.smp p).getD 0 0
def rowB (h : Hd.H) (row : List Int) : List Int := if h.kd = 4 then Bt.packB (row.map s0) else row.flatMap (bts h)
def wRows (h : Hd.H) (l : List Int) (W : Nat) : Nat → List Int
  | 0 => []
  | y + 1 => wRows h l W y ++ rowB h ((l.drop (y * W)).take W)
theorem good_smp {h : Hd.H} (hm : May h) {p : Int} (hp : Pq.GoodP p (Hj.chan h) h.m) : (Pq.Px.smp p).length = chan h ∧ (∀ s ∈ Pq.Px.smp p, 0 ≤ s ∧ s ≤ h.m) ∧ pk (Pq.Px.smp p) = p := by
  have hc := chan_eq hm
  have hcc := chan_at h
  rcases hp with ⟨h3, x, y, z, hi, hx, hy, hz⟩ | ⟨h1, x, hi, hx⟩
  · obtain ⟨e0, a1, a2, a3, a4, a5, a6⟩ := id hi
    rw [Pq.Px.smp3 hi]
    refine ⟨by simp; omega, ?_, ?_⟩
    · intro s hs
      simp only [List.mem_cons, List.not_mem_nil, or_false] at hs
      rcases hs with rfl | rfl | rfl <;> exact ⟨by assumption, by assumption⟩
    · show (Pq.Px.packV [x, y, z]).1 = p
      rw [Pq.Px.packV3 a1 a2 a3 a4 a5 a6, e0]
  · obtain ⟨e0, a1, a2⟩ := id hi
    rw [Pq.Px.smp1 hi]
    refine ⟨by simp; omega, ?_, ?_⟩
    · intro s hs
      simp only [List.mem_cons, List.not_mem_nil, or_false] at hs
      subst hs; exact ⟨a1, hx⟩
    · show (Pq.Px.packV [x]).1 = p
      rw [Pq.Px.packV1 a1 a2, e0]
theorem wbs_len (h : Hd.H) (s : Int) : (wbs h s).length = wide h := by
  unfold wbs
  rcases wide_at h with ⟨_, e⟩ | ⟨_, e⟩ <;> rw [e] <;> rfl
theorem wbs_val {h : Hd.H} (hm : May h) {s : Int} (s0 : 0 ≤ s) (s1 : s ≤ h.m) : val (wbs h s) = s := by
  have hmm := hm.m
  unfold wbs
  rcases wide_at h with ⟨h1, e⟩ | ⟨h1, e⟩ <;> rw [e]
  · show val [s / 256, s % 256] = s; rw [val_two]; omega
  · show val [s % 256] = s; rw [val_one]; omega
theorem flat_len {f : Int → List Int} {k : Nat} : ∀ l : List Int, (∀ x ∈ l, (f x).length = k) → (l.flatMap f).length = l.length * k
  | [], _ => by simp
  | x :: l, hx => by
    rw [List.flatMap_cons, List.length_append, hx x (List.mem_cons_self ..), flat_len l fun y hy => hx y (List.mem_cons_of_mem _ hy), List.length_cons, Nat.add_mul, Nat.one_mul, Nat.add_comm]
theorem parts_flat {k : Nat} (hk : 1 ≤ k) : ∀ ts : List (List Int), (∀ t ∈ ts, t.length = k) → parts k ts.flatten = (ts, [])
  | [], _ => rfl
  | t :: ts, ht => by
    have h1 : parts k t = ([t], []) := by have := parts_whole (k := k) (l := []) rfl hk (ht t (List.mem_cons_self ..)); simpa [parts_nil] using this
    rw [List.flatten_cons, parts_app (by rw [h1]), h1, parts_flat hk ts fun u hu => ht u (List.mem_cons_of_mem _ hu)]
    rfl
section
variable {h : Hd.H} (hm : May h) {l : List Int} (hl : Pl.Fits h l)
include hm hl
theorem all_smp : ∀ s ∈ l.flatMap Pq.Px.smp, 0 ≤ s ∧ s ≤ h.m := by
  intro s hs
  obtain ⟨p, hp, hs⟩ := List.mem_flatMap.1 hs
  exact (good_smp hm (hl p hp)).2.1 s hs
theorem smp_bts : smp h (l.flatMap (bts h)) = l.flatMap Pq.Px.smp ∧ rest h (l.flatMap (bts h)) = [] := by
  have e : l.flatMap (bts h) = ((l.flatMap Pq.Px.smp).map (wbs h)).flatten := by
    rw [← List.flatMap_def, List.flatMap_assoc]; rfl
  have hp := parts_flat (wide_pos h) ((l.flatMap Pq.Px.smp).map (wbs h)) fun t ht => by
    obtain ⟨s, _, rfl⟩ := List.mem_map.1 ht
    exact wbs_len h s
  unfold smp rest
  rw [e, hp]
  refine ⟨?_, rfl⟩
  show ((l.flatMap Pq.Px.smp).map (wbs h)).map val = _
  rw [List.map_map]
  conv => rhs; rw [← List.map_id (l.flatMap Pq.Px.smp)]
  refine List.map_congr_left fun s hs => ?_
  obtain ⟨a, b⟩ := all_smp hm hl s hs
  exact wbs_val hm a b
theorem pxs_smp : pxs h (l.flatMap Pq.Px.smp) = l := by
  have hp := parts_flat (chan_pos h) (l.map Pq.Px.smp) fun t ht => by
    obtain ⟨p, hp, rfl⟩ := List.mem_map.1 ht
    exact (good_smp hm (hl p hp)).1
  unfold pxs
  rw [List.flatMap_def, hp]
  show (l.map Pq.Px.smp).map pk = l
  rw [List.map_map]
  conv => rhs; rw [← List.map_id l]
  exact List.map_congr_left fun p hp => (good_smp hm (hl p hp)).2.2
theorem bits_one (h4 : h.kd = 4) : ∀ p ∈ l, (s0 p = 0 ∨ s0 p = 1) ∧ pk [s0 p] = p := by
  intro p hp
  obtain ⟨a, b, c⟩ := good_smp hm (hl p hp)
  have h11 := hm.one h4
  rw [h11.2.2] at a
  obtain ⟨x, hx⟩ : ∃ x, Pq.Px.smp p = [x] := by
    match h' : Pq.Px.smp p with
    | [x] => exact ⟨x, rfl⟩
    | [] => rw [h'] at a; simp at a
    | x :: y :: t => rw [h'] at a; simp at a
  have hs : s0 p = x := by unfold s0; rw [hx]; rfl
  rw [hs]
  rw [hx] at c
  have := b x (by rw [hx]; simp)
  exact ⟨by omega, c⟩
theorem row_back {W : Nat} (hW : h.w = (W : Int)) (hL : l.length = W) : rowV h (rowB h l) = l ∧ (rowB h l).length = stride h := by
  have hmm := hm.m
  have hs := stride_at hm
  unfold rowV rowB
  by_cases h4 : h.kd = 4
  · rw [if_pos h4, if_pos h4]
    have h5 := hs.2.2.1 h4
    have ho : Bt.Ones (l.map s0) := by
      intro x hx
      obtain ⟨p, hp, rfl⟩ := List.mem_map.1 hx
      exact (bits_one hm hl h4 p hp).1
    have hb := Bt.bits_pack (stride h) (l.map s0) (by rw [List.length_map]; omega) (by rw [List.length_map]; omega) ho
    refine ⟨?_, Bt.packB_len (stride h) (l.map s0) (by rw [List.length_map]; omega) (by rw [List.length_map]; omega)⟩
    rw [hb, List.take_append_of_le_length (by rw [List.length_map]; omega), List.take_of_length_le (by rw [List.length_map]; omega), List.map_map]
    conv => rhs; rw [← List.map_id l]
    exact List.map_congr_left fun p hp => (bits_one hm hl h4 p hp).2
  · rw [if_neg h4, if_neg h4]
    refine ⟨by rw [(smp_bts hm hl).1, pxs_smp hm hl], ?_⟩
    have hb : ∀ p ∈ l, (bts h p).length = chan h * wide h := fun p hp => by
      unfold bts
      rw [flat_len _ fun s _ => wbs_len h s, (good_smp hm (hl p hp)).1]
    rw [flat_len l hb, hL]
    unfold stride
    rw [if_neg h4]
    congr 1; omega
end
theorem fits_sub {h : Hd.H} {l : List Int} (hl : Pl.Fits h l) (a n : Nat) : Pl.Fits h ((l.drop a).take n) := fun p hp => hl p (List.mem_of_mem_drop (List.mem_of_mem_take hp))
theorem part_len {l : List Int} {W H : Nat} (hL : l.length = W * H) {y : Nat} (hy : y < H) : ((l.drop (y * W)).take W).length = W := by
  have h1 : (y + 1) * W ≤ H * W := Nat.mul_le_mul_right W hy
  rw [Nat.add_mul, Nat.one_mul, Nat.mul_comm H W] at h1
  rw [List.length_take, List.length_drop, hL]; omega
theorem wRows_flat {h : Hd.H} (l : List Int) (W : Nat) (h4 : h.kd ≠ 4) : ∀ y, wRows h l W y = (l.take (y * W)).flatMap (bts h)
  | 0 => by simp [wRows]
  | y + 1 => by
    show wRows h l W y ++ rowB h _ = _
    unfold rowB
    rw [wRows_flat l W h4 y, if_neg h4, Nat.add_mul, Nat.one_mul, List.take_add, List.flatMap_append]
theorem badL_none (w m : Int) : ∀ (l : List Int) (i : Int), (∀ x ∈ l, x ≤ m) → badL w m l i = 0
  | [], i, _ => rfl
  | x :: l, i, hx => by
    rw [badL_cons, if_neg (by have := hx x (List.mem_cons_self ..); omega)]
    exact badL_none w m l (i + 1) fun y hy => hx y (List.mem_cons_of_mem _ hy)
theorem row_in {h : Hd.H} (hm : May h) {l : List Int} (hl : Pl.Fits h l) : ∀ z ∈ rowB h l, 0 ≤ z ∧ z ≤ 255 := by
  have hmm := hm.m
  unfold rowB
  by_cases h4 : h.kd = 4
  · rw [if_pos h4]
    exact Bt.packB_byte _ fun x hx => by
      obtain ⟨p, hp, rfl⟩ := List.mem_map.1 hx
      exact (bits_one hm hl h4 p hp).1
  · rw [if_neg h4]
    intro z hz
    obtain ⟨p, hp, hz⟩ := List.mem_flatMap.1 hz
    obtain ⟨s, hs, hz⟩ := List.mem_flatMap.1 hz
    have hsm := (good_smp hm (hl p hp)).2.1 s hs
    unfold wbs at hz
    split at hz
    · simp only [List.mem_cons, List.not_mem_nil, or_false] at hz
      rcases hz with rfl | rfl <;> omega
    · simp only [List.mem_cons, List.not_mem_nil, or_false] at hz
      subst hz; omega
theorem wRows_in {h : Hd.H} (hm : May h) {l : List Int} (hl : Pl.Fits h l) {W : Nat} : ∀ y, ∀ z ∈ wRows h l W y, 0 ≤ z ∧ z ≤ 255
  | 0, z, hz => by cases hz
  | y + 1, z, hz => by
    rcases List.mem_append.1 hz with hz | hz
    · exact wRows_in hm hl y z hz
    · exact row_in hm (fits_sub hl (y * W) W) z hz
theorem bad_none {h : Hd.H} (hm : May h) {l : List Int} (hl : Pl.Fits h l) {W H : Nat} (hL : l.length = W * H) (i : Nat) (hi : i ≤ (wRows h l W H).length) : badN h (wRows h l W H) i = 0 := by
  refine badN_early h _ hi (Nat.le_refl _) ?_
  unfold badN
  by_cases h4 : h.kd = 4
  · rw [if_pos h4]
  · rw [if_neg h4, List.take_length, wRows_flat l W h4 H, List.take_of_length_le (by rw [hL, Nat.mul_comm]; exact Nat.le_refl _), (smp_bts hm hl).1]
    exact badL_none _ _ _ _ fun x hx => (all_smp hm hl x hx).2
section
variable {h : Hd.H} (hm : May h) {l : List Int} (hl : Pl.Fits h l) {W H : Nat} (hW : h.w = (W : Int)) (hL : l.length = W * H)
include hm hl hW hL
theorem wRows_len : ∀ y, y ≤ H → (wRows h l W y).length = y * stride h
  | 0, _ => by simp [wRows]
  | y + 1, hy => by
    show (wRows h l W y ++ _).length = _
    rw [List.length_append, wRows_len y (by omega), (row_back hm (fits_sub hl (y * W) W) hW (part_len hL (by omega))).2, Nat.add_mul, Nat.one_mul]
theorem wRows_take : ∀ z y, y ≤ z → z ≤ H → (wRows h l W z).take (y * stride h) = wRows h l W y
  | 0, y, hy, _ => by
    have : y = 0 := by omega
    subst this; simp [wRows]
  | z + 1, y, hy, hz => by
    by_cases he : y = z + 1
    · subst he
      rw [List.take_of_length_le (by rw [wRows_len hm hl hW hL _ hz]; exact Nat.le_refl _)]
    · show (wRows h l W z ++ _).take _ = _
      rw [List.take_append_of_le_length (by rw [wRows_len hm hl hW hL z (by omega)]; exact Nat.mul_le_mul_right _ (by omega))]
      exact wRows_take z y (by omega) (by omega)
theorem wRows_part {y : Nat} (hy : y < H) (more : List Int) : ((wRows h l W H ++ more).drop (y * stride h)).take (stride h) = rowB h ((l.drop (y * W)).take W) := by
  have h1 := wRows_take hm hl hW hL H (y + 1) (by omega) (Nat.le_refl _)
  have h2 := wRows_len hm hl hW hL y (by omega)
  have h3 := wRows_len hm hl hW hL H (Nat.le_refl _)
  have h4 : (y + 1) * stride h ≤ H * stride h := Nat.mul_le_mul_right _ hy
  have e : (wRows h l W H ++ more).take ((y + 1) * stride h) = wRows h l W y ++ rowB h ((l.drop (y * W)).take W) := by
    rw [List.take_append_of_le_length (by rw [h3]; exact h4), h1]; rfl
  have e2 : ((wRows h l W H ++ more).drop (y * stride h)).take (stride h) = ((wRows h l W H ++ more).take ((y + 1) * stride h)).drop (y * stride h) := by
    rw [List.drop_take]
    congr 1
    rw [Nat.add_mul, Nat.one_mul]; omega
  rw [e2, e, List.drop_append_of_le_length (by rw [h2]; exact Nat.le_refl _), List.drop_of_length_le (by rw [h2]; exact Nat.le_refl _), List.nil_append]
theorem rows_back (more : List Int) : ∀ y, y ≤ H → rowsV h (wRows h l W H ++ more) y = l.take (y * W)
  | 0, _ => by simp [rowsV]
  | y + 1, hy => by
    show rowsV h _ y ++ rowV h _ = _
    rw [rows_back more y (by omega), wRows_part hm hl hW hL (show y < H by omega) more, (row_back hm (fits_sub hl (y * W) W) hW (part_len hL (by omega))).1, Nat.add_mul, Nat.one_mul, List.take_add]
end
end Rw
end Go.Proofs.YtmnhiagppicegaaGreat

/- All pixels of a raster of bytes, by the document, over any memory. Condition: not too many bytes, the head's numbers fit. -/
namespace Go.Proofs.YtmnhiagppicegaaGreat
open Go.RowKit
set_option linter.unusedVariables false
end Go.Proofs.YtmnhiagppicegaaGreat

/- An image that bytes begin with, by the code, over any memory. Condition: not too many bytes. -/
namespace Go.Proofs.YtmnhiagppicegaaGreat
open Go.RowKit
set_option linter.unusedVariables false
/-- the part of a slice of bytes from s on -/
def Im.cutA (a : Option Addr) (cap s : Nat) : Option Addr := if cap = s then a else a.map (·.add s)
theorem Im.run_cut (a : Option Addr) (len cap s : Nat) (hs : s ≤ len) (W : World) :
    (Instr.slice 43 (.slice a len cap) (some (.int .i64 s)) none none).run Tryz.prog W = .ok (.slice (Im.cutA a cap s) (len - s) (cap - s)) W := by
  rw [run_slice_l W 43 a len cap (by kernel_rfl) .i64 s (by omega) (by omega)]
  have hz : (sizeOf (Tryz.prog.elem 43)).run Tryz.prog W = .ok 1 W := by kernel_rfl
  rw [hz]
  simp [Result.andThen, sliced, Im.cutA]
theorem Im.cut_bs {w : World} {a : Option Addr} {len cap s : Nat} {zs : List Int} (h : Bt.Bs w a len cap zs) (hs : s ≤ len) : Bt.Bs w (Im.cutA a cap s) (len - s) (cap - s) (zs.drop s) := by
  obtain ⟨⟨h1, h2⟩, h3, h4, h5⟩ := h
  refine ⟨⟨by rw [List.length_drop, h1], ?_⟩, by omega, by omega, fun z hz => h5 z (List.mem_of_mem_drop hz)⟩
  by_cases h0 : len - s = 0
  · exact .inl h0
  right
  rcases h2 with h2 | ⟨g, o, rfl, hc⟩
  · omega
  · refine ⟨g, o + s, by simp [Im.cutA, Addr.add, show ¬ cap = s by omega], fun i hi => ?_⟩
    rw [Nat.add_assoc, hc (s + i) (by omega), List.getD_eq_getElem?_getD, List.getD_eq_getElem?_getD, List.getElem?_drop]
/-- the pixels that a raster begins with -/
def Im.readV (h : Hd.H) (bs : List Int) : List Int × Int × Int := if 3 < h.kd then ((Rw.readV h bs).1, Hj.size h, (Rw.readV h bs).2) else Pl.readV h bs
/-- an image parsed: format, sides, pixels, how many bytes, the error -/
structure Im.P where
  c : Int
  m : Int
  w : Int
  h : Int
  l : List Int
  u : Int
  e : Int
def Im.bad (e : Int) : Im.P := ⟨0, 0, 0, 0, [], 0, e⟩
def Im.parseV (lim : Hd.L) (bs : List Int) : Im.P :=
  if (Hd.parseV lim bs).2.2 = 0 then
    (if (Im.readV (Hd.parseV lim bs).1 (bs.drop (Hd.parseV lim bs).2.1.toNat)).2.2 = 0 then
      ⟨Hj.chan (Hd.parseV lim bs).1, (Hd.parseV lim bs).1.m, (Hd.parseV lim bs).1.w, (Hd.parseV lim bs).1.h, (Im.readV (Hd.parseV lim bs).1 (bs.drop (Hd.parseV lim bs).2.1.toNat)).1, (Hd.parseV lim bs).2.1 + (Im.readV (Hd.parseV lim bs).1 (bs.drop (Hd.parseV lim bs).2.1.toNat)).2.1, 0⟩
    else Im.bad (Im.readV (Hd.parseV lim bs).1 (bs.drop (Hd.parseV lim bs).2.1.toNat)).2.2)
  else Im.bad (Hd.parseV lim bs).2.2
theorem Im.parse_head {lim : Hd.L} {bs : List Int} {h : Hd.H} {u e : Int} (hp : Hd.parseV lim bs = (h, u, e)) (he : e ≠ 0) : Im.parseV lim bs = Im.bad e := by
  unfold Im.parseV; rw [hp]; simp only; rw [if_neg he]
theorem Im.parse_read {lim : Hd.L} {bs : List Int} {h : Hd.H} {u : Int} (hp : Hd.parseV lim bs = (h, u, 0)) {l : List Int} {k e : Int} (hr : Im.readV h (bs.drop u.toNat) = (l, k, e)) (he : e ≠ 0) : Im.parseV lim bs = Im.bad e := by
  unfold Im.parseV; rw [hp]; simp only [if_true]; rw [hr]; simp only; rw [if_neg he]
theorem Im.parse_all {lim : Hd.L} {bs : List Int} {h : Hd.H} {u : Int} (hp : Hd.parseV lim bs = (h, u, 0)) {l : List Int} {k : Int} (hr : Im.readV h (bs.drop u.toNat) = (l, k, 0)) : Im.parseV lim bs = ⟨Hj.chan h, h.m, h.w, h.h, l, u + k, 0⟩ := by
  unfold Im.parseV; rw [hp]; simp only [if_true]; rw [hr]; simp only [if_true]
/-- what Parse hands back -/
def ImParR (t : Im.P) (w : World) (e : Ending) (w' : World) : Prop :=
  ∃ a cap, e = .returned (.tuple #[agI t.c t.m t.w t.h (.slice a t.l.length cap), .int .i64 t.u, .int .i64 t.e]) ∧ SlK .u64 w' a t.l.length t.l ∧ Below w.heap.size w w'
set_option maxHeartbeats 1000000 in
theorem imRead_any (a : Option Addr) (nb cb : Nat) (bs : List Int) (hnb : nb ≤ 100000) (h : Hd.H) (hm : Hd.May h) (w : World) (hs : Bt.Bs w a nb cb bs) :
    Calls Tryz.prog 58 #[.slice a nb cb, agH h] w (RdR (Im.readV h bs) w) := by
  have hf := Hj.may_fit hm
  have HR := Lib.hid (hraw_any h hm)
  have HSZ := Lib.hid (hsize_any h hm)
  have hsz : (strOfNums bs).size ≤ 100000 := by rw [strOfNums_size, hs.1.1]; exact hnb
  have HP := Lib.hid (plRead_any (strOfNums bs) hsz h hf)
  rw [bytesOf_strOfNums hs.2.2.2] at HP
  have HW : Hid (∀ W, Below w.heap.size w W → Calls Tryz.prog 104 #[.slice a nb cb, agH h] W (RwdR (Rw.readV h bs) W)) := Lib.hid fun W hb => rwRead_any a nb cb bs hnb h hf W (hs.below hb)
  have HS := Lib.hid hs
  unfold Im.readV
  obtain ⟨kd, ww, hh, mx⟩ := h
  have X := Hb.new w 49 ⟨kd, ww, hh, mx⟩
  have hbx := box1 w (.cells #[.int .i64 kd, .int .i64 ww, .int .i64 hh, .int .i64 mx] 49)
  obtain ⟨W, hW⟩ : ∃ W, w.alloc (.cells #[.int .i64 kd, .int .i64 ww, .int .i64 hh, .int .i64 mx] 49) = W := ⟨_, rfl⟩
  simp only at X
  rw [hW] at X hbx
  clear hs hsz hf hm
  unfold agH at HR HSZ HP HW ⊢
  simp only at HR HSZ HP HW ⊢
  by_cases hk : 3 < kd
  · have HR' : Hid (∀ w, Calls Tryz.prog 80 #[.agg #[.int .i64 kd, .int .i64 ww, .int .i64 hh, .int .i64 mx]] w fun e w' => e = .returned (.bool true) ∧ Below w.heap.size w w') := Lib.hid fun w => by have := HR.out w; rw [decide_eq_true hk] at this; exact this
    obtain ⟨t, ht⟩ : ∃ t, Rw.readV ⟨kd, ww, hh, mx⟩ bs = t := ⟨_, rfl⟩
    rw [if_pos hk]
    rw [ht] at HW ⊢
    clear HR HP HS hk ht
    obtain ⟨l0, l1, l2, l3⟩ := X.cells
    simp only at l0 l1 l2 l3
    go_enter Tryz.func58, Tryz.ntmps58
    go_upto_region 1 with fail
    try rw [hW]
    go_wp2_with fail
    refine (HR'.out _).mono ?_
    rintro e w2 ⟨rfl, hb2⟩
    replace X := X.later hb2
    replace hbx := hbx.trans (hb2.mono hbx.size)
    obtain ⟨l0, l1, l2, l3⟩ := X.cells
    simp only at l0 l1 l2 l3
    go_wp2_with fail
    refine (HW.out _ hbx).mono ?_
    unfold RwdR
    rintro e w3 ⟨ra, rc, rfl, hrs, hb3⟩
    replace X := X.later hb3
    replace hbx := hbx.trans (hb3.mono hbx.size)
    have HRS := Lib.hid hrs
    obtain ⟨l0, l1, l2, l3⟩ := X.cells
    simp only at l0 l1 l2 l3
    go_wp2_with fail
    refine (HSZ.out _).mono ?_
    rintro e w4 ⟨rfl, hb4⟩
    replace hbx := hbx.trans (hb4.mono hbx.size)
    go_wp2
    go_returns
    exact ⟨ra, rc, rfl, HRS.out.below hb4, hbx⟩
  · have HR' : Hid (∀ w, Calls Tryz.prog 80 #[.agg #[.int .i64 kd, .int .i64 ww, .int .i64 hh, .int .i64 mx]] w fun e w' => e = .returned (.bool false) ∧ Below w.heap.size w w') := Lib.hid fun w => by have := HR.out w; rw [decide_eq_false hk] at this; exact this
    obtain ⟨t, ht⟩ : ∃ t, Pl.readV ⟨kd, ww, hh, mx⟩ bs = t := ⟨_, rfl⟩
    rw [if_neg hk]
    rw [ht] at HP ⊢
    clear HR HW hk ht
    obtain ⟨l0, l1, l2, l3⟩ := X.cells
    simp only at l0 l1 l2 l3
    go_enter Tryz.func58, Tryz.ntmps58
    go_upto_region 1 with fail
    try rw [hW]
    go_wp2_with fail
    refine (HR'.out _).mono ?_
    rintro e w2 ⟨rfl, hb2⟩
    replace X := X.later hb2
    replace hbx := hbx.trans (hb2.mono hbx.size)
    obtain ⟨l0, l1, l2, l3⟩ := X.cells
    simp only at l0 l1 l2 l3
    have C := Cv.conv_slk (cap := cb) (HS.out.1.below hbx)
    go_wp2_with fail
    refine (HP.out _).mono ?_
    unfold RdR
    rintro e w3 ⟨ra, rc, rfl, hrs, hb3⟩
    replace hbx := hbx.trans (hb3.mono hbx.size)
    have HRS := Lib.hid hrs
    go_wp2
    go_returns
    exact ⟨ra, rc, rfl, HRS.out, hbx⟩
end Go.Proofs.YtmnhiagppicegaaGreat

/- A raster of digits written by the code, over any memory. Condition: the head may be, at most 80 by 5, at most 240 pixels; the pixels fit. -/
namespace Go.Proofs.YtmnhiagppicegaaGreat
open Go.RowKit Go.Shelf
attribute [local go_sem] Oper.semAt_some
set_option linter.unusedVariables false

theorem part_range {m k : Nat} {pre rest : List Nat} (h : List.range m = pre ++ k :: rest) : k = pre.length ∧ pre.length < m := by
  have h1 : pre.length < m := by have := congrArg List.length h; simp at this; omega
  have h2 : (List.range m)[pre.length]? = some k := by rw [h]; simp
  rw [List.getElem?_range h1] at h2
  exact ⟨(Option.some.inj h2).symm, h1⟩
/-- marks of rounds that are over, none of them a row's memory -/
def MkOk (Ds : List Nat) (v : Value) (W : World) : Prop := ∀ d ∈ Ds, W.heap[d]? = some (.deferred (some [])) ∧ v.ownBlock ≠ some d
theorem MkOk.lt {Ds : List Nat} {v : Value} {W : World} (h : MkOk Ds v W) {d : Nat} (hd : d ∈ Ds) : d < W.heap.size := (Array.getElem?_eq_some_iff.1 (h d hd).1).1
theorem MkOk.sep {Ds : List Nat} {v : Value} {W W' : World} {Z : Nat → Prop} (h : MkOk Ds v W) (hs : Sep Z W W') (hz : ∀ d ∈ Ds, ¬ Z d) : MkOk Ds v W' := fun d hd => ⟨(hs.block d (h.lt hd) (hz d hd)).trans (h d hd).1, (h d hd).2⟩
theorem MkOk.low {Ds : List Nat} {v : Value} {W W' : World} (h : MkOk Ds v W) (hb : Below W.heap.size W W') : MkOk Ds v W' := fun d hd => ⟨(hb.block d (h.lt hd)).trans (h d hd).1, (h d hd).2⟩
theorem MkOk.write {Ds : List Nat} {v v' : Value} {W W' : World} {b : Nat} {p u : Value} (h : MkOk Ds v W) (hb : Bd W b p u) (hs : Sep (fun k => k = b ∨ v.ownBlock = some k) W W') (hat : ∀ g, v'.ownBlock = some g → v.ownBlock = some g ∨ W.heap.size ≤ g) : MkOk Ds v' W' := fun d hd => by
  have h1 := h d hd
  have hne : d ≠ b := fun e => by
    have h2 : W.heap[b]? = _ := hb
    rw [e, h2] at h1
    cases h1.1
  refine ⟨(hs.block d (h.lt hd) (fun hz => ?_)).trans h1.1, fun e => ?_⟩
  · rcases hz with hz | hz
    · exact hne hz
    · exact h1.2 hz
  · rcases hat d e with k | k
    · exact h1.2 k
    · have := h.lt hd; omega
theorem leaves_marks {P : Program} {F : Fence} {n : Nat} {fn : Func} {tmps : Array Value} {R : Ending → World → Prop} {v : Value} : ∀ (Ds : List Nat) (w : World), (∀ d ∈ Ds, w.heap[d]? = some (.deferred (some []))) → Ds.Nodup → (∀ w', (results fn tmps).run P w' = .ok v w') →
    (∀ w', w'.os = w.os → w'.tape = w.tape → w'.output = w.output → w'.heap.size = w.heap.size → (∀ k, k ∉ Ds → w'.heap[k]? = w.heap[k]?) → R (.returned v) w') →
    LeavesInM F n P fn tmps R (Ds.map fun D => { target := .collected D, args := #[] }) .returning w
  | [], w, _, _, hres, hR => ⟨_, hres w, hR w rfl rfl rfl rfl fun _ _ => rfl⟩
  | d :: Ds, w, hd, hn, hres, hR => by
    have hn' := List.nodup_cons.1 hn
    refine ⟨by simp, .inl ⟨d, _, rfl, run_takeDeferred (hd d (List.mem_cons_self ..)), ?_⟩⟩
    refine leaves_marks Ds _ (fun d2 h2 => ?_) hn'.2 hres (fun w' a1 a2 a3 a4 a5 => hR w' a1 a2 a3 (by rw [a4]; simp) (fun k hk => ?_))
    · rw [World.putObj_heap_other (fun e => hn'.1 (by cases e; exact h2))]; exact hd d2 (List.mem_cons_of_mem _ h2)
    · rw [a5 k (fun h => hk (List.mem_cons_of_mem _ h)), World.putObj_heap_other (fun e => hk (by cases e; exact List.mem_cons_self ..))]
theorem parts_many (gw c : Nat) (h : 1 ≤ c) : ∃ m, gw ≤ c * m ∧ c * m < gw + c := by
  refine ⟨(gw + c - 1) / c, ?_, ?_⟩
  · have h1 := Nat.div_add_mod (gw + c - 1) c
    have h2 := Nat.mod_lt (gw + c - 1) (show 0 < c by omega)
    omega
  · have h1 := Nat.div_add_mod (gw + c - 1) c
    omega
theorem bl_is {w : World} {base b : Nat} {v : Value} {xs : List Int} (h : Bl w base b v (u8c xs)) (hb : base ≤ b) : Lib.IsBuilder 214 5 base b (Lib.byteCells (xs.map fun n => UInt8.ofNat n.toNat)) w := by
  obtain ⟨⟨p, hp, hd⟩, hr, hne⟩ := h
  rcases hp with rfl | rfl
  · exact .inl ⟨hb, v, hd, hr, hne⟩
  · exact .inr ⟨hb, v, hd, hr, hne⟩
theorem sh_string_k (B b : Nat) (l : List UInt8) (w : World) (h : Lib.IsBuilder 214 5 B b (Lib.byteCells l) w) (hBw : B ≤ w.heap.size) :
    Calls Tryz.prog 144 #[.pointer (some ⟨b, 0, none⟩)] w fun e w' => e = .returned (.string ⟨l.toArray⟩) ∧ Below B w w' ∧ (∀ d, w.heap[d]? = some (.deferred (some [])) → d ≠ b → w'.heap[d]? = some (.deferred (some []))) :=
  (Any.Builder_String_any_k Sh.lays169 Sh.Builder_Extra_156 B b l w (.of h) hBw).mono fun e w' ⟨h1, _, h2, h3⟩ => ⟨h1, h2, fun d hd hne => h3 d _ hd (fun e => hne (Option.some.inj e)) (fun _ _ e => by cases e)⟩
theorem cell_bb {w w' : World} {m : Nat} {p : Addr} {v : Value} (h : Below m w w') (hp : p.block < m) (hc : w.cell? p = some v) : w'.cell? p = some v := by
  obtain ⟨b, o, q⟩ := p
  exact (World.cell?_of_block (w := w) (a := ⟨b, o, q⟩) (h.block b hp)).trans hc
theorem Bl.low {w w' : World} {base b : Nat} {v : Value} {bs : List Value} (h : Bl w base b v bs) (hb : Below w.heap.size w w') : Bl w' base b v bs :=
  h.sep (Z := fun _ => False) ⟨hb.os, hb.tape, hb.output, hb.size, fun k hk _ => hb.block k hk⟩ (fun h => h) (fun _ _ h => h)
theorem Hj.set_far {w : World} {b tb : Nat} {t : TypeId} {h : Hd.H} {v : Value} (hh : Hb w b t h) (hne : b ≠ tb) : Hb (w.setCell ⟨tb, 0, none⟩ v) b t h := by
  show (w.setCell ⟨tb, 0, none⟩ v).heap[b]? = _
  rw [Go.heap_setCell_other _ _ _ _ hne]
  exact hh
set_option maxRecDepth 100000 in
set_option maxHeartbeats 8000000 in
theorem plWrite_go (pb po N cap : Nat) (l : List Int) (G : Hd.H) (hm : Pl.May G) (hl : Pl.Fits G l) (gw gh c : Nat) (hgw : G.w = (gw : Int)) (hgh : G.h = (gh : Int)) (hN : gw * gh = N) (hw80 : gw ≤ 80) (hh3 : gh ≤ 65536) (hN240 : N ≤ 240) (hcap : N ≤ cap) (hcap2 : cap ≤ 9223372036854775807) (sep : List Int) (hs1 : sep.length ≤ 1)
    (hkc : (G.kd = 1 ∧ c = 70 ∧ sep = []) ∨ (¬ G.kd = 1 ∧ c = 1 ∧ sep = [32])) (w : World) (hs : SlK .u64 w (some ⟨pb, po, none⟩) N l) :
    Calls Tryz.prog 92 #[.slice (some ⟨pb, po, none⟩) N cap, agH G] w fun e w' => e = .returned (.tuple #[.string (strOfNums (Pl.wAll G l N)), .int .i64 0]) ∧ Below w.heap.size w w' := by
  have hmm := hm.m
  have hfm := hformat_any G hm.1
  have hft := fun W h => plFit_any (some ⟨pb, po, none⟩) N cap l G (by omega) (Pl.goodU hl) W h
  rw [Pl.fits_all hm hl] at hft
  have hmy := plMay_any G (may_fit hm)
  rw [decide_eq_true hm] at hmy
  unfold Hj.fm agH at hfm
  unfold agH at hmy
  have HFM := Lib.hid hfm; have HFT := Lib.hid hft; have HMY := Lib.hid hmy
  have HS := Lib.hid hs
  have gN : wrap64 (G.w * G.h) = (N : Int) := by rw [show G.w * G.h = (N : Int) by rw [hgw, hgh, ← hN]; simp, IntWalk.wrap64_in] <;> omega
  obtain ⟨T, hT⟩ : ∃ T, strOfNums (Pl.wAll G l N) = T := ⟨_, rfl⟩
  rw [hT]
  have HT := Lib.hid hT
  have HGW := Lib.hid hgw; have HGH := Lib.hid hgh; have HM := Lib.hid hm; have HL := Lib.hid hl; have HN := Lib.hid hN; have HKC := Lib.hid hkc; have HS1 := Lib.hid hs1
  have gw1 : 1 ≤ gw := by omega
  have gh1 : 1 ≤ gh := by omega
  clear hfm hft hmy hs hT hgw hgh hm hl hN hs1
  unfold agH
  refine calls_of_marks Tryz.func92 rfl ?_
  simp only [Tryz.ntmps92, List.size_toArray, List.length_cons, List.length_nil, Nat.reduceAdd, Nat.reduceSub, Array.replicate_succ, Array.replicate_zero, List.push_toArray, List.append_toArray, List.nil_append, List.cons_append]
  go_upto_region 1 with fail
  have h1 := box1' w (.cells #[.int .i64 G.kd, .int .i64 G.w, .int .i64 G.h, .int .i64 G.m] 49)
  have hk := Hb.new w 49 G
  generalize hW : w.alloc (.cells #[.int .i64 G.kd, .int .i64 G.w, .int .i64 G.h, .int .i64 G.m] 49) = w1 at h1 hk
  obtain ⟨kb, hkb⟩ : ∃ k, w.heap.size = k := ⟨_, rfl⟩
  rw [hkb] at hk ⊢
  have HB1 := Lib.hid h1; have HK1 := Lib.hid hk
  have HKB := Lib.hid hkb
  clear h1 hk hW hkb
  obtain ⟨k0, k1, k2, k3⟩ := HK1.out.cells
  go_wp2_with fail
  refine (HMY.out _).mono ?_
  rintro e w2 ⟨rfl, hb⟩
  have HK2 := Lib.hid (HK1.out.later hb); have HB2 := Lib.hid (HB1.out.trans (hb.mono HB1.out.size))
  clear k0 k1 k2 k3 hb HK1 HB1
  obtain ⟨k0, k1, k2, k3⟩ := HK2.out.cells
  go_wp2_with fail
  refine (HFM.out _).mono ?_
  rintro e w3 ⟨rfl, hb⟩
  have HK3 := Lib.hid (HK2.out.later hb); have HB3 := Lib.hid (HB2.out.trans (hb.mono HB2.out.size))
  clear k0 k1 k2 k3 hb HK2 HB2
  go_wp2_with fail
  refine (HFT.out _ (HS.out.below HB3.out)).mono ?_
  rintro e w4 ⟨rfl, hb⟩
  have HK4 := Lib.hid (HK3.out.later hb); have HB4 := Lib.hid (HB3.out.trans (hb.mono HB3.out.size))
  clear hb HK3 HB3 HMY HFM HFT
  go_upto_region 4 with fail
  generalize hW : w4.alloc (.cells #[.string ⟨#[32]⟩] 9) = w5
  have htc : w5.heap[w4.heap.size]? = some (.cells #[.string ⟨#[32]⟩] 9 (0, 0)) := by rw [← hW]; exact World.alloc_heap_new w4 _
  have hx : Below w4.heap.size w4 w5 := by rw [← hW]; exact box1' _ _
  have HK5 := Lib.hid (HK4.out.later hx); have HB5 := Lib.hid (HB4.out.trans (hx.mono HB4.out.size))
  obtain ⟨tb, htb⟩ : ∃ k, w4.heap.size = k := ⟨_, rfl⟩
  have htw : w.heap.size ≤ tb := by rw [← htb]; exact HB4.out.size
  have hkt : kb < tb := by rw [← htb]; exact HK4.out.lt
  rw [htb] at htc ⊢
  clear hW hx htb HK4 HB4
  obtain ⟨k0, k1, k2, k3⟩ := HK5.out.cells
  have ht0 : w5.cell? ⟨tb, 0, none⟩ = some (.string ⟨#[32]⟩) := by simp [World.cell?, htc]
  have htf : w5.frozen? ⟨tb, 0, none⟩ = false := by simp [World.frozen?, htc]
  have htl : tb < w5.heap.size := (Array.getElem?_eq_some_iff.1 htc).1
  go_cut [35] from 33 to 35 (fun sx wx => sx = .bool (G.kd == 1) ∧ wx = w5)
  case first =>
    go_wp2_with fail
    go_meet
    case rel => exact ⟨rfl, rfl⟩
  case rest =>
  obtain ⟨rfl, rfl⟩ := hcut
  go_step
  go_cut [6] from 36 to 36 (fun s6 wx => s6 = .int .i64 c ∧ wx.cell? ⟨tb, 0, none⟩ = some (.string (strOfNums sep)) ∧ tb < wx.heap.size ∧ Hb wx kb 49 G ∧ Below w.heap.size w wx)
  case first =>
    by_cases hk : G.kd = 1
    · have hk1 : (G.kd == 1) = true := by simp [hk]
      have HC1 : Hid (c = 70 ∧ sep = []) := Lib.hid (by have := HKC.out; rcases this with h | h; exact h.2; exact absurd hk h.1)
      have HKN := Lib.hid hk
      clear hk
      go_wp2_with fail
      go_meet
      case rel =>
        have hne : kb ≠ tb := by omega
        refine ⟨by rw [HC1.out.1]; rfl, ?_, by simp [World.setCell]; omega, ?_, HB5.out.setCell (p := ⟨tb, 0, none⟩) htw _⟩
        · rw [HC1.out.2]
          have h' := Go.heap_setCell_same wc tb 0 _ _ (.string ⟨#[]⟩) htc
          simp [World.cell?, h']; rfl
        · exact Hj.set_far HK5.out hne
    · have hk1 : (G.kd == 1) = false := by simpa using hk
      have HC1 : Hid (c = 1 ∧ sep = [32]) := Lib.hid (by have := HKC.out; rcases this with h | h; exact absurd h.1 hk; exact h.2)
      clear hk
      go_wp2_with fail
      go_meet
      case rel => exact ⟨by rw [HC1.out.1]; rfl, by rw [HC1.out.2]; exact ht0, htl, HK5.out, HB5.out⟩
  case rest =>
    obtain ⟨rfl, ht0, htl, hk6, hb6⟩ := hcut
    clear k0 k1 k2 k3 htf htc hkt
    go_upto_region 7 with fail
    have hI : Bd (wc.alloc (.cells #[.pointer none, .slice none 0 0] 214)) wc.heap.size (.pointer none) (.slice none 0 0) := World.alloc_heap_new wc _
    have hx := box1' wc (.cells #[.pointer none, .slice none 0 0] 214)
    generalize hW : wc.alloc (.cells #[.pointer none, .slice none 0 0] 214) = W0 at hI hx
    obtain ⟨bb, hbb⟩ : ∃ k, wc.heap.size = k := ⟨_, rfl⟩
    rw [hbb] at hI ⊢
    have HL0 : Hid (Bl W0 bb bb (.slice none 0 0) (u8c (Pl.wAll G l (0 * gw)))) := by rw [Nat.zero_mul]; exact Lib.hid ⟨⟨_, .inl rfl, hI⟩, World.ownsRow_nil _ _ _ _, by simp [Value.ownBlock]⟩
    have HK0 := Lib.hid (hk6.later hx)
    have HT0 := Lib.hid (cell_later hx ht0)
    have HB0 := Lib.hid (hb6.trans (hx.mono hb6.size))
    have hwb : w.heap.size ≤ bb := by rw [← hbb]; exact hb6.size
    have htb2 : tb < bb := by rw [← hbb]; exact htl
    have hkb2 : kb < bb := by rw [← hbb]; exact hk6.lt
    have hbW0 : bb < W0.heap.size := by rw [← hW]; simp; omega
    have HD0 : Hid (Below bb W0 W0) := .refl _ _
    have HM0 : Hid (MkOk [] (.slice none 0 0) W0) := Lib.hid (fun d hd => by cases hd)
    have hpb : pb < bb := by
      have h0 : 0 < N := by rw [← HN.out]; exact Nat.mul_pos gw1 gh1
      rcases HS.out.2 with h | ⟨b, o, e, hc⟩
      · omega
      · cases e
        have h1 : pb < w.heap.size := block_lt_of_cell (hc 0 h0)
        have h2 : w.heap.size ≤ bb := hwb
        omega
    have HS0 := Lib.hid (HS.out.below HB0.out)
    have hc1 : 1 ≤ c := by have := HKC.out; omega
    have hc70 : c ≤ 70 := by have := HKC.out; omega
    clear hI hx hW hbb ht0 htl hk6 hb6
    obtain ⟨k0, k1, k2, k3⟩ := HK0.out.cells
    rw [HGH.out] at k2
    go_wp2_with fail
    clear k0 k1 k2 k3
    have HPB := Lib.hid hpb
    refine wp_loop_ghost_k (fun n a W' => ∃ (y : Nat) (Ds : List Nat) (v' : Value) (v9 v10 v11 v39 v40 v41 v42 v43 v44 v45 v46 v47 v48 v49 v50 v51 v52 v53 v54 v55 v56 v62 s38 : Value), a = { tmps := #[.slice (some ⟨pb, po, none⟩) N cap, .agg #[.int .i64 G.kd, .int .i64 G.w, .int .i64 G.h, .int .i64 G.m], undef, .pointer (some ⟨kb, 0, none⟩), .string ⟨#[]⟩, .int .i64 0, .int .i64 (c : Int), .pointer (some ⟨tb, 0, none⟩), .pointer (some ⟨bb, 0, none⟩), v9, v10, v11, undef, .agg #[.int .i64 G.kd, .int .i64 G.w, .int .i64 G.h, .int .i64 G.m], .bool true, .bool false, .bool false, .slice (some ⟨pb, po, none⟩) N cap, .int .i64 (N : Int), .pointer (some ⟨kb, 1, none⟩), .int .i64 G.w, .pointer (some ⟨kb, 2, none⟩), .int .i64 G.h, .int .i64 (N : Int), .bool false, .bool false, .bool false, .slice (some ⟨pb, po, none⟩) N cap, .agg #[.int .i64 G.kd, .int .i64 G.w, .int .i64 G.h, .int .i64 G.m], .agg #[.int .i64 (Hj.chan G), .int .i64 G.m], .bool true, .bool false, .bool false, u33, u34, .bool (G.kd == 1), .pointer (some ⟨kb, 2, none⟩), .int .i64 (gh : Int), s38, v39, v40, v41, v42, v43, v44, v45, v46, v47, v48, v49, v50, v51, v52, v53, v54, v55, v56, undef, undef, undef, undef, undef, v62, undef], defers := Ds.map fun D => { target := .collected D, args := #[] } } ∧ n = gh - y ∧ y ≤ gh ∧ s38 = .int .i64 (y : Int) ∧ Bl W' bb bb v' (u8c (Pl.wAll G l (y * gw))) ∧ MkOk Ds v' W' ∧ (∀ d ∈ Ds, bb < d) ∧ Ds.Nodup ∧ Below bb W0 W') gh ⟨0, [], _, _, _, _, _, _, _, _, _, _, _, _, _, _, _, _, _, _, _, _, _, _, _, _, rfl, rfl, by omega, rfl, HL0.out, HM0.out, (fun d hd => by cases hd), List.nodup_nil, HD0.out⟩ ?_
    rintro n a Wy ⟨y, Ds, v0', v9, v10, v11, v39, v40, v41, v42, v43, v44, v45, v46, v47, v48, v49, v50, v51, v52, v53, v54, v55, v56, v62, s38, rfl, rfl, hy, rfl, hbl0, hmk0, hdb0', hnd0, hbd0⟩ J K hJ hK
    have HLy := Lib.hid hbl0
    have HMy := Lib.hid hmk0
    have HDB := Lib.hid hdb0'
    have HND := Lib.hid hnd0
    have HDy := Lib.hid hbd0
    clear hbl0 hmk0 hdb0' hnd0 hbd0
    by_cases hyt : y < gh
    · have hyl : (y : Int) < (gh : Int) := by omega
      obtain ⟨n0, n1, n2, n3⟩ := HK0.out.cells
      rw [HGW.out] at n1
      rw [HGH.out] at n2
      have k0 := cell_bb HDy.out hkb2 n0
      have k1 := cell_bb HDy.out hkb2 n1
      have k2 := cell_bb HDy.out hkb2 n2
      clear n0 n1 n2 n3
      obtain ⟨F0, hF0⟩ : ∃ F, y * gw = F := ⟨_, rfl⟩
      have hFI : (y : Int) * (gw : Int) = (F0 : Int) := by rw [← hF0, Int.natCast_mul]
      have hFJ : ((y : Int) + 1) * (gw : Int) = ((F0 + gw : Nat) : Int) := by rw [Int.add_mul, Int.one_mul, hFI, Int.natCast_add]
      have hy0 : (0 : Int) ≤ (y : Int) := Int.natCast_nonneg _
      have hT0 : (y + 1) * gw = F0 + gw := by rw [← hF0, Nat.add_mul, Nat.one_mul]
      have hTN0 : F0 + gw ≤ N := by rw [← hT0, ← HN.out, Nat.mul_comm gw gh]; exact Nat.mul_le_mul_right _ (by omega)
      have q1 : IntKind.i64.wrap ((y : Int) * (gw : Int)) = (F0 : Int) := by rw [hFI, IntWalk.i64_in] <;> omega
      have q2 : IntKind.i64.wrap (((y : Int) + 1) * (gw : Int)) = ((F0 + gw : Nat) : Int) := by rw [hFJ, IntWalk.i64_in] <;> omega
      have q3 := hFJ
      have q4 := hFI
      clear hFI hFJ
      go_wp2_with fail
      go_cut [10, 11] from 41 to 49 (fun s10 s11 wx => s10 = .int .i64 F0 ∧ s11 = .int .i64 ((F0 + gw : Nat) : Int) ∧ Below Wy.heap.size Wy wx)
      case first =>
        go_region
        all_goals
          go_wp2_with fail
          go_meet
          case rel => exact ⟨by first | rfl | (congr 1; done) | (congr 1; omega), by first | rfl | (congr 1; done) | (congr 1; omega), by go_grown⟩
      case rest =>
        obtain ⟨rfl, rfl, hb⟩ := hcut
        have HLx := Lib.hid (Bl.low (show Bl Wy bb bb _ (u8c (Pl.wAll G l F0)) from hF0 ▸ HLy.out) hb)
        have HMx := Lib.hid (HMy.out.low hb)
        have HDx := Lib.hid (HDy.out.trans (hb.mono (Nat.le_trans (Nat.le_of_lt hbW0) HDy.out.size)))
        have fT1 : (F0 : Int) ≤ ((F0 + gw : Nat) : Int) := by omega
        have fT2 : ((F0 + gw : Nat) : Int) ≤ (cap : Int) := by omega
        have fT3 : ¬ cap = F0 := by omega
        have fT4 : (F0 : Int) ≤ (cap : Int) := by omega
        have fT5 : (0 : Int) ≤ (F0 : Int) := by omega
        clear hb k0 k1 k2 q1 q2 q3 q4
        go_wp2_with fail
        refine (ch_made (some ⟨pb, po + F0, none⟩) gw gw c hc1 _).mono ?_
        rintro e w7 ⟨nb, bq, rfl, hne, l1, l2, l3, l4, cn, cb, hb7⟩
        have hs6 := HDx.out.size
        have HLr := Lib.hid (HLx.out.low hb7)
        have HMr := Lib.hid (HMx.out.low hb7)
        have hmk := fun d hd => HMx.out.lt (d := d) hd
        have HDr := Lib.hid (HDx.out.trans (hb7.mono (by omega)))
        have hvr := fun g e => (HLx.out.row.lt g e).2
        obtain ⟨m, hm1, hm2⟩ := parts_many gw c hc1
        have hGV := Bt.ch_gives gw m c gw pb (po + F0) nb bq hc1 gw1 hm1 hm2 (Nat.le_refl _) (by omega) (by omega) (by omega) hne w7 2 (by omega) cn cb
        have hs7 := hb7.size
        have hz7 : ∀ g, g < wc.heap.size → ¬ ((g = nb ∨ g = bq) ∨ g = w7.heap.size ∨ g = w7.heap.size + 1) := fun g hg => by omega
        have hzb : ¬ ((bb = nb ∨ bb = bq) ∨ bb = w7.heap.size ∨ bb = w7.heap.size + 1) := hz7 bb (by omega)
        have hlow : ∀ g, g < bb → ¬ ((g = nb ∨ g = bq) ∨ g = w7.heap.size ∨ g = w7.heap.size + 1) := fun g hg => hz7 g (by omega)
        clear cn cb hb7
        go_wp2_with fail
        refine range_wp (gf := 169) (lb := #[.pointer (some ⟨nb, 0, none⟩), .pointer (some ⟨bq, 0, none⟩)]) rfl (enters_of Tryz.func169 (by kernel_rfl) rfl)
          hGV (by rintro k (rfl | rfl) <;> assumption) (fun _ => rfl)
          (fun pre W' => ∃ v', Bl W' bb bb v' (u8c (Pl.wAll G l (F0 + min (c * pre.length) gw))) ∧ (∀ g, v'.ownBlock = some g → ¬ ((g = nb ∨ g = bq) ∨ g = w7.heap.size ∨ g = w7.heap.size + 1)) ∧ MkOk Ds v' W' ∧ Below bb W0 W')
          (fun _ _ _ => False) ?hI0 (fun _ _ _ _ hh _ => hh) ⟨_, by simpa using HLr.out, fun g hg => hz7 g (hvr g hg), HMr.out, HDr.out⟩ ?_ ?assign0 ?body0 ?done0 ?stop0
        case hI0 =>
          rintro p A B' ⟨v', h1, h2, h4, h3⟩ hs
          exact ⟨v', h1.sep hs hzb h2, h2, h4.sep hs (fun d hd => hz7 d (hmk d hd)), h3.trans (hs.below (m := bb) (by have := h3.size; omega) hlow)⟩
        case assign0 =>
          intro l x W K9 hK9
          unfold Bt.encCh
          gi_wp2
          exact hK9
        case body0 =>
          rintro ll pre k rest W' hx hlt ⟨v', hbl, hvz, hmo, hbd⟩
          obtain ⟨rfl, hkm⟩ := part_range hx
          obtain ⟨k, hkk⟩ : ∃ k, pre.length = k := ⟨_, rfl⟩
          rw [hkk] at hbl hkm ⊢
          have hck : c * k < gw := by
            have h1 : c * (k + 1) ≤ c * m := Nat.mul_le_mul_left _ hkm
            rw [Nat.mul_succ] at h1; omega
          have hRP := Pl.row_part HM.out HL.out HGW.out (by rw [HS0.out.1, HN.out]) HKC.out hF0 (show y < gh by omega) hck
          have hlen := Pl.wAll_len (G := G) (Pl.goodU HL.out) (F0 + (c * k + min c (gw - c * k))) (by rw [HS0.out.1]; omega)
          obtain ⟨p, hp⟩ : ∃ p, min c (gw - c * k) = p := ⟨_, rfl⟩
          have hpc : Bt.partCh gw c k = p := hp
          rw [hpc]
          have hnx : min (c * (k + 1)) gw = c * k + p := by rw [Nat.mul_succ]; omega
          rw [show min (c * k) gw = c * k by omega] at hbl
          obtain ⟨q, hq⟩ : ∃ q, c * k = q := ⟨_, rfl⟩
          rw [hq] at hbl hRP hck hlen hp hnx ⊢
          have HNX := Lib.hid hnx; have HKK := Lib.hid hkk
          obtain ⟨pt, hpt⟩ : ∃ pt, (l.drop (F0 + q)).take p = pt := ⟨_, rfl⟩
          rw [hp] at hRP hlen
          rw [hpt] at hRP
          have hll := HS0.out.1
          have hpl : pt.length = p := by rw [← hpt, List.length_take, List.length_drop]; omega
          have hpf : Pl.Fits G pt := fun r hr => HL.out r (List.mem_of_mem_drop (List.mem_of_mem_take (hpt ▸ hr)))
          have hsp : SlK .u64 W' (some ⟨pb, po + F0 + q, none⟩) p pt := by
            refine ⟨hpl, .inr ⟨pb, _, rfl, fun j hj => ?_⟩⟩
            rcases HS0.out.2 with h | ⟨b, o, e, hc⟩
            · omega
            · cases e
              have h1 := cell_bb hbd (p := ⟨pb, po + (F0 + q + j), none⟩) hpb (hc (F0 + q + j) (by omega))
              rw [show po + F0 + q + j = po + (F0 + q + j) by omega, h1, ← hpt, List.getD_eq_getElem?_getD, List.getD_eq_getElem?_getD, List.getElem?_take_of_lt hj, List.getElem?_drop]
          have ht : W'.cell? ⟨tb, 0, none⟩ = some (.string (strOfNums sep)) := cell_bb hbd htb2 HT0.out
          have HLN := Lib.hid (plLine_any (some ⟨pb, po + F0 + q, none⟩) p p pt G hpf (by omega) sep HS1.out W' hsp)
          obtain ⟨X, hX⟩ : ∃ X, Pl.joinI sep ((pt.flatMap Pq.Px.smp).map Nu.decV) ++ [10] = X := ⟨_, rfl⟩
          rw [hX] at HLN hRP
          have hXl : (Pl.wAll G l (F0 + q)).length + X.length ≤ 202 * 240 := by rw [hRP, List.length_append] at hlen; omega
          have HRP := Lib.hid hRP
          obtain ⟨LT, hLT⟩ : ∃ LT, strOfNums X = LT := ⟨_, rfl⟩
          have hLTs : (u8c (Pl.wAll G l (F0 + q))).length + LT.size ≤ 140737488355328 := by rw [u8c_len, ← hLT, strOfNums_size]; omega
          rw [hLT] at HLN
          have HLT := Lib.hid hLT
          have HBL := Lib.hid hbl; have HVZ := Lib.hid hvz; have HMO := Lib.hid hmo; have HBD := Lib.hid hbd
          have hsz' := hbd.size
          clear hx hRP hp hpc hnx hpt hpf hsp hX hXl hLT hbl hvz hmo hbd hll hpl hlen hkk
          gi_wp2_with (first
            | (refine ⟨trivial, ?_⟩; gi_at_call 143; refine (((callsIn_wide (n := _)).2 HLN.out).inRound ll).mono ?_; rintro e w8 ⟨rfl, hb8⟩; have HB8 := Lib.hid hb8; have HBL8 := Lib.hid (HBL.out.low hb8); have HMO8 := Lib.hid (HMO.out.low hb8); have hs8 := hb8.size; clear hb8)
            | (refine ⟨trivial, ?_⟩; gi_at_call 142; refine (((callsIn_wide (n := _)).2 (write_any bb bb v' _ LT w8 HBL8.out hLTs (by omega))).inRound ll).mono ?_; rintro e w9 ⟨v9, rfl, hbl9, hsep9, hat9⟩; have HBL9 := Lib.hid hbl9; have HSEP9 := Lib.hid hsep9; have HAT9 := Lib.hid hat9; clear hbl9 hsep9 hat9))
          obtain ⟨pw, -, hbd8⟩ := HBL8.out.bd
          have hzz : ∀ g, ((g = nb ∨ g = bq) ∨ g = w7.heap.size ∨ g = w7.heap.size + 1) → g < W'.heap.size := fun g hg => by omega
          refine ⟨(Hold.below HB8.out hzz).trans ⟨HSEP9.out.size, fun g hg hz => HSEP9.out.block g hg (fun h => by rcases h with h | h; exact hzb (h ▸ hz); exact HVZ.out g h hz)⟩, v9, ?_, ?_, HMO8.out.write hbd8 HSEP9.out HAT9.out, ?_⟩
          · have h := HBL9.out
            rw [← HLT.out] at h
            rw [List.length_append, List.length_singleton, HKK.out, HNX.out, HRP.out, u8c_app]
            exact h
          · intro g hg hz
            rcases HAT9.out g hg with h | h
            · exact HVZ.out g h hz
            · have := hzz g hz; omega
          · have h1 : Below bb W' w8 := HB8.out.mono (by omega)
            have h2 : Below bb w8 w9 := HSEP9.out.below (m := bb) (by omega) (fun g hg h => by
              rcases h with h | h
              · omega
              · have := (HBL8.out.row.lt g h).1; omega)
            exact (HBD.out.trans h1).trans h2
        case done0 =>
          rintro W1 ⟨v1, hbl, hvz, hmo, hbd⟩ hK9
          obtain ⟨d0, hd⟩ : ∃ d, w7.heap.size = d := ⟨_, rfl⟩
          have hdb0 : bb < d0 := by have := HDr.out.size; omega
          have hndp : (d0 :: Ds).Nodup := List.nodup_cons.2 ⟨fun hh => by have := hmk d0 hh; omega, HND.out⟩
          have hdall : ∀ e ∈ d0 :: Ds, bb < e := fun e he => by
            rcases List.mem_cons.1 he with rfl | he
            · exact hdb0
            · exact HDB.out e he
          have HNDP := Lib.hid hndp
          have HDALL := Lib.hid hdall
          have hnd0 : ∀ e ∈ Ds, e < d0 := fun e he => by have := hmk e he; omega
          rw [hd] at hK9 hvz ⊢
          have HM1 : Hid (MkOk (d0 :: Ds) v1 W1) := Lib.hid (fun e he => by
            rcases List.mem_cons.1 he with rfl | he
            · exact ⟨hK9, fun h => hvz _ h (.inr (.inl rfl))⟩
            · exact hmo e he)
          have HL1 : Hid (Bl W1 bb bb v1 (u8c (Pl.wAll G l ((y + 1) * gw)))) := by
            have h := hbl
            rw [List.length_range, show min (c * m) gw = gw by omega, ← hT0] at h
            exact Lib.hid h
          have HD1 := Lib.hid hbd
          clear hbl hvz hmo hbd hK9 hd hGV hz7 hzb hlow hmk hvr l1 l2 l3 l4 hne hm1 hm2 hs6 hs7 HLr HMr HDr HLx HMx HDx fT1 fT2 fT3 fT4 fT5 hyl
          go_wp2_with fail
          refine Handed.intro (gh - (y + 1)) (by omega) (hJ _ _ _ ⟨y + 1, d0 :: Ds, v1, _, _, _, _, _, _, _, _, _, _, _, _, _, _, _, _, _, _, _, _, _, _, .int .i64 ((y : Int) + 1), rfl, rfl, by omega, by go_num, HL1.out, HM1.out, HDALL.out, HNDP.out, HD1.out⟩)
        case stop0 =>
          rintro c pre W _ hh _
          exact hh.elim
    · obtain rfl : y = gh := by omega
      have hyl : ¬ ((y : Nat) : Int) < (y : Int) := by omega
      go_wp2_with fail
      refine (sh_string_k bb bb _ _ (bl_is HLy.out (Nat.le_refl _)) (by have := HDy.out.size; omega)).mono ?_
      rintro e w9 ⟨rfl, hb9, hk9⟩
      have hdne : ∀ d ∈ Ds, d ≠ bb := fun d hd e => by have := HDB.out d hd; omega
      have HMF := Lib.hid (fun d (hd : d ∈ Ds) => hk9 d (HMy.out d hd).1 (hdne d hd))
      have HB9 := Lib.hid hb9
      have HTT : Hid ((⟨((Pl.wAll G l (y * gw)).map fun n => UInt8.ofNat n.toNat).toArray⟩ : ByteArray) = T) := by
        rw [← HT.out, ← HN.out, Nat.mul_comm gw y]; exact rfl
      obtain ⟨TT, hTT⟩ : ∃ TT, (⟨((Pl.wAll G l (y * gw)).map fun n => UInt8.ofNat n.toNat).toArray⟩ : ByteArray) = TT := ⟨_, rfl⟩
      rw [hTT] at HTT ⊢
      clear hb9 hk9 hTT
      go_wp2_with fail
      refine leaves_marks Ds w9 HMF.out HND.out (fun w' => results_tmp2 rfl _ _ _) (fun w' a1 a2 a3 a4 a5 => ?_)
      refine ⟨by first | (rw [HTT.out]; done) | (rw [HTT.out]; rfl), HB0.out.trans (((HDy.out.trans HB9.out).trans ⟨a1, a2, a3, by omega, fun k hk => a5 k (fun h => by have := HDB.out k h; omega)⟩).mono hwb)⟩
end Go.Proofs.YtmnhiagppicegaaGreat

/- A raster of digits written by the code, or refused, over any memory. Condition: the head may be, at most 80 by 3. -/
namespace Go.Proofs.YtmnhiagppicegaaGreat
open Go.RowKit Go.Shelf
set_option linter.unusedVariables false
theorem good_of_fits {p c m : Int} (hU : Pq.Px.U p) (h : Pq.Px.fitsV p c m = true) : Pq.GoodP p c m := by
  rcases Pq.Px.tri hU with ⟨a, b, d, h3⟩ | ⟨a, h1⟩ | h0
  · obtain ⟨k1, k2, k3, k4, -, -⟩ := Pq.Px.fits3_get h3 h
    exact .inl ⟨k1, a, b, d, h3, k2, k3, k4⟩
  · obtain ⟨k1, k2, -, -⟩ := Pq.Px.fits1_get h1 h
    exact .inr ⟨k1, a, h1, k2⟩
  · exact absurd h (by rw [Pq.Px.fitsV0 h0]; decide)
theorem fits_of_all {G : Hd.H} {l : List Int} (hU : ∀ p ∈ l, Pq.Px.U p) (h : Pl.fitAll G l = true) : Pl.Fits G l := fun p hp => by
  unfold Pl.fitAll at h
  rw [List.all_eq_true] at h
  exact good_of_fits (hU p hp) (h p hp)
set_option maxRecDepth 100000 in
set_option maxHeartbeats 4000000 in
/-- too few, or some that do not fit -/
theorem plWrite_no (a : Option Addr) (n cap : Nat) (l : List Int) (G : Hd.H) (hm : Pl.May G) (hU : ∀ p ∈ l, Pq.Px.U p) (N : Nat) (hN : G.w * G.h = (N : Int)) (hN9 : N ≤ 1000) (hn9 : n ≤ 1000) (h : n ≠ N ∨ Pl.fitAll G l = false) (w : World) (hs : SlK .u64 w a n l) :
    Calls Tryz.prog 92 #[.slice a n cap, agH G] w fun e w' => e = .returned (.tuple #[.string ⟨#[]⟩, .int .i64 1]) ∧ Below w.heap.size w w' := by
  have hmm := hm.m
  have hfm := hformat_any G hm.1
  have hft := fun W h => plFit_any a n cap l G (by omega) hU W h
  have hmy := plMay_any G (may_fit hm)
  rw [decide_eq_true hm] at hmy
  unfold Hj.fm agH at hfm
  unfold agH at hmy
  have HFM := Lib.hid hfm; have HMY := Lib.hid hmy
  have HS := Lib.hid hs
  have gN : wrap64 (G.w * G.h) = (N : Int) := by rw [hN, IntWalk.wrap64_in] <;> omega
  have HH := Lib.hid h
  clear hfm hmy hs hm h
  unfold agH
  refine calls_of_marks Tryz.func92 rfl ?_
  simp only [Tryz.ntmps92, List.size_toArray, List.length_cons, List.length_nil, Nat.reduceAdd, Nat.reduceSub, Array.replicate_succ, Array.replicate_zero, List.push_toArray, List.append_toArray, List.nil_append, List.cons_append]
  go_upto_region 1 with fail
  have h1 := box1' w (.cells #[.int .i64 G.kd, .int .i64 G.w, .int .i64 G.h, .int .i64 G.m] 49)
  have hk := Hb.new w 49 G
  generalize hW : w.alloc (.cells #[.int .i64 G.kd, .int .i64 G.w, .int .i64 G.h, .int .i64 G.m] 49) = w1 at h1 hk
  obtain ⟨kb, hkb⟩ : ∃ k, w.heap.size = k := ⟨_, rfl⟩
  rw [hkb] at hk ⊢
  have HB1 := Lib.hid h1; have HK1 := Lib.hid hk
  have HKB := Lib.hid hkb
  clear h1 hk hW hkb
  obtain ⟨k0, k1, k2, k3⟩ := HK1.out.cells
  go_wp2_with fail
  refine (HMY.out _).mono ?_
  rintro e w2 ⟨rfl, hb⟩
  have HK2 := Lib.hid (HK1.out.later hb); have HB2 := Lib.hid (HB1.out.trans (hb.mono HB1.out.size))
  clear k0 k1 k2 k3 hb HK1 HB1
  obtain ⟨k0, k1, k2, k3⟩ := HK2.out.cells
  by_cases hn : n = N
  · subst hn
    have hF : Pl.fitAll G l = false := by have := HH.out; simpa using this
    rw [hF] at hft
    have HFT := Lib.hid hft
    clear hF hft
    go_wp2_with fail
    refine (HFM.out _).mono ?_
    rintro e w3 ⟨rfl, hb⟩
    have HB3 := Lib.hid (HB2.out.trans (hb.mono HB2.out.size))
    clear k0 k1 k2 k3 hb HK2 HB2
    go_wp2_with fail
    refine (HFT.out _ (HS.out.below HB3.out)).mono ?_
    rintro e w4 ⟨rfl, hb⟩
    have HB4 := Lib.hid (HB3.out.trans (hb.mono HB3.out.size))
    clear hb
    go_wp2_with fail
    exact leaves_marks [] w4 (fun d hd => by cases hd) List.nodup_nil (fun w' => results_tmp2 rfl _ _ _) (fun w' a1 a2 a3 a4 a5 => ⟨by rfl, HB4.out.trans ⟨a1, a2, a3, by omega, fun k hk => a5 k (fun h => by cases h)⟩⟩)
  · have hne : ((n : Int) != (N : Int)) = true := by simp; omega
    clear hft
    go_wp2_with fail
    exact leaves_marks [] w2 (fun d hd => by cases hd) List.nodup_nil (fun w' => results_tmp2 rfl _ _ _) (fun w' a1 a2 a3 a4 a5 => ⟨by rfl, HB2.out.trans ⟨a1, a2, a3, by omega, fun k hk => a5 k (fun h => by cases h)⟩⟩)
theorem plWrite_any (pb po N cap : Nat) (l : List Int) (G : Hd.H) (hm : Pl.May G) (hU : ∀ p ∈ l, Pq.Px.U p) (gw gh : Nat) (hgw : G.w = (gw : Int)) (hgh : G.h = (gh : Int)) (hN : gw * gh = N) (hw80 : gw ≤ 80) (hh3 : gh ≤ 65536) (hN240 : N ≤ 240) (hcap : N ≤ cap) (hcap2 : cap ≤ 9223372036854775807) (w : World) (hs : SlK .u64 w (some ⟨pb, po, none⟩) N l) :
    Calls Tryz.prog 92 #[.slice (some ⟨pb, po, none⟩) N cap, agH G] w fun e w' => e = .returned (Pl.wV G l) ∧ Below w.heap.size w w' := by
  by_cases h : Pl.fitAll G l = true
  · have hl := fits_of_all hU h
    unfold Pl.wV
    rw [if_pos h, hs.1]
    by_cases hk : G.kd = 1
    · exact plWrite_go pb po N cap l G hm hl gw gh 70 hgw hgh hN hw80 hh3 hN240 hcap hcap2 [] (by simp) (.inl ⟨hk, rfl, rfl⟩) w hs
    · exact plWrite_go pb po N cap l G hm hl gw gh 1 hgw hgh hN hw80 hh3 hN240 hcap hcap2 [32] (by simp) (.inr ⟨hk, rfl, rfl⟩) w hs
  · unfold Pl.wV
    rw [if_neg h]
    exact plWrite_no _ N cap l G hm hU N (by rw [hgw, hgh, ← hN]; simp) (by omega) (by omega) (.inr (by simpa using h)) w hs
end Go.Proofs.YtmnhiagppicegaaGreat

/- The pixels of an image of digits, with the room they have, over any memory. Condition: the head may be. -/
namespace Go.Proofs.YtmnhiagppicegaaGreat
open Go.RowKit
set_option linter.unusedVariables false
def ImParC (t : Im.P) (w : World) (e : Ending) (w' : World) : Prop :=
  ∃ a cap, e = .returned (.tuple #[agI t.c t.m t.w t.h (.slice a t.l.length cap), .int .i64 t.u, .int .i64 t.e]) ∧ SlK .u64 w' a t.l.length t.l ∧ Below w.heap.size w w' ∧ Cp t.l.length cap
set_option maxHeartbeats 1000000 in
theorem imReadC_any (a : Option Addr) (nb cb : Nat) (bs : List Int) (hnb : nb ≤ 100000) (h : Hd.H) (hm : Hd.May h) (hk3 : ¬ 3 < h.kd) (w : World) (hs : Bt.Bs w a nb cb bs) :
    Calls Tryz.prog 58 #[.slice a nb cb, agH h] w (RdRc (Im.readV h bs) w) := by
  have hf := Hj.may_fit hm
  have HR := Lib.hid (hraw_any h hm)
  have HSZ := Lib.hid (hsize_any h hm)
  have hsz : (strOfNums bs).size ≤ 100000 := by rw [strOfNums_size, hs.1.1]; exact hnb
  have HP := Lib.hid (plReadC_any (strOfNums bs) hsz h hf)
  rw [bytesOf_strOfNums hs.2.2.2] at HP
  have HW : Hid (∀ W, Below w.heap.size w W → Calls Tryz.prog 104 #[.slice a nb cb, agH h] W (RwdR (Rw.readV h bs) W)) := Lib.hid fun W hb => rwRead_any a nb cb bs hnb h hf W (hs.below hb)
  have HS := Lib.hid hs
  unfold Im.readV
  obtain ⟨kd, ww, hh, mx⟩ := h
  have X := Hb.new w 49 ⟨kd, ww, hh, mx⟩
  have hbx := box1 w (.cells #[.int .i64 kd, .int .i64 ww, .int .i64 hh, .int .i64 mx] 49)
  obtain ⟨W, hW⟩ : ∃ W, w.alloc (.cells #[.int .i64 kd, .int .i64 ww, .int .i64 hh, .int .i64 mx] 49) = W := ⟨_, rfl⟩
  simp only at X
  rw [hW] at X hbx
  clear hs hsz hf hm
  unfold agH at HR HSZ HP HW ⊢
  simp only at HR HSZ HP HW ⊢
  have hk : ¬ 3 < kd := hk3
  have HR' : Hid (∀ w, Calls Tryz.prog 80 #[.agg #[.int .i64 kd, .int .i64 ww, .int .i64 hh, .int .i64 mx]] w fun e w' => e = .returned (.bool false) ∧ Below w.heap.size w w') := Lib.hid fun w => by have := HR.out w; rw [decide_eq_false hk] at this; exact this
  obtain ⟨t, ht⟩ : ∃ t, Pl.readV ⟨kd, ww, hh, mx⟩ bs = t := ⟨_, rfl⟩
  rw [if_neg hk]
  rw [ht] at HP ⊢
  clear HR HW hk ht
  obtain ⟨l0, l1, l2, l3⟩ := X.cells
  simp only at l0 l1 l2 l3
  go_enter Tryz.func58, Tryz.ntmps58
  go_upto_region 1 with fail
  try rw [hW]
  go_wp2_with fail
  refine (HR'.out _).mono ?_
  rintro e w2 ⟨rfl, hb2⟩
  replace X := X.later hb2
  replace hbx := hbx.trans (hb2.mono hbx.size)
  obtain ⟨l0, l1, l2, l3⟩ := X.cells
  simp only at l0 l1 l2 l3
  have C := Cv.conv_slk (cap := cb) (HS.out.1.below hbx)
  go_wp2_with fail
  refine (HP.out _).mono ?_
  unfold RdRc
  rintro e w3 ⟨ra, rc, rfl, hrs, hb3, hcp⟩
  replace hbx := hbx.trans (hb3.mono hbx.size)
  have HRS := Lib.hid hrs
  go_wp2
  go_returns
  exact ⟨ra, rc, rfl, HRS.out, hbx, hcp⟩
end Go.Proofs.YtmnhiagppicegaaGreat
