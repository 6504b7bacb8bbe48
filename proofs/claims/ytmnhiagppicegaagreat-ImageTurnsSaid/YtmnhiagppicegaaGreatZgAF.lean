/- The document's reader of digits is told a byte: what it comes to, over any memory. Condition: its head may be. -/
import Derived.Test.YtmnhiagppicegaaGreatZPlP
import Derived.Test.YtmnhiagppicegaaGreatZgAE
import Derived.Deep.RegionHeld3
import Derived.Deep.DeepCutAuto
import Derived.Test.YtmnhiagppicegaaGreatZgAB
import Derived.Test.YtmnhiagppicegaaGreatZgAC
import Derived.Deep.RegionLaw
import Derived.Deep.AppendLies
import Derived.Test.YtmnhiagppicegaaGreatZgAD
import Derived.Test.YtmnhiagppicegaaGreatZHedK
import Derived.Test.YtmnhiagppicegaaGreatZgAA
import Derived.Test.YtmnhiagppicegaaGreatZPlKc
namespace Go.Proofs.YtmnhiagppicegaaGreat
open Go.RowKit
set_option linter.unusedVariables false

/-- v is the document's reader where s says; its memory is what was handed in, or was made since W -/
def RfF (A1 A2 : Option Addr) (O1 O2 : List Int) (W w : World) (v : Value) (s : Pl.S) : Prop :=
  ∃ a1 c1 a2 c2, v = agR s.h (Pl.nn s) (.slice a1 s.one.length c1) (.slice a2 s.row.length c2) s.rows s.last s.e ∧ SlK .i64 w a1 s.one.length s.one ∧ SlK .u64 w a2 s.row.length s.row ∧ ((a1 = A1 ∧ s.one = O1) ∨ Nw W a1) ∧ ((a2 = A2 ∧ s.row = O2) ∨ Nw W a2)
/-- a block that was made between W0 and W is written into -/
theorem slk_far {q : IntKind} {W0 W w w' : World} {a : Option Addr} {n b : Nat} {l : List Int} (h : SlK q w a n l) (hf : SlK q W0 a n l ∨ Nw W a) (h1 : W0.heap.size ≤ b) (h2 : b < W.heap.size) (hg : w.grownBy w' (some b)) : SlK q w' a n l := by
  rcases hf with hf | hf
  · refine ⟨h.1, ?_⟩
    rcases hf.2 with h0 | ⟨g, o, rfl, hc⟩
    · exact .inl h0
    · rcases h.2 with h0 | ⟨g', o', ha, hc'⟩
      · exact .inl h0
      · cases ha
        refine .inr ⟨g, o, rfl, fun i hi => ?_⟩
        have hlt := block_lt_of_cell (hc i hi)
        exact hg.cell (hc' i hi) (by intro e; injection e with e; have e : g = b := e; omega)
  · exact slk_kept h (far_of hf h2) hg
theorem RfF.far {A1 A2 : Option Addr} {O1 O2 : List Int} {W0 W w w' : World} {v : Value} {s : Pl.S} (h : RfF A1 A2 O1 O2 W w v s) {n1 n2 : Nat} (S1 : SlK .i64 W0 A1 n1 O1) (S2 : SlK .u64 W0 A2 n2 O2) {b : Nat} (h1 : W0.heap.size ≤ b) (h2 : b < W.heap.size) (hg : w.grownBy w' (some b)) : RfF A1 A2 O1 O2 W w' v s := by
  obtain ⟨a1, c1, a2, c2, hv, s1, s2, f1, f2⟩ := h
  refine ⟨a1, c1, a2, c2, hv, slk_far s1 (f1.imp ?_ id) h1 h2 hg, slk_far s2 (f2.imp ?_ id) h1 h2 hg, f1, f2⟩
  · rintro ⟨rfl, e⟩; rw [e]; have := S1.1; rw [this]; exact S1
  · rintro ⟨rfl, e⟩; rw [e]; have := S2.1; rw [this]; exact S2
theorem RfF.mono {A1 A2 : Option Addr} {O1 O2 : List Int} {W W' w : World} {v : Value} {s : Pl.S} (h : RfF A1 A2 O1 O2 W' w v s) (hw : W.heap.size ≤ W'.heap.size) : RfF A1 A2 O1 O2 W w v s := by
  obtain ⟨a1, c1, a2, c2, hv, s1, s2, f1, f2⟩ := h
  exact ⟨a1, c1, a2, c2, hv, s1, s2, f1.imp id (nw_mono hw), f2.imp id (nw_mono hw)⟩
theorem RfF.later {A1 A2 : Option Addr} {O1 O2 : List Int} {W w w' : World} {v : Value} {s : Pl.S} (h : RfF A1 A2 O1 O2 W w v s) (hb : Below w.heap.size w w') : RfF A1 A2 O1 O2 W w' v s := by
  obtain ⟨a1, c1, a2, c2, hv, s1, s2, f1, f2⟩ := h
  exact ⟨a1, c1, a2, c2, hv, s1.below hb, s2.below hb, f1, f2⟩
end Go.Proofs.YtmnhiagppicegaaGreat

/- The document's reader of digits is told the end: what it comes to, over any memory. Condition: its head may be. -/
namespace Go.Proofs.YtmnhiagppicegaaGreat
open Go.RowKit
set_option linter.unusedVariables false

end Go.Proofs.YtmnhiagppicegaaGreat

/- All pixels of a raster of digits by the document, over any memory. Condition: the text is short, the head's numbers fit. -/
namespace Go.Proofs.YtmnhiagppicegaaGreat
open Go.RowKit
set_option linter.unusedVariables false

/-- a slice that is known, in memory that is neither the block k nor the value v's own -/
def SlF (q : IntKind) (w : World) (a : Option Addr) (n : Nat) (l : List Int) (k : Nat) (v : Value) : Prop :=
  l.length = n ∧ (n = 0 ∨ ∃ g o, a = some ⟨g, o, none⟩ ∧ g ≠ k ∧ v.ownBlock ≠ some g ∧ ∀ i, i < n → w.cell? ⟨g, o + i, none⟩ = some (.int q (l.getD i 0)))
theorem SlF.sl {q : IntKind} {w : World} {a : Option Addr} {n k : Nat} {l : List Int} {v : Value} (h : SlF q w a n l k v) : SlK q w a n l := by
  refine ⟨h.1, ?_⟩
  rcases h.2 with h | ⟨g, o, ha, _, _, hc⟩
  · exact .inl h
  · exact .inr ⟨g, o, ha, hc⟩
theorem SlF.put {q : IntKind} {w w' : World} {a : Option Addr} {n k : Nat} {l : List Int} {v : Value} (h : SlF q w a n l k v) (hg : w.grownBy w' (some k)) : SlF q w' a n l k v := by
  refine ⟨h.1, ?_⟩
  rcases h.2 with h | ⟨g, o, ha, h1, h2, hc⟩
  · exact .inl h
  · exact .inr ⟨g, o, ha, h1, h2, fun i hi => hg.cell (hc i hi) (by intro e; injection e with e; exact h1 e)⟩
theorem SlF.of {q : IntKind} {wr w : World} {a A : Option Addr} {n m k : Nat} {l O : List Int} {v : Value} (h : SlK q w a n l) (hf : (a = A ∧ l = O) ∨ Nw wr a) (hA : SlF q wr A m O k v) (hk : k < wr.heap.size) (hv : ∀ j, v.ownBlock = some j → j < wr.heap.size) : SlF q w a n l k v := by
  refine ⟨h.1, ?_⟩
  rcases h.2 with h0 | ⟨g, o, ha, hc⟩
  · exact .inl h0
  · by_cases hn : n = 0
    · exact .inl hn
    refine .inr ⟨g, o, ha, ?_, ?_, hc⟩
    · rcases hf with ⟨rfl, rfl⟩ | hf
      · rcases hA.2 with h0 | ⟨g', o', ha', h1, h2, _⟩
        · exact absurd (h.1.symm.trans (hA.1.trans h0)) hn
        · rw [ha] at ha'; cases ha'; exact h1
      · have h3 : wr.heap.size ≤ g := hf _ ha
        intro e; have e4 : g = k := e; omega
    · rcases hf with ⟨rfl, rfl⟩ | hf
      · rcases hA.2 with h0 | ⟨g', o', ha', h1, h2, _⟩
        · exact absurd (h.1.symm.trans (hA.1.trans h0)) hn
        · rw [ha] at ha'; cases ha'; exact h2
      · intro e; have h1 := hv g e; have h2 : wr.heap.size ≤ g := hf _ ha; omega
section
variable {A1 A2 : Option Addr} {O1 O2 : List Int} {q : Pl.S × List Int} {wr W w9 : World} {m1 m2 m : Nat} {h2 : Hd.H} {N2 rows2 last2 er2 : Int} {b1 b2 a : Option Addr} {e1 e2 c : Nat}
end
end Go.Proofs.YtmnhiagppicegaaGreat

/- Two heads in a block of the call's own; Read of both told as one. No condition. -/
namespace Go.Proofs.YtmnhiagppicegaaGreat
open Go.RowKit
set_option linter.unusedVariables false

def Ha (w : World) (g : Nat) (h k : Hd.H) : Prop := w.heap[g]? = some (.cells #[.int .i64 h.kd, .int .i64 h.w, .int .i64 h.h, .int .i64 h.m, .int .i64 k.kd, .int .i64 k.w, .int .i64 k.h, .int .i64 k.m] 112 (0, 0))
section
variable {w w' : World} {g : Nat} {h k : Hd.H}
theorem Ha.lt (H : Ha w g h k) : g < w.heap.size := (Array.getElem?_eq_some_iff.1 H).1
theorem Ha.later (H : Ha w g h k) (hb : Below w.heap.size w w') : Ha w' g h k := (hb.block g H.lt).trans H
theorem Ha.cells (H : Ha w g h k) : w.cell? ⟨g, 0, none⟩ = some (.int .i64 h.kd) ∧ w.cell? ⟨g, 1, none⟩ = some (.int .i64 h.w) ∧ w.cell? ⟨g, 2, none⟩ = some (.int .i64 h.h) ∧ w.cell? ⟨g, 3, none⟩ = some (.int .i64 h.m) ∧ w.cell? ⟨g, 4, none⟩ = some (.int .i64 k.kd) ∧ w.cell? ⟨g, 5, none⟩ = some (.int .i64 k.w) ∧ w.cell? ⟨g, 6, none⟩ = some (.int .i64 k.h) ∧ w.cell? ⟨g, 7, none⟩ = some (.int .i64 k.m) := by
  have h' : w.heap[g]? = _ := H
  refine ⟨?_, ?_, ?_, ?_, ?_, ?_, ?_, ?_⟩ <;> simp [World.cell?, h']
end
end Go.Proofs.YtmnhiagppicegaaGreat

/- How many bytes a row has, by the document and by the code; the document's example. Condition: the head may be. -/
namespace Go.Proofs.YtmnhiagppicegaaGreat
open Go.RowKit
set_option linter.unusedVariables false

def Rw.strideV (h : Hd.H) : Int := if 4 ≤ h.kd then (Rw.stride h : Int) else 0
theorem Rw.strideV_size {h : Hd.H} (H : Hd.May h) : Rw.strideV h * h.h = Hj.size h ∧ 0 ≤ Rw.strideV h ∧ Rw.strideV h ≤ 24576 := by
  unfold Rw.strideV
  split
  · rename_i h4
    have hs := (Rw.stride_at ⟨H, h4⟩).2.1
    rw [Rw.size_eq ⟨H, h4⟩, Int.mul_comm]
    exact ⟨rfl, by omega, by omega⟩
  · rw [Hj.size_small (by omega)]; simp
end Go.Proofs.YtmnhiagppicegaaGreat

/- Samples of bytes, and with which byte a raster is wrong, by the document, over any memory. Condition: not too many bytes. -/
namespace Go.Proofs.YtmnhiagppicegaaGreat
open Go.RowKit
set_option linter.unusedVariables false
namespace Rw
theorem take_snoc1 (bs : List Int) (i : Nat) (h : i < bs.length) : bs.take (i + 1) = bs.take i ++ [bs.getD i 0] := by
  rw [List.take_succ_eq_append_getElem h, List.getD_eq_getElem?_getD, List.getElem?_eq_getElem h]; rfl
theorem smp_in {h : Hd.H} {r : List Int} (hr : ∀ x ∈ r, 0 ≤ x ∧ x ≤ 255) : ∀ x ∈ smp h r, 0 ≤ x ∧ x ≤ 65535 := by
  revert hr
  refine snoc_ind (P := fun r => (∀ x ∈ r, 0 ≤ x ∧ x ≤ 255) → ∀ x ∈ smp h r, 0 ≤ x ∧ x ≤ 65535) (fun _ x hx => by cases hx) (fun l c ih hr => ?_) r
  have hl : ∀ x ∈ l, 0 ≤ x ∧ x ≤ 255 := fun x hx => hr x (List.mem_append_left _ hx)
  have hc := hr c (by simp)
  by_cases hf : (parts (wide h) l).2.length + 1 = wide h
  · rw [smp_more hf]
    intro x hx
    rcases List.mem_append.1 hx with hx | hx
    · exact ih hl x hx
    · rw [List.mem_singleton.1 hx]
      rcases wait_in (h := h) hl with e | ⟨y, e, y0, y1, _⟩
      · rw [e]; show 0 ≤ val [c] ∧ _ ≤ _; rw [show ([] : List Int) ++ [c] = [c] from rfl, val_one]; omega
      · rw [e]; show 0 ≤ val [y, c] ∧ val [y, c] ≤ _; rw [val_two]; omega
  · rw [smp_wait hf]; exact ih hl
/-- the number of the byte with which samples are wrong -/
def badL (w m : Int) : List Int → Int → Int
  | [], _ => 0
  | x :: l, i => if m < x then w * (i + 1) else badL w m l (i + 1)
end Rw
end Go.Proofs.YtmnhiagppicegaaGreat

/- With which byte a raster is wrong, by the document, over any memory. Condition: not too many bytes, the head may be. -/
namespace Go.Proofs.YtmnhiagppicegaaGreat
open Go.RowKit
set_option linter.unusedVariables false
theorem Rw.badL_cons (w m x : Int) (l : List Int) (i : Int) : Rw.badL w m (x :: l) i = if m < x then w * (i + 1) else Rw.badL w m l (i + 1) := by rw [Rw.badL]
end Go.Proofs.YtmnhiagppicegaaGreat

/- A row's pixels, by the document, over any memory. Condition: the head may be, the bytes are a row's. -/
namespace Go.Proofs.YtmnhiagppicegaaGreat
open Go.RowKit
set_option linter.unusedVariables false
namespace Rw
theorem parts_part {k : Nat} {l : List Int} (hl : (parts k l).2 = []) : ∀ t : List Int, t.length < k → parts k (l ++ t) = ((parts k l).1, t) := by
  refine snoc_ind (fun _ => ?_) fun t x ih ht => ?_
  · rw [List.append_nil]; exact Prod.ext rfl hl
  · rw [List.length_append, List.length_singleton] at ht
    have h := ih (by omega)
    rw [← List.append_assoc, parts_wait (by rw [h]; show ¬ t.length + 1 = k; omega), h]
theorem parts_whole {k : Nat} {l t : List Int} (hl : (parts k l).2 = []) (hk : 1 ≤ k) (ht : t.length = k) : parts k (l ++ t) = ((parts k l).1 ++ [t], []) := by
  have hne : t ≠ [] := by intro e; subst e; simp at ht; omega
  obtain ⟨t', x, rfl⟩ : ∃ t' x, t = t' ++ [x] := ⟨_, _, (List.dropLast_concat_getLast hne).symm⟩
  rw [List.length_append, List.length_singleton] at ht
  have h := parts_part hl t' (by omega)
  rw [← List.append_assoc, parts_full (by rw [h]; exact ht), h]
end Rw
end Go.Proofs.YtmnhiagppicegaaGreat

/- Plain facts on rasters of bytes: where a reader is behind so many bytes, what is read of them. No condition. -/
namespace Go.Proofs.YtmnhiagppicegaaGreat
open Go.RowKit
set_option linter.unusedVariables false
namespace Rw
/-- the row that is told at byte i; how many rows were; the reader there -/
def curAt (h : Hd.H) (bs : List Int) (i : Nat) : List Int := (bs.take i).drop (i / stride h * stride h)
def st (h : Hd.H) (bs : List Int) (i : Nat) : S := ⟨h, curAt h bs i, ((i / stride h : Nat) : Int), Hj.size h - (i : Int), 0⟩
/-- the number of the byte with which the first i bytes are wrong -/
def badN (h : Hd.H) (bs : List Int) (i : Nat) : Int := if h.kd = 4 then 0 else badL (wide h) h.m (smp h (bs.take i)) 0
theorem badL_snoc (w m : Int) (w0 : 1 ≤ w) (x : Int) : ∀ (l : List Int) (i : Int), 0 ≤ i → badL w m (l ++ [x]) i = if badL w m l i ≠ 0 then badL w m l i else if m < x then w * (i + l.length + 1) else 0
  | [], i, hi => by
    show badL w m [x] i = _
    rw [badL_cons]
    show (if m < x then w * (i + 1) else 0) = if (0 : Int) ≠ 0 then 0 else if m < x then w * (i + ((0 : Nat) : Int) + 1) else 0
    rw [if_neg (show ¬ (0 : Int) ≠ 0 by omega)]
    split
    · congr 1; omega
    · rfl
  | y :: l, i, hi => by
    rw [List.cons_append, badL_cons, badL_cons]
    by_cases hy : m < y
    · rw [if_pos hy, if_pos hy, if_pos]
      have : 1 * 1 ≤ w * (i + 1) := Int.mul_le_mul w0 (by omega) (by omega) (by omega)
      omega
    · rw [if_neg hy, if_neg hy, badL_snoc w m w0 x l (i + 1) (by omega)]
      have e : i + 1 + (l.length : Int) + 1 = i + ((y :: l).length : Int) + 1 := by rw [List.length_cons]; omega
      rw [e]
theorem badN_succ (h : Hd.H) (bs : List Int) (i : Nat) (hi : i < bs.length) : badN h bs (i + 1) = if badN h bs i ≠ 0 then badN h bs i else if bad h (bs.take i) (bs.getD i 0) then ((i + 1 : Nat) : Int) else 0 := by
  unfold badN
  by_cases h4 : h.kd = 4
  · rw [if_pos h4, if_pos h4, if_neg (by omega), if_neg]
    intro hb; exact hb.1 h4
  rw [if_neg h4, if_neg h4, take_snoc1 bs i hi]
  have hw := wide_at h
  by_cases hf : (parts (wide h) (bs.take i)).2.length + 1 = wide h
  · rw [smp_more hf, badL_snoc _ _ (by omega) _ _ _ (Int.le_refl _)]
    have hl := smp_len h (bs.take i)
    rw [List.length_take, Nat.min_eq_left (by omega)] at hl
    have e : (wide h : Int) * (0 + ((smp h (bs.take i)).length : Int) + 1) = ((i + 1 : Nat) : Int) := by
      have e1 : (smp h (bs.take i)).length * wide h + wide h = i + 1 := by omega
      have e2 : ((smp h (bs.take i)).length + 1) * wide h = i + 1 := by rw [Nat.add_mul, Nat.one_mul]; exact e1
      rw [← e2, Int.natCast_mul, Int.mul_comm]
      congr 1; omega
    rw [e]
    have eb : bad h (bs.take i) (bs.getD i 0) ↔ h.m < val ((parts (wide h) (bs.take i)).2 ++ [bs.getD i 0]) := ⟨fun hb => hb.2.2, fun hv => ⟨h4, hf, hv⟩⟩
    by_cases hv : h.m < val ((parts (wide h) (bs.take i)).2 ++ [bs.getD i 0])
    · rw [if_pos hv, if_pos (eb.2 hv)]
    · rw [if_neg hv, if_neg fun hb => hv (eb.1 hb)]
  · rw [smp_wait hf, if_neg (c := bad _ _ _) fun hb => hf hb.2.1]
    split
    · rfl
    · rename_i h0; exact Classical.not_not.1 h0
theorem parts_app {k : Nat} {a : List Int} (ha : (parts k a).2 = []) : ∀ b : List Int, parts k (a ++ b) = ((parts k a).1 ++ (parts k b).1, (parts k b).2) := by
  refine snoc_ind ?_ fun b x ih => ?_
  · rw [List.append_nil, parts_nil, List.append_nil]; exact Prod.ext rfl ha
  · rw [← List.append_assoc]
    by_cases hf : (parts k b).2.length + 1 = k
    · rw [parts_full (by rw [ih]; exact hf), parts_full hf, ih]; simp
    · rw [parts_wait (by rw [ih]; exact hf), parts_wait hf, ih]
theorem parts_mul {k : Nat} (hk : 1 ≤ k) {a : List Int} {q : Nat} (ha : a.length = q * k) : (parts k a).2 = [] := by
  obtain ⟨h1, h2, _⟩ := parts_at hk a
  rw [ha] at h2
  have h3 : (parts k a).2.length % k = 0 := by
    have : (parts k a).2.length = q * k - (parts k a).1.length * k := by omega
    rw [this, ← Nat.sub_mul, Nat.mul_mod_left]
  rw [Nat.mod_eq_of_lt h1] at h3
  exact List.eq_nil_of_length_eq_zero h3
theorem stride_wide (h : Hd.H) (hm : May h) : ∃ c, stride h = c * wide h := by
  by_cases h4 : h.kd = 4
  · exact ⟨stride h, by rw [(hm.one h4).2.1, Nat.mul_one]⟩
  · refine ⟨h.w.toNat * chan h, ?_⟩
    unfold stride; rw [if_neg h4, Nat.mul_assoc]
theorem cur_split (h : Hd.H) (bs : List Int) (i : Nat) : bs.take (i / stride h * stride h) ++ curAt h bs i = bs.take i := by
  unfold curAt
  have hle : i / stride h * stride h ≤ i := Nat.div_mul_le_self _ _
  have e : bs.take (i / stride h * stride h) = (bs.take i).take (i / stride h * stride h) := by rw [List.take_take, Nat.min_eq_left hle]
  rw [e, List.take_append_drop]
theorem rest_cur {h : Hd.H} (hm : May h) (bs : List Int) {i : Nat} (hi : i ≤ bs.length) : rest h (bs.take i) = rest h (curAt h bs i) := by
  obtain ⟨c, hc⟩ := stride_wide h hm
  have hle : i / stride h * stride h ≤ i := Nat.div_mul_le_self _ _
  have h0 : (parts (wide h) (bs.take (i / stride h * stride h))).2 = [] := parts_mul (wide_pos h) (q := i / stride h * c) (by rw [List.length_take, Nat.min_eq_left (by omega), Nat.mul_assoc, ← hc])
  unfold rest
  rw [← cur_split h bs i, parts_app h0]
theorem bad_cur {h : Hd.H} (hm : May h) (bs : List Int) {i : Nat} (hi : i ≤ bs.length) (c : Int) : bad h (bs.take i) c ↔ bad h (curAt h bs i) c := by
  have := rest_cur hm bs hi
  unfold rest at this
  unfold bad
  rw [this]
end Rw
end Go.Proofs.YtmnhiagppicegaaGreat

/- Plain facts on rasters of bytes: a reader that is told them one by one, all that is read. No condition. -/
namespace Go.Proofs.YtmnhiagppicegaaGreat
open Go.RowKit
set_option linter.unusedVariables false
namespace Rw
/-- told the byte with which it is wrong -/
theorem put_wrong {h : Hd.H} (hm : May h) (bs : List Int) {i : Nat} (hi : i < bs.length) (hsz : (i : Int) < Hj.size h) (hb0 : badN h bs i = 0) (hb : badN h bs (i + 1) ≠ 0) :
    put (st h bs i) (bs.getD i 0) = (⟨h, curAt h bs i, ((i / stride h : Nat) : Int), 0, 5⟩, []) ∧ badN h bs (i + 1) = ((i + 1 : Nat) : Int) := by
  have hbd : bad h (bs.take i) (bs.getD i 0) := by
    rw [badN_succ h bs i hi, hb0, if_neg (by omega)] at hb
    by_cases hbd : bad h (bs.take i) (bs.getD i 0)
    · exact hbd
    · rw [if_neg hbd] at hb; exact absurd rfl hb
  refine ⟨?_, ?_⟩
  · unfold put
    rw [if_neg (show ¬ (st h bs i).left = 0 by show ¬ Hj.size h - (i : Int) = 0; omega), if_pos (show bad (st h bs i).h (st h bs i).cur (bs.getD i 0) from (bad_cur hm bs (by omega) _).1 hbd)]
    rfl
  · rw [badN_succ h bs i hi, hb0, if_neg (by omega), if_pos hbd]
end Rw
end Go.Proofs.YtmnhiagppicegaaGreat

/- Plain facts on rasters of bytes that are written: their bytes, and what is read of them. No condition. -/
namespace Go.Proofs.YtmnhiagppicegaaGreat
open Go.RowKit
set_option linter.unusedVariables false
namespace Rw
/-- a sample's bytes; a pixel's; its first sample; a row's bytes; all rows' -/
def wbs (h : Hd.H) (s : Int) : List Int := if wide h = 2 then [s / 256, s % 256] else [s % 256]
def bts (h : Hd.H) (p : Int) : List Int := (Pq.Px.smp p).flatMap (wbs h)
def s0 (p : Int) : Int := (Pq.Px.smp p).getD 0 0
def rowB (h : Hd.H) (row : List Int) : List Int := if h.kd = 4 then Bt.packB (row.map s0) else row.flatMap (bts h)
def wRows (h : Hd.H) (l : List Int) (W : Nat) : Nat → List Int
  | 0 => []
  | y + 1 => wRows h l W y ++ rowB h ((l.drop (y * W)).take W)
theorem good_smp {h : Hd.H} (hm : May h) {p : Int} (hp : Pq.GoodP p (Hj.chan h) h.m) : (Pq.Px.smp p).length = chan h ∧ (∀ s ∈ Pq.Px.smp p, 0 ≤ s ∧ s ≤ h.m) ∧ pk (Pq.Px.smp p) = p := by
  have hc := chan_eq hm
  have hcc := chan_at h
  rcases hp with ⟨h3, x, y, z, hi, hx, hy, hz⟩ | ⟨h1, x, hi, hx⟩
  · obtain ⟨e0, a1, a2, a3, a4, a5, a6⟩ := id hi
    rw [Pq.Px.smp3 hi]
    refine ⟨by simp; omega, ?_, ?_⟩
    · intro s hs
      simp only [List.mem_cons, List.not_mem_nil, or_false] at hs
      rcases hs with rfl | rfl | rfl <;> exact ⟨by assumption, by assumption⟩
    · show (Pq.Px.packV [x, y, z]).1 = p
      rw [Pq.Px.packV3 a1 a2 a3 a4 a5 a6, e0]
  · obtain ⟨e0, a1, a2⟩ := id hi
    rw [Pq.Px.smp1 hi]
    refine ⟨by simp; omega, ?_, ?_⟩
    · intro s hs
      simp only [List.mem_cons, List.not_mem_nil, or_false] at hs
      subst hs; exact ⟨a1, hx⟩
    · show (Pq.Px.packV [x]).1 = p
      rw [Pq.Px.packV1 a1 a2, e0]
theorem wbs_len (h : Hd.H) (s : Int) : (wbs h s).length = wide h := by
  unfold wbs
  rcases wide_at h with ⟨_, e⟩ | ⟨_, e⟩ <;> rw [e] <;> rfl
theorem wbs_val {h : Hd.H} (hm : May h) {s : Int} (s0 : 0 ≤ s) (s1 : s ≤ h.m) : val (wbs h s) = s := by
  have hmm := hm.m
  unfold wbs
  rcases wide_at h with ⟨h1, e⟩ | ⟨h1, e⟩ <;> rw [e]
  · show val [s / 256, s % 256] = s; rw [val_two]; omega
  · show val [s % 256] = s; rw [val_one]; omega
theorem flat_len {f : Int → List Int} {k : Nat} : ∀ l : List Int, (∀ x ∈ l, (f x).length = k) → (l.flatMap f).length = l.length * k
  | [], _ => by simp
  | x :: l, hx => by
    rw [List.flatMap_cons, List.length_append, hx x (List.mem_cons_self ..), flat_len l fun y hy => hx y (List.mem_cons_of_mem _ hy), List.length_cons, Nat.add_mul, Nat.one_mul, Nat.add_comm]
theorem parts_flat {k : Nat} (hk : 1 ≤ k) : ∀ ts : List (List Int), (∀ t ∈ ts, t.length = k) → parts k ts.flatten = (ts, [])
  | [], _ => rfl
  | t :: ts, ht => by
    have h1 : parts k t = ([t], []) := by have := parts_whole (k := k) (l := []) rfl hk (ht t (List.mem_cons_self ..)); simpa [parts_nil] using this
    rw [List.flatten_cons, parts_app (by rw [h1]), h1, parts_flat hk ts fun u hu => ht u (List.mem_cons_of_mem _ hu)]
    rfl
section
variable {h : Hd.H} (hm : May h) {l : List Int} (hl : Pl.Fits h l)
include hm hl
theorem all_smp : ∀ s ∈ l.flatMap Pq.Px.smp, 0 ≤ s ∧ s ≤ h.m := by
  intro s hs
  obtain ⟨p, hp, hs⟩ := List.mem_flatMap.1 hs
  exact (good_smp hm (hl p hp)).2.1 s hs
theorem smp_bts : smp h (l.flatMap (bts h)) = l.flatMap Pq.Px.smp ∧ rest h (l.flatMap (bts h)) = [] := by
  have e : l.flatMap (bts h) = ((l.flatMap Pq.Px.smp).map (wbs h)).flatten := by
    rw [← List.flatMap_def, List.flatMap_assoc]; rfl
  have hp := parts_flat (wide_pos h) ((l.flatMap Pq.Px.smp).map (wbs h)) fun t ht => by
    obtain ⟨s, _, rfl⟩ := List.mem_map.1 ht
    exact wbs_len h s
  unfold smp rest
  rw [e, hp]
  refine ⟨?_, rfl⟩
  show ((l.flatMap Pq.Px.smp).map (wbs h)).map val = _
  rw [List.map_map]
  conv => rhs; rw [← List.map_id (l.flatMap Pq.Px.smp)]
  refine List.map_congr_left fun s hs => ?_
  obtain ⟨a, b⟩ := all_smp hm hl s hs
  exact wbs_val hm a b
theorem pxs_smp : pxs h (l.flatMap Pq.Px.smp) = l := by
  have hp := parts_flat (chan_pos h) (l.map Pq.Px.smp) fun t ht => by
    obtain ⟨p, hp, rfl⟩ := List.mem_map.1 ht
    exact (good_smp hm (hl p hp)).1
  unfold pxs
  rw [List.flatMap_def, hp]
  show (l.map Pq.Px.smp).map pk = l
  rw [List.map_map]
  conv => rhs; rw [← List.map_id l]
  exact List.map_congr_left fun p hp => (good_smp hm (hl p hp)).2.2
theorem bits_one (h4 : h.kd = 4) : ∀ p ∈ l, (s0 p = 0 ∨ s0 p = 1) ∧ pk [s0 p] = p := by
  intro p hp
  obtain ⟨a, b, c⟩ := good_smp hm (hl p hp)
  have h11 := hm.one h4
  rw [h11.2.2] at a
  obtain ⟨x, hx⟩ : ∃ x, Pq.Px.smp p = [x] := by
    match h' : Pq.Px.smp p with
    | [x] => exact ⟨x, rfl⟩
    | [] => rw [h'] at a; simp at a
    | x :: y :: t => rw [h'] at a; simp at a
  have hs : s0 p = x := by unfold s0; rw [hx]; rfl
  rw [hs]
  rw [hx] at c
  have := b x (by rw [hx]; simp)
  exact ⟨by omega, c⟩
theorem row_back {W : Nat} (hW : h.w = (W : Int)) (hL : l.length = W) : rowV h (rowB h l) = l ∧ (rowB h l).length = stride h := by
  have hmm := hm.m
  have hs := stride_at hm
  unfold rowV rowB
  by_cases h4 : h.kd = 4
  · rw [if_pos h4, if_pos h4]
    have h5 := hs.2.2.1 h4
    have ho : Bt.Ones (l.map s0) := by
      intro x hx
      obtain ⟨p, hp, rfl⟩ := List.mem_map.1 hx
      exact (bits_one hm hl h4 p hp).1
    have hb := Bt.bits_pack (stride h) (l.map s0) (by rw [List.length_map]; omega) (by rw [List.length_map]; omega) ho
    refine ⟨?_, Bt.packB_len (stride h) (l.map s0) (by rw [List.length_map]; omega) (by rw [List.length_map]; omega)⟩
    rw [hb, List.take_append_of_le_length (by rw [List.length_map]; omega), List.take_of_length_le (by rw [List.length_map]; omega), List.map_map]
    conv => rhs; rw [← List.map_id l]
    exact List.map_congr_left fun p hp => (bits_one hm hl h4 p hp).2
  · rw [if_neg h4, if_neg h4]
    refine ⟨by rw [(smp_bts hm hl).1, pxs_smp hm hl], ?_⟩
    have hb : ∀ p ∈ l, (bts h p).length = chan h * wide h := fun p hp => by
      unfold bts
      rw [flat_len _ fun s _ => wbs_len h s, (good_smp hm (hl p hp)).1]
    rw [flat_len l hb, hL]
    unfold stride
    rw [if_neg h4]
    congr 1; omega
end
theorem fits_sub {h : Hd.H} {l : List Int} (hl : Pl.Fits h l) (a n : Nat) : Pl.Fits h ((l.drop a).take n) := fun p hp => hl p (List.mem_of_mem_drop (List.mem_of_mem_take hp))
theorem part_len {l : List Int} {W H : Nat} (hL : l.length = W * H) {y : Nat} (hy : y < H) : ((l.drop (y * W)).take W).length = W := by
  have h1 : (y + 1) * W ≤ H * W := Nat.mul_le_mul_right W hy
  rw [Nat.add_mul, Nat.one_mul, Nat.mul_comm H W] at h1
  rw [List.length_take, List.length_drop, hL]; omega
section
variable {h : Hd.H} (hm : May h) {l : List Int} (hl : Pl.Fits h l) {W H : Nat} (hW : h.w = (W : Int)) (hL : l.length = W * H)
include hm hl hW hL
theorem wRows_len : ∀ y, y ≤ H → (wRows h l W y).length = y * stride h
  | 0, _ => by simp [wRows]
  | y + 1, hy => by
    show (wRows h l W y ++ _).length = _
    rw [List.length_append, wRows_len y (by omega), (row_back hm (fits_sub hl (y * W) W) hW (part_len hL (by omega))).2, Nat.add_mul, Nat.one_mul]
end
end Rw
end Go.Proofs.YtmnhiagppicegaaGreat

/- All pixels of a raster of bytes, by the document, over any memory. Condition: not too many bytes, the head's numbers fit. -/
namespace Go.Proofs.YtmnhiagppicegaaGreat
open Go.RowKit
set_option linter.unusedVariables false
end Go.Proofs.YtmnhiagppicegaaGreat

/- An image that bytes begin with, by the code, over any memory. Condition: not too many bytes. -/
namespace Go.Proofs.YtmnhiagppicegaaGreat
open Go.RowKit
set_option linter.unusedVariables false
/-- the part of a slice of bytes from s on -/
def Im.cutA (a : Option Addr) (cap s : Nat) : Option Addr := if cap = s then a else a.map (·.add s)
theorem Im.run_cut (a : Option Addr) (len cap s : Nat) (hs : s ≤ len) (W : World) :
    (Instr.slice 43 (.slice a len cap) (some (.int .i64 s)) none none).run Tryz.prog W = .ok (.slice (Im.cutA a cap s) (len - s) (cap - s)) W := by
  rw [run_slice_l W 43 a len cap (by kernel_rfl) .i64 s (by omega) (by omega)]
  have hz : (sizeOf (Tryz.prog.elem 43)).run Tryz.prog W = .ok 1 W := by kernel_rfl
  rw [hz]
  simp [Result.andThen, sliced, Im.cutA]
theorem Im.cut_bs {w : World} {a : Option Addr} {len cap s : Nat} {zs : List Int} (h : Bt.Bs w a len cap zs) (hs : s ≤ len) : Bt.Bs w (Im.cutA a cap s) (len - s) (cap - s) (zs.drop s) := by
  obtain ⟨⟨h1, h2⟩, h3, h4, h5⟩ := h
  refine ⟨⟨by rw [List.length_drop, h1], ?_⟩, by omega, by omega, fun z hz => h5 z (List.mem_of_mem_drop hz)⟩
  by_cases h0 : len - s = 0
  · exact .inl h0
  right
  rcases h2 with h2 | ⟨g, o, rfl, hc⟩
  · omega
  · refine ⟨g, o + s, by simp [Im.cutA, Addr.add, show ¬ cap = s by omega], fun i hi => ?_⟩
    rw [Nat.add_assoc, hc (s + i) (by omega), List.getD_eq_getElem?_getD, List.getD_eq_getElem?_getD, List.getElem?_drop]
/-- the pixels that a raster begins with -/
def Im.readV (h : Hd.H) (bs : List Int) : List Int × Int × Int := if 3 < h.kd then ((Rw.readV h bs).1, Hj.size h, (Rw.readV h bs).2) else Pl.readV h bs
/-- an image parsed: format, sides, pixels, how many bytes, the error -/
structure Im.P where
  c : Int
  m : Int
  w : Int
  h : Int
  l : List Int
  u : Int
  e : Int
def Im.bad (e : Int) : Im.P := ⟨0, 0, 0, 0, [], 0, e⟩
def Im.parseV (lim : Hd.L) (bs : List Int) : Im.P :=
  if (Hd.parseV lim bs).2.2 = 0 then
    (if (Im.readV (Hd.parseV lim bs).1 (bs.drop (Hd.parseV lim bs).2.1.toNat)).2.2 = 0 then
      ⟨Hj.chan (Hd.parseV lim bs).1, (Hd.parseV lim bs).1.m, (Hd.parseV lim bs).1.w, (Hd.parseV lim bs).1.h, (Im.readV (Hd.parseV lim bs).1 (bs.drop (Hd.parseV lim bs).2.1.toNat)).1, (Hd.parseV lim bs).2.1 + (Im.readV (Hd.parseV lim bs).1 (bs.drop (Hd.parseV lim bs).2.1.toNat)).2.1, 0⟩
    else Im.bad (Im.readV (Hd.parseV lim bs).1 (bs.drop (Hd.parseV lim bs).2.1.toNat)).2.2)
  else Im.bad (Hd.parseV lim bs).2.2
theorem Im.parse_head {lim : Hd.L} {bs : List Int} {h : Hd.H} {u e : Int} (hp : Hd.parseV lim bs = (h, u, e)) (he : e ≠ 0) : Im.parseV lim bs = Im.bad e := by
  unfold Im.parseV; rw [hp]; simp only; rw [if_neg he]
theorem Im.parse_read {lim : Hd.L} {bs : List Int} {h : Hd.H} {u : Int} (hp : Hd.parseV lim bs = (h, u, 0)) {l : List Int} {k e : Int} (hr : Im.readV h (bs.drop u.toNat) = (l, k, e)) (he : e ≠ 0) : Im.parseV lim bs = Im.bad e := by
  unfold Im.parseV; rw [hp]; simp only [if_true]; rw [hr]; simp only; rw [if_neg he]
theorem Im.parse_all {lim : Hd.L} {bs : List Int} {h : Hd.H} {u : Int} (hp : Hd.parseV lim bs = (h, u, 0)) {l : List Int} {k : Int} (hr : Im.readV h (bs.drop u.toNat) = (l, k, 0)) : Im.parseV lim bs = ⟨Hj.chan h, h.m, h.w, h.h, l, u + k, 0⟩ := by
  unfold Im.parseV; rw [hp]; simp only [if_true]; rw [hr]; simp only [if_true]
end Go.Proofs.YtmnhiagppicegaaGreat

/- The pixels of an image of digits, with the room they have, over any memory. Condition: the head may be. -/
namespace Go.Proofs.YtmnhiagppicegaaGreat
open Go.RowKit
set_option linter.unusedVariables false
def ImParC (t : Im.P) (w : World) (e : Ending) (w' : World) : Prop :=
  ∃ a cap, e = .returned (.tuple #[agI t.c t.m t.w t.h (.slice a t.l.length cap), .int .i64 t.u, .int .i64 t.e]) ∧ SlK .u64 w' a t.l.length t.l ∧ Below w.heap.size w w' ∧ Cp t.l.length cap
set_option maxHeartbeats 1000000 in
theorem imReadC_any (a : Option Addr) (nb cb : Nat) (bs : List Int) (hnb : nb ≤ 100000) (h : Hd.H) (hm : Hd.May h) (hk3 : ¬ 3 < h.kd) (w : World) (hs : Bt.Bs w a nb cb bs) :
    Calls Tryz.prog 58 #[.slice a nb cb, agH h] w (RdRc (Im.readV h bs) w) := by
  have hf := Hj.may_fit hm
  have HR := Lib.hid (hraw_any h hm)
  have HSZ := Lib.hid (hsize_any h hm)
  have hsz : (strOfNums bs).size ≤ 100000 := by rw [strOfNums_size, hs.1.1]; exact hnb
  have HP := Lib.hid (plReadC_any (strOfNums bs) hsz h hf)
  rw [bytesOf_strOfNums hs.2.2.2] at HP
  have HW : Hid (∀ W, Below w.heap.size w W → Calls Tryz.prog 104 #[.slice a nb cb, agH h] W (RwdR (Rw.readV h bs) W)) := Lib.hid fun W hb => rwRead_any a nb cb bs hnb h hf W (hs.below hb)
  have HS := Lib.hid hs
  unfold Im.readV
  obtain ⟨kd, ww, hh, mx⟩ := h
  have X := Hb.new w 49 ⟨kd, ww, hh, mx⟩
  have hbx := box1 w (.cells #[.int .i64 kd, .int .i64 ww, .int .i64 hh, .int .i64 mx] 49)
  obtain ⟨W, hW⟩ : ∃ W, w.alloc (.cells #[.int .i64 kd, .int .i64 ww, .int .i64 hh, .int .i64 mx] 49) = W := ⟨_, rfl⟩
  simp only at X
  rw [hW] at X hbx
  clear hs hsz hf hm
  unfold agH at HR HSZ HP HW ⊢
  simp only at HR HSZ HP HW ⊢
  have hk : ¬ 3 < kd := hk3
  have HR' : Hid (∀ w, Calls Tryz.prog 80 #[.agg #[.int .i64 kd, .int .i64 ww, .int .i64 hh, .int .i64 mx]] w fun e w' => e = .returned (.bool false) ∧ Below w.heap.size w w') := Lib.hid fun w => by have := HR.out w; rw [decide_eq_false hk] at this; exact this
  obtain ⟨t, ht⟩ : ∃ t, Pl.readV ⟨kd, ww, hh, mx⟩ bs = t := ⟨_, rfl⟩
  rw [if_neg hk]
  rw [ht] at HP ⊢
  clear HR HW hk ht
  obtain ⟨l0, l1, l2, l3⟩ := X.cells
  simp only at l0 l1 l2 l3
  go_enter Tryz.func58, Tryz.ntmps58
  go_upto_region 1 with fail
  try rw [hW]
  go_wp2_with fail
  refine (HR'.out _).mono ?_
  rintro e w2 ⟨rfl, hb2⟩
  replace X := X.later hb2
  replace hbx := hbx.trans (hb2.mono hbx.size)
  obtain ⟨l0, l1, l2, l3⟩ := X.cells
  simp only at l0 l1 l2 l3
  have C := Cv.conv_slk (cap := cb) (HS.out.1.below hbx)
  go_wp2_with fail
  refine (HP.out _).mono ?_
  unfold RdRc
  rintro e w3 ⟨ra, rc, rfl, hrs, hb3, hcp⟩
  replace hbx := hbx.trans (hb3.mono hbx.size)
  have HRS := Lib.hid hrs
  go_wp2
  go_returns
  exact ⟨ra, rc, rfl, HRS.out, hbx, hcp⟩
end Go.Proofs.YtmnhiagppicegaaGreat
