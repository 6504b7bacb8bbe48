/- Plain facts on rasters of bytes: where a reader is behind so many bytes, what is read of them. No condition. -/
import Derived.Test.YtflpocnbmpdhiaaZRwW
namespace Go.Proofs.Ytflpocnbmpdhiaa
open Go.RowKit
set_option linter.unusedVariables false
namespace Rw
/-- the row that is told at byte i; how many rows were; the reader there -/
def curAt (h : Hd.H) (bs : List Int) (i : Nat) : List Int := (bs.take i).drop (i / stride h * stride h)
def st (h : Hd.H) (bs : List Int) (i : Nat) : S := ⟨h, curAt h bs i, ((i / stride h : Nat) : Int), Hj.size h - (i : Int), 0⟩
/-- rows of pixels -/
def rowsV (h : Hd.H) (bs : List Int) : Nat → List Int
  | 0 => []
  | y + 1 => rowsV h bs y ++ rowV h ((bs.drop (y * stride h)).take (stride h))
/-- the number of the byte with which the first i bytes are wrong -/
def badN (h : Hd.H) (bs : List Int) (i : Nat) : Int := if h.kd = 4 then 0 else badL (wide h) h.m (smp h (bs.take i)) 0
theorem badV_eq (h : Hd.H) (bs : List Int) : badV h bs = badN h bs (Hj.size h).toNat := rfl
theorem badL_snoc (w m : Int) (w0 : 1 ≤ w) (x : Int) : ∀ (l : List Int) (i : Int), 0 ≤ i → badL w m (l ++ [x]) i = if badL w m l i ≠ 0 then badL w m l i else if m < x then w * (i + l.length + 1) else 0
  | [], i, hi => by
    show badL w m [x] i = _
    rw [badL_cons]
    show (if m < x then w * (i + 1) else 0) = if (0 : Int) ≠ 0 then 0 else if m < x then w * (i + ((0 : Nat) : Int) + 1) else 0
    rw [if_neg (show ¬ (0 : Int) ≠ 0 by omega)]
    split
    · congr 1; omega
    · rfl
  | y :: l, i, hi => by
    rw [List.cons_append, badL_cons, badL_cons]
    by_cases hy : m < y
    · rw [if_pos hy, if_pos hy, if_pos]
      have : 1 * 1 ≤ w * (i + 1) := Int.mul_le_mul w0 (by omega) (by omega) (by omega)
      omega
    · rw [if_neg hy, if_neg hy, badL_snoc w m w0 x l (i + 1) (by omega)]
      have e : i + 1 + (l.length : Int) + 1 = i + ((y :: l).length : Int) + 1 := by rw [List.length_cons]; omega
      rw [e]
theorem badN_zero (h : Hd.H) (bs : List Int) : badN h bs 0 = 0 := by
  unfold badN
  split
  · rfl
  · rfl
theorem badN_succ (h : Hd.H) (bs : List Int) (i : Nat) (hi : i < bs.length) : badN h bs (i + 1) = if badN h bs i ≠ 0 then badN h bs i else if bad h (bs.take i) (bs.getD i 0) then ((i + 1 : Nat) : Int) else 0 := by
  unfold badN
  by_cases h4 : h.kd = 4
  · rw [if_pos h4, if_pos h4, if_neg (by omega), if_neg]
    intro hb; exact hb.1 h4
  rw [if_neg h4, if_neg h4, take_snoc1 bs i hi]
  have hw := wide_at h
  by_cases hf : (parts (wide h) (bs.take i)).2.length + 1 = wide h
  · rw [smp_more hf, badL_snoc _ _ (by omega) _ _ _ (Int.le_refl _)]
    have hl := smp_len h (bs.take i)
    rw [List.length_take, Nat.min_eq_left (by omega)] at hl
    have e : (wide h : Int) * (0 + ((smp h (bs.take i)).length : Int) + 1) = ((i + 1 : Nat) : Int) := by
      have e1 : (smp h (bs.take i)).length * wide h + wide h = i + 1 := by omega
      have e2 : ((smp h (bs.take i)).length + 1) * wide h = i + 1 := by rw [Nat.add_mul, Nat.one_mul]; exact e1
      rw [← e2, Int.natCast_mul, Int.mul_comm]
      congr 1; omega
    rw [e]
    have eb : bad h (bs.take i) (bs.getD i 0) ↔ h.m < val ((parts (wide h) (bs.take i)).2 ++ [bs.getD i 0]) := ⟨fun hb => hb.2.2, fun hv => ⟨h4, hf, hv⟩⟩
    by_cases hv : h.m < val ((parts (wide h) (bs.take i)).2 ++ [bs.getD i 0])
    · rw [if_pos hv, if_pos (eb.2 hv)]
    · rw [if_neg hv, if_neg fun hb => hv (eb.1 hb)]
  · rw [smp_wait hf, if_neg (c := bad _ _ _) fun hb => hf hb.2.1]
    split
    · rfl
    · rename_i h0; exact Classical.not_not.1 h0
/-- once wrong, always wrong -/
theorem badN_stays (h : Hd.H) (bs : List Int) {i : Nat} (hb : badN h bs i ≠ 0) : ∀ j, i ≤ j → j ≤ bs.length → badN h bs j = badN h bs i := by
  intro j hij
  induction j with
  | zero => intro _; have : i = 0 := by omega
            subst this; rfl
  | succ j ih =>
    intro hj
    by_cases he : i = j + 1
    · subst he; rfl
    · have h1 := ih (by omega) (by omega)
      rw [badN_succ h bs j (by omega), h1, if_pos hb]
theorem badN_early (h : Hd.H) (bs : List Int) {i j : Nat} (hij : i ≤ j) (hj : j ≤ bs.length) (hb : badN h bs j = 0) : badN h bs i = 0 := by
  by_cases h0 : badN h bs i = 0
  · exact h0
  · exact absurd (badN_stays h bs h0 j hij hj) (by rw [hb]; exact fun e => h0 e.symm)
theorem badN_over (h : Hd.H) (bs : List Int) {i : Nat} (hi : bs.length ≤ i) : badN h bs i = badN h bs bs.length := by unfold badN; rw [List.take_of_length_le hi, List.take_length]
theorem badN_nonneg (h : Hd.H) (bs : List Int) (i : Nat) : 0 ≤ badN h bs i := by
  unfold badN
  split
  · omega
  · exact badL_le _ _ (by omega) _ _ (Int.le_refl _)
theorem badN_le (h : Hd.H) (bs : List Int) : ∀ i, i ≤ bs.length → badN h bs i ≤ (i : Int) := by
  intro i
  induction i with
  | zero => intro _; rw [badN_zero]; omega
  | succ i ih =>
    intro hi
    rw [badN_succ h bs i (by omega)]
    have := ih (by omega)
    split
    · omega
    · split <;> omega
theorem parts_app {k : Nat} {a : List Int} (ha : (parts k a).2 = []) : ∀ b : List Int, parts k (a ++ b) = ((parts k a).1 ++ (parts k b).1, (parts k b).2) := by
  refine snoc_ind ?_ fun b x ih => ?_
  · rw [List.append_nil, parts_nil, List.append_nil]; exact Prod.ext rfl ha
  · rw [← List.append_assoc]
    by_cases hf : (parts k b).2.length + 1 = k
    · rw [parts_full (by rw [ih]; exact hf), parts_full hf, ih]; simp
    · rw [parts_wait (by rw [ih]; exact hf), parts_wait hf, ih]
theorem parts_mul {k : Nat} (hk : 1 ≤ k) {a : List Int} {q : Nat} (ha : a.length = q * k) : (parts k a).2 = [] := by
  obtain ⟨h1, h2, _⟩ := parts_at hk a
  rw [ha] at h2
  have h3 : (parts k a).2.length % k = 0 := by
    have : (parts k a).2.length = q * k - (parts k a).1.length * k := by omega
    rw [this, ← Nat.sub_mul, Nat.mul_mod_left]
  rw [Nat.mod_eq_of_lt h1] at h3
  exact List.eq_nil_of_length_eq_zero h3
theorem stride_wide (h : Hd.H) (hm : May h) : ∃ c, stride h = c * wide h := by
  by_cases h4 : h.kd = 4
  · exact ⟨stride h, by rw [(hm.one h4).2.1, Nat.mul_one]⟩
  · refine ⟨h.w.toNat * chan h, ?_⟩
    unfold stride; rw [if_neg h4, Nat.mul_assoc]
theorem cur_split (h : Hd.H) (bs : List Int) (i : Nat) : bs.take (i / stride h * stride h) ++ curAt h bs i = bs.take i := by
  unfold curAt
  have hle : i / stride h * stride h ≤ i := Nat.div_mul_le_self _ _
  have e : bs.take (i / stride h * stride h) = (bs.take i).take (i / stride h * stride h) := by rw [List.take_take, Nat.min_eq_left hle]
  rw [e, List.take_append_drop]
theorem rest_cur {h : Hd.H} (hm : May h) (bs : List Int) {i : Nat} (hi : i ≤ bs.length) : rest h (bs.take i) = rest h (curAt h bs i) := by
  obtain ⟨c, hc⟩ := stride_wide h hm
  have hle : i / stride h * stride h ≤ i := Nat.div_mul_le_self _ _
  have h0 : (parts (wide h) (bs.take (i / stride h * stride h))).2 = [] := parts_mul (wide_pos h) (q := i / stride h * c) (by rw [List.length_take, Nat.min_eq_left (by omega), Nat.mul_assoc, ← hc])
  unfold rest
  rw [← cur_split h bs i, parts_app h0]
theorem bad_cur {h : Hd.H} (hm : May h) (bs : List Int) {i : Nat} (hi : i ≤ bs.length) (c : Int) : bad h (bs.take i) c ↔ bad h (curAt h bs i) c := by
  have := rest_cur hm bs hi
  unfold rest at this
  unfold bad
  rw [this]
theorem cur_len {h : Hd.H} (hm : May h) (bs : List Int) {i : Nat} (hi : i ≤ bs.length) : (curAt h bs i).length = i % stride h := by
  have hs := (stride_at hm).1
  have := Nat.div_add_mod i (stride h)
  rw [Nat.mul_comm] at this
  unfold curAt; rw [List.length_drop, List.length_take, Nat.min_eq_left hi]; omega
theorem cur_more {h : Hd.H} (bs : List Int) {i : Nat} (hi : i < bs.length) : curAt h bs i ++ [bs.getD i 0] = (bs.take (i + 1)).drop (i / stride h * stride h) := by
  have hle : i / stride h * stride h ≤ i := Nat.div_mul_le_self _ _
  unfold curAt
  rw [take_snoc1 bs i hi, List.drop_append_of_le_length (by rw [List.length_take, Nat.min_eq_left (by omega)]; exact hle)]
end Rw
end Go.Proofs.Ytflpocnbmpdhiaa

/- Plain facts on rasters of bytes: a reader that is told them one by one, all that is read. No condition. -/
namespace Go.Proofs.Ytflpocnbmpdhiaa
open Go.RowKit
set_option linter.unusedVariables false
namespace Rw
theorem dm_lt {i W : Nat} (h : i % W + 1 < W) : (i + 1) / W = i / W ∧ (i + 1) % W = i % W + 1 := by
  have h0 := Nat.div_add_mod i W
  have hW : 0 < W := by omega
  have e : i + 1 = W * (i / W) + (i % W + 1) := by omega
  constructor
  · rw [e, Nat.mul_add_div hW, Nat.div_eq_of_lt h, Nat.add_zero]
  · rw [e, Nat.mul_add_mod, Nat.mod_eq_of_lt h]
theorem dm_eq {i W : Nat} (h : i % W + 1 = W) : (i + 1) / W = i / W + 1 ∧ (i + 1) % W = 0 := by
  have h0 := Nat.div_add_mod i W
  have hW : 0 < W := by omega
  have e : i + 1 = W * (i / W + 1) := by rw [Nat.mul_add, Nat.mul_one]; omega
  constructor
  · rw [e, Nat.mul_div_cancel_left _ hW]
  · rw [e, Nat.mul_mod_right]
theorem st_zero {h : Hd.H} (hm : May h) (bs : List Int) : st h bs 0 = new h := by
  unfold st new curAt
  simp
/-- told byte i, where nothing is wrong -/
theorem put_st {h : Hd.H} (hm : May h) (bs : List Int) {i : Nat} (hi : i < bs.length) (hsz : (i : Int) < Hj.size h) (hb : badN h bs (i + 1) = 0) :
    put (st h bs i) (bs.getD i 0) = (st h bs (i + 1), if (i + 1) % stride h = 0 then rowV h ((bs.drop (i / stride h * stride h)).take (stride h)) else []) := by
  have hs := (stride_at hm).1
  have hb0 := badN_early h bs (Nat.le_succ i) (by omega) hb
  have hnb : ¬ bad h (curAt h bs i) (bs.getD i 0) := fun hbd => by
    rw [badN_succ h bs i hi, hb0, if_neg (by omega), if_pos ((bad_cur hm bs (by omega) _).2 hbd)] at hb
    omega
  have hcl := cur_len hm bs (i := i) (by omega)
  have hml := Nat.mod_lt i hs
  unfold put
  rw [if_neg (show ¬ (st h bs i).left = 0 by show ¬ Hj.size h - (i : Int) = 0; omega), if_neg (show ¬ bad (st h bs i).h (st h bs i).cur (bs.getD i 0) from hnb)]
  have hcl' : (st h bs i).cur.length = i % stride h := hcl
  rw [hcl']
  show (if i % stride h + 1 = stride h then _ else _) = _
  by_cases he : i % stride h + 1 = stride h
  · obtain ⟨d1, d2⟩ := dm_eq he
    rw [if_pos he, if_pos d2]
    have e1 : i / stride h * stride h + stride h = i + 1 := by have := Nat.div_add_mod i (stride h); rw [Nat.mul_comm] at this; omega
    refine Prod.ext ?_ ?_
    · show (⟨h, [], ((i / stride h : Nat) : Int) + 1, Hj.size h - (i : Int) - 1, 0⟩ : S) = st h bs (i + 1)
      unfold st
      have e2 : curAt h bs (i + 1) = [] := List.eq_nil_of_length_eq_zero (by rw [cur_len hm bs hi, d2])
      rw [e2, d1]
      congr 1; omega
    · show rowV h (curAt h bs i ++ [bs.getD i 0]) = rowV h _
      rw [cur_more bs hi, ← e1, List.drop_take]
      congr 2; omega
  · obtain ⟨d1, d2⟩ := dm_lt (show i % stride h + 1 < stride h by omega)
    rw [if_neg he, if_neg (by omega)]
    refine Prod.ext ?_ rfl
    show (⟨h, curAt h bs i ++ [bs.getD i 0], ((i / stride h : Nat) : Int), Hj.size h - (i : Int) - 1, 0⟩ : S) = st h bs (i + 1)
    unfold st
    have e2 : curAt h bs (i + 1) = curAt h bs i ++ [bs.getD i 0] := by rw [cur_more bs hi]; unfold curAt; rw [d1]
    rw [e2, d1]
    congr 1; omega
/-- told the byte with which it is wrong -/
theorem put_wrong {h : Hd.H} (hm : May h) (bs : List Int) {i : Nat} (hi : i < bs.length) (hsz : (i : Int) < Hj.size h) (hb0 : badN h bs i = 0) (hb : badN h bs (i + 1) ≠ 0) :
    put (st h bs i) (bs.getD i 0) = (⟨h, curAt h bs i, ((i / stride h : Nat) : Int), 0, 5⟩, []) ∧ badN h bs (i + 1) = ((i + 1 : Nat) : Int) := by
  have hbd : bad h (bs.take i) (bs.getD i 0) := by
    rw [badN_succ h bs i hi, hb0, if_neg (by omega)] at hb
    by_cases hbd : bad h (bs.take i) (bs.getD i 0)
    · exact hbd
    · rw [if_neg hbd] at hb; exact absurd rfl hb
  refine ⟨?_, ?_⟩
  · unfold put
    rw [if_neg (show ¬ (st h bs i).left = 0 by show ¬ Hj.size h - (i : Int) = 0; omega), if_pos (show bad (st h bs i).h (st h bs i).cur (bs.getD i 0) from (bad_cur hm bs (by omega) _).1 hbd)]
    rfl
  · rw [badN_succ h bs i hi, hb0, if_neg (by omega), if_pos hbd]
theorem size_nat {h : Hd.H} (hm : May h) : ∃ H sz : Nat, h.h = (H : Int) ∧ Hj.size h = (sz : Int) ∧ sz = H * stride h ∧ 1 ≤ H := by
  have hmm := hm.m
  refine ⟨h.h.toNat, h.h.toNat * stride h, by omega, ?_, rfl, by omega⟩
  rw [size_eq hm, Int.natCast_mul]
  congr 1; omega
/-- what is read, by the document -/
def refV (h : Hd.H) (bs : List Int) : List Int × Int :=
  if 0 < badV h bs then ([], 5) else if (bs.length : Int) < Hj.size h then ([], 6) else (rowsV h bs h.h.toNat, 0)
theorem last_st {h : Hd.H} (bs : List Int) {i : Nat} (hsz : (i : Int) < Hj.size h) : last (st h bs i) = 0 := by
  show (if (0 : Int) ≠ 0 then (2 : Int) else if Hj.size h - (i : Int) = 0 then 1 else 0) = 0
  rw [if_neg (by omega), if_neg (by omega)]
theorem last_st1 {h : Hd.H} (bs : List Int) {i : Nat} (hsz : (i : Int) = Hj.size h) : last (st h bs i) = 1 := by
  show (if (0 : Int) ≠ 0 then (2 : Int) else if Hj.size h - (i : Int) = 0 then 1 else 0) = 1
  rw [if_neg (by omega), if_pos (by omega)]
theorem readF_st {h : Hd.H} (hm : May h) (bs : List Int) : ∀ (d i : Nat), bs.length - i = d → i ≤ bs.length → (i : Int) < Hj.size h → badN h bs i = 0 → readF (st h bs i) (rowsV h bs (i / stride h)) (bs.drop i) = refV h bs := by
  obtain ⟨H, sz, hH, hsz, hszm, H1⟩ := size_nat hm
  have hs := (stride_at hm).1
  intro d
  induction d with
  | zero =>
    intro i hd hi hlt hb
    have e : i = bs.length := by omega
    subst e
    rw [List.drop_length, readF_nil]
    unfold refV
    have hbv : badV h bs = 0 := by rw [badV_eq, hsz, badN_over h bs (by show bs.length ≤ sz; omega)]; exact hb
    rw [hbv, if_neg (by omega), if_pos hlt]
  | succ d ih =>
    intro i hd hi hlt hb
    have hil : i < bs.length := by omega
    have hdr : bs.drop i = bs.getD i 0 :: bs.drop (i + 1) := by rw [List.drop_eq_getElem_cons hil, List.getD_eq_getElem?_getD, List.getElem?_eq_getElem hil]; rfl
    rw [hdr]
    by_cases hb1 : badN h bs (i + 1) = 0
    · have hp := put_st hm bs hil hlt hb1
      have hrow : rowsV h bs (i / stride h) ++ (if (i + 1) % stride h = 0 then rowV h ((bs.drop (i / stride h * stride h)).take (stride h)) else []) = rowsV h bs ((i + 1) / stride h) := by
        have hml := Nat.mod_lt i hs
        by_cases he : i % stride h + 1 = stride h
        · obtain ⟨d1, d2⟩ := dm_eq he
          rw [if_pos d2, d1]; rfl
        · obtain ⟨d1, d2⟩ := dm_lt (show i % stride h + 1 < stride h by omega)
          rw [if_neg (by omega), d1, List.append_nil]
      by_cases hlt1 : ((i + 1 : Nat) : Int) < Hj.size h
      · rw [readF_more hp (last_st bs hlt1)]
        show readF (st h bs (i + 1)) (rowsV h bs (i / stride h) ++ _) _ = _
        rw [hrow]
        exact ih (i + 1) (by omega) (by omega) hlt1 hb1
      · have e1 : ((i + 1 : Nat) : Int) = Hj.size h := by omega
        rw [readF_over hp (last_st1 bs e1)]
        show (rowsV h bs (i / stride h) ++ _, (0 : Int)) = _
        rw [hrow]
        have e2 : i + 1 = sz := by omega
        have hbv : badV h bs = 0 := by rw [badV_eq, hsz]; show badN h bs sz = 0; rw [← e2]; exact hb1
        unfold refV
        rw [hbv, if_neg (by omega), if_neg (by omega), e2, hszm, Nat.mul_div_cancel _ hs]
        congr 2; omega
    · obtain ⟨hp, hv⟩ := put_wrong hm bs hil hlt hb hb1
      rw [readF_wrong hp rfl]
      have hbv : badV h bs = ((i + 1 : Nat) : Int) := by
        rw [badV_eq, hsz]
        show badN h bs sz = _
        by_cases hle : sz ≤ bs.length
        · rw [badN_stays h bs hb1 sz (by omega) hle, hv]
        · rw [badN_over h bs (by omega), badN_stays h bs hb1 bs.length (by omega) (Nat.le_refl _), hv]
      unfold refV
      rw [hbv, if_pos (by omega)]
theorem readV_ref {h : Hd.H} (hm : May h) (bs : List Int) : readV h bs = refV h bs := by
  obtain ⟨H, sz, hH, hsz, hszm, H1⟩ := size_nat hm
  have hs := (stride_at hm).1
  have h1 := size_pos hm
  unfold readV
  rw [if_pos hm, ← st_zero hm bs]
  have := readF_st hm bs bs.length 0 (by omega) (by omega) (by omega) (badN_zero h bs)
  rw [Nat.zero_div] at this
  exact this
end Rw
end Go.Proofs.Ytflpocnbmpdhiaa
