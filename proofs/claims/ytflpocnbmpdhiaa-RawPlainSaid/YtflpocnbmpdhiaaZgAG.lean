/- A row from its end on, over any memory, of bits. Condition: numbers fit their kinds. -/
import Derived.Test.YtflpocnbmpdhiaaZBtL
import Derived.Test.YtflpocnbmpdhiaaZgAF
import Derived.Test.YtflpocnbmpdhiaaZgAE
namespace Go.Proofs.Ytflpocnbmpdhiaa
open Go.RowKit Go.Shelf
set_option linter.unusedVariables false
namespace Bt
theorem owns_caps {A : World} {base n cap : Nat} {e : TypeId} {ad : Option Addr} {xs : List Value} (h : A.ownsRow base e 1 (.slice ad n cap) n xs) : n ≤ cap ∧ cap ≤ 9223372036854775807 := by
  rcases h.2 with ⟨h2, h3⟩ | ⟨g', cap', cur, h2, hg, hc, h4, h5, hs, _⟩
  · cases h2; omega
  · cases h2; unfold maxLen at h5; omega
theorem unpackV_len {zs : List Int} {W : Int} (h : rowE zs.length W = 0) : ∃ P : Nat, W = P ∧ (unpackV zs W).length = P ∧ 1 ≤ P ∧ P ≤ 4096 := by
  obtain ⟨N, P, rfl, hN, h1, h2, h3, h4, h5⟩ := bytesV_pos h
  refine ⟨P, rfl, ?_, ?_, ?_⟩
  · unfold unpackV; rw [if_pos h, List.length_take, bitsOf_len]; omega
  · omega
  · unfold bytesV at hN
    by_cases hq : (P : Int) < 1 ∨ 4096 < (P : Int)
    · rw [if_pos hq] at hN; omega
    · omega
theorem unpackV_01 (zs : List Int) (W : Int) : Ones (unpackV zs W) := by
  unfold unpackV
  split
  · exact fun x hx => bitsOf_01 zs x (List.mem_of_mem_take hx)
  · intro x hx; simp at hx
theorem ones_rev {l : List Int} (h : Ones l) : Ones l.reverse := fun x hx => h x (List.mem_reverse.1 hx)
end Bt
end Go.Proofs.Ytflpocnbmpdhiaa

/- Rows of bits: what is packed is unpacked as it was, what runs is unrun as it was. Plain facts; no condition. -/
namespace Go.Proofs.Ytflpocnbmpdhiaa
open Go.RowKit
set_option linter.unusedVariables false
namespace Bt
theorem eight_num (a b c d e f g h : Int) (ha : a = 0 ∨ a = 1) (hb : b = 0 ∨ b = 1) (hc : c = 0 ∨ c = 1) (hd : d = 0 ∨ d = 1) (he : e = 0 ∨ e = 1) (hf : f = 0 ∨ f = 1) (hg : g = 0 ∨ g = 1) (hh : h = 0 ∨ h = 1) :
    eight (num [a, b, c, d, e, f, g, h] 0) = [a, b, c, d, e, f, g, h] := by
  have B : ∀ x : Int, x = 0 ∨ x = 1 → 0 ≤ x ∧ x ≤ 1 := fun x h => by omega
  obtain ⟨a0, a1⟩ := B a ha
  obtain ⟨b0, b1⟩ := B b hb
  obtain ⟨c0, c1⟩ := B c hc
  obtain ⟨d0, d1⟩ := B d hd
  obtain ⟨e0, e1⟩ := B e he
  obtain ⟨f0, f1⟩ := B f hf
  obtain ⟨g0, g1⟩ := B g hg
  obtain ⟨h0, h1⟩ := B h hh
  clear B ha hb hc hd he hf hg hh
  simp only [num, eight, List.cons.injEq, and_true]
  refine ⟨?_, ?_, ?_, ?_, ?_, ?_, ?_, ?_⟩ <;> omega
theorem eight_num8 (l : List Int) (hl : l.length = 8) (ho : Ones l) : eight (num l 0) = l := by
  obtain ⟨a, b, c, d, e, f, g, h, rfl⟩ := list8 l hl
  exact eight_num a b c d e f g h (ho a (by simp)) (ho b (by simp)) (ho c (by simp)) (ho d (by simp)) (ho e (by simp)) (ho f (by simp)) (ho g (by simp)) (ho h (by simp))
theorem bits_pack : ∀ (m : Nat) (l : List Int), l.length ≤ 8 * m → 8 * m < l.length + 8 → Ones l → bitsOf (packB l) = l ++ List.replicate (8 * m - l.length) 0
  | 0, l, h, _, _ => by
    have : l = [] := List.eq_nil_of_length_eq_zero (by omega)
    subst this; simp [packB_nil, bitsOf]
  | m + 1, l, h, k, ho => by
    have hne : l ≠ [] := by intro e; subst e; simp at k; omega
    have hpo := pad_01 (pt := l.take 8) (fun x hx => ho x (List.mem_of_mem_take hx))
    rw [packB_more hne, bitsOf, eight_num8 _ (pad_len _ (List.length_take_le _ _)) hpo]
    by_cases h8 : 8 ≤ l.length
    · rw [bits_pack m (l.drop 8) (by simp; omega) (by simp; omega) (fun x hx => ho x (List.mem_of_mem_drop hx))]
      have e : pad (l.take 8) = l.take 8 := by unfold pad; rw [List.length_take, Nat.min_eq_left h8]; simp
      rw [e, ← List.append_assoc, List.take_append_drop, List.length_drop]
      congr 2; omega
    · have hm : m = 0 := by omega
      subst hm
      have e : l.drop 8 = [] := List.drop_eq_nil_of_le (by omega)
      rw [e, packB_nil, bitsOf, List.append_nil, List.take_of_length_le (by omega)]
      rfl
theorem packB_byte (l : List Int) (ho : Ones l) : ∀ z ∈ packB l, 0 ≤ z ∧ z ≤ 255 := by
  intro z hz
  obtain ⟨k, hk, rfl⟩ := List.getElem_of_mem hz
  have hk8 : 8 * k < l.length := by
    rcases Nat.lt_or_ge (8 * k) l.length with h | h
    · exact h
    · have := packB_len ((l.length + 7) / 8) l (by omega) (by omega)
      omega
  have hg := packB_get k l hk8
  rw [List.getD_eq_getElem?_getD, List.getElem?_eq_getElem hk] at hg
  simp only [Option.getD_some] at hg
  rw [hg]
  have hpo := pad_01 (pt := (l.drop (8 * k)).take 8) (fun x hx => ho x (List.mem_of_mem_drop (List.mem_of_mem_take hx)))
  have hb := num_bound _ 0 hpo (by omega)
  rw [pad_len _ (List.length_take_le _ _)] at hb
  have : (0 + 1 : Int) * 2 ^ 8 = 256 := by decide
  omega
theorem packV_byte (l : List Int) : ∀ z ∈ packV l, 0 ≤ z ∧ z ≤ 255 := by
  unfold packV
  split
  · rename_i h
    unfold packOk at h
    simp only [Bool.and_eq_true, decide_eq_true_eq] at h
    exact packB_byte l h.2
  · intro z hz; simp at hz
/-- what was packed: its error, its pixels, its spare bits -/
theorem pack_back {l : List Int} (ho : Ones l) (h1 : 1 ≤ l.length) (h2 : l.length ≤ 4096) :
    packOk l = true ∧ packV l = packB l ∧ packE l = 0 ∧ rowE (packB l).length l.length = 0 ∧ unpackV (packB l) l.length = l ∧ spareV (packB l) l.length = 0 := by
  have hp : packOk l = true := by unfold packOk; simp [ho, h1, h2]
  obtain ⟨m, hm, hm1, hm2⟩ := bytesV_len h1 h2
  have hpl := packB_len m l hm1 hm2
  have hr : rowE (packB l).length l.length = 0 := by
    unfold rowE; rw [hm, hpl, if_neg (by omega), if_neg (by omega)]
  have hb := bits_pack m l hm1 hm2 ho
  refine ⟨hp, by unfold packV; rw [if_pos hp], by unfold packE; rw [if_pos hp], hr, ?_, ?_⟩
  · unfold unpackV
    rw [if_pos hr, hb]
    simp
  · unfold spareV
    rw [if_pos hr, hm]
    unfold spareN
    rw [hb]
    have e : (l ++ List.replicate (8 * m - l.length) (0 : Int)).take (8 * (m : Int).toNat) = l ++ List.replicate (8 * m - l.length) 0 := List.take_of_length_le (by simp; omega)
    rw [e, show (l.length : Int).toNat = l.length from rfl, List.drop_left]
    generalize 8 * m - l.length = q
    induction q with
    | zero => rfl
    | succ q ih => rw [List.replicate_succ']; rw [num_append, ih]; rfl
theorem pack_join {a b : List Int} (h : a.length % 8 = 0) : packB (a ++ b) = packB a ++ packB b := by
  obtain ⟨k, hk⟩ : ∃ k, a.length = 8 * k := ⟨a.length / 8, by omega⟩
  clear h
  induction k generalizing a with
  | zero => rw [List.eq_nil_of_length_eq_zero (by omega : a.length = 0)]; rw [packB_nil]; rfl
  | succ k ih =>
    have hne : a ≠ [] := by intro e; subst e; simp at hk
    rw [packB_more (by simp [hne]), packB_more hne, List.take_append_of_le_length (by omega), List.drop_append_of_le_length (by omega), ih (a := a.drop 8) (by rw [List.length_drop]; omega)]
    rfl
theorem rep_eq {v : Int} : ∀ {l : List Int}, (∀ x ∈ l, x = v) → l = List.replicate l.length v
  | [], _ => rfl
  | x :: l, h => by rw [List.length_cons, List.replicate_succ, h x (by simp), ← rep_eq (fun y hy => h y (by simp [hy]))]
/-- the number of a kind -/
def ofB (b : Bool) : Int := if b then 1 else 0
theorem ofB_one {x : Int} (h : x = 0 ∨ x = 1) : ofB (isOne x) = x := by
  rcases h with rfl | rfl <;> rfl
theorem ofB_odd (i : Nat) : ofB (oddN i) = (i : Int) % 2 := by
  unfold ofB oddN
  rcases Nat.mod_two_eq_zero_or_one i with h | h
  · rw [h]; simp; omega
  · rw [h]; simp; omega
theorem un_runs (l : List Int) (ho : Ones l) : ∀ (i : Nat) (c : Nat) (out : List Int), out.length + c + l.length ≤ 4096 → unAux i out (runsAux (oddN i) c l) = out ++ List.replicate c ((i : Int) % 2) ++ l := by
  induction l with
  | nil =>
    intro i c out h
    rw [runsAux, un_go (by simp at h ⊢; omega), unAux]
    simp
  | cons x l ih =>
    intro i c out h
    have hx := ho x (by simp)
    have hol : Ones l := fun y hy => ho y (by simp [hy])
    simp only [List.length_cons] at h
    by_cases hb : isOne x = oddN i
    · rw [runs_same hb, show (c : Int) + 1 = (c + 1 : Nat) by omega, ih hol i (c + 1) out (by omega)]
      rw [List.replicate_succ']
      have e : (i : Int) % 2 = x := by rw [← ofB_odd, ← hb, ofB_one hx]
      rw [e]; simp
    · rw [runs_other hb, un_go (by simp; omega), ← oddN_succ, show (1 : Int) = (1 : Nat) from rfl, ih hol (i + 1) 1 _ (by simp; omega)]
      have e : ((i + 1 : Nat) : Int) % 2 = x := by
        rw [← ofB_odd, oddN_succ, show (!oddN i) = isOne x by cases h1 : isOne x <;> cases h2 : oddN i <;> simp_all, ofB_one hx]
      rw [e]; simp
theorem unrun_runs {l : List Int} (ho : Ones l) (h : l.length ≤ 4096) : unV (runsV l) = l := by
  unfold runsV
  split
  · rename_i e; subst e; rfl
  · unfold unV
    have := un_runs l ho 0 0 [] (by simp; omega)
    simpa [show oddN 0 = false from rfl] using this
end Bt
end Go.Proofs.Ytflpocnbmpdhiaa

/- Plain facts on rasters of bytes that are written: their bytes, and what is read of them. No condition. -/
namespace Go.Proofs.Ytflpocnbmpdhiaa
open Go.RowKit
set_option linter.unusedVariables false
namespace Rw
/-- a sample's bytes; a pixel's; its first sample; a row's bytes; all rows' -/
def wbs (h : Hd.H) (s : Int) : List Int := if wide h = 2 then [s / 256, s % 256] else [s % 256]
def bts (h : Hd.H) (p : Int) : List Int := (Pq.Px.smp p).flatMap (wbs h)
def s0 (p : Int) : Int := (Pq.Px.smp p).getD 0 0
def rowB (h : Hd.H) (row : List Int) : List Int := if h.kd = 4 then Bt.packB (row.map s0) else row.flatMap (bts h)
def wRows (h : Hd.H) (l : List Int) (W : Nat) : Nat → List Int
  | 0 => []
  | y + 1 => wRows h l W y ++ rowB h ((l.drop (y * W)).take W)
theorem good_smp {h : Hd.H} (hm : May h) {p : Int} (hp : Pq.GoodP p (Hj.chan h) h.m) : (Pq.Px.smp p).length = chan h ∧ (∀ s ∈ Pq.Px.smp p, 0 ≤ s ∧ s ≤ h.m) ∧ pk (Pq.Px.smp p) = p := by
  have hc := chan_eq hm
  have hcc := chan_at h
  rcases hp with ⟨h3, x, y, z, hi, hx, hy, hz⟩ | ⟨h1, x, hi, hx⟩
  · obtain ⟨e0, a1, a2, a3, a4, a5, a6⟩ := id hi
    rw [Pq.Px.smp3 hi]
    refine ⟨by simp; omega, ?_, ?_⟩
    · intro s hs
      simp only [List.mem_cons, List.not_mem_nil, or_false] at hs
      rcases hs with rfl | rfl | rfl <;> exact ⟨by assumption, by assumption⟩
    · show (Pq.Px.packV [x, y, z]).1 = p
      rw [Pq.Px.packV3 a1 a2 a3 a4 a5 a6, e0]
  · obtain ⟨e0, a1, a2⟩ := id hi
    rw [Pq.Px.smp1 hi]
    refine ⟨by simp; omega, ?_, ?_⟩
    · intro s hs
      simp only [List.mem_cons, List.not_mem_nil, or_false] at hs
      subst hs; exact ⟨a1, hx⟩
    · show (Pq.Px.packV [x]).1 = p
      rw [Pq.Px.packV1 a1 a2, e0]
theorem wbs_len (h : Hd.H) (s : Int) : (wbs h s).length = wide h := by
  unfold wbs
  rcases wide_at h with ⟨_, e⟩ | ⟨_, e⟩ <;> rw [e] <;> rfl
theorem wbs_val {h : Hd.H} (hm : May h) {s : Int} (s0 : 0 ≤ s) (s1 : s ≤ h.m) : val (wbs h s) = s := by
  have hmm := hm.m
  unfold wbs
  rcases wide_at h with ⟨h1, e⟩ | ⟨h1, e⟩ <;> rw [e]
  · show val [s / 256, s % 256] = s; rw [val_two]; omega
  · show val [s % 256] = s; rw [val_one]; omega
theorem flat_len {f : Int → List Int} {k : Nat} : ∀ l : List Int, (∀ x ∈ l, (f x).length = k) → (l.flatMap f).length = l.length * k
  | [], _ => by simp
  | x :: l, hx => by
    rw [List.flatMap_cons, List.length_append, hx x (List.mem_cons_self ..), flat_len l fun y hy => hx y (List.mem_cons_of_mem _ hy), List.length_cons, Nat.add_mul, Nat.one_mul, Nat.add_comm]
theorem parts_flat {k : Nat} (hk : 1 ≤ k) : ∀ ts : List (List Int), (∀ t ∈ ts, t.length = k) → parts k ts.flatten = (ts, [])
  | [], _ => rfl
  | t :: ts, ht => by
    have h1 : parts k t = ([t], []) := by have := parts_whole (k := k) (l := []) rfl hk (ht t (List.mem_cons_self ..)); simpa [parts_nil] using this
    rw [List.flatten_cons, parts_app (by rw [h1]), h1, parts_flat hk ts fun u hu => ht u (List.mem_cons_of_mem _ hu)]
    rfl
section
variable {h : Hd.H} (hm : May h) {l : List Int} (hl : Pl.Fits h l)
include hm hl
theorem all_smp : ∀ s ∈ l.flatMap Pq.Px.smp, 0 ≤ s ∧ s ≤ h.m := by
  intro s hs
  obtain ⟨p, hp, hs⟩ := List.mem_flatMap.1 hs
  exact (good_smp hm (hl p hp)).2.1 s hs
theorem smp_bts : smp h (l.flatMap (bts h)) = l.flatMap Pq.Px.smp ∧ rest h (l.flatMap (bts h)) = [] := by
  have e : l.flatMap (bts h) = ((l.flatMap Pq.Px.smp).map (wbs h)).flatten := by
    rw [← List.flatMap_def, List.flatMap_assoc]; rfl
  have hp := parts_flat (wide_pos h) ((l.flatMap Pq.Px.smp).map (wbs h)) fun t ht => by
    obtain ⟨s, _, rfl⟩ := List.mem_map.1 ht
    exact wbs_len h s
  unfold smp rest
  rw [e, hp]
  refine ⟨?_, rfl⟩
  show ((l.flatMap Pq.Px.smp).map (wbs h)).map val = _
  rw [List.map_map]
  conv => rhs; rw [← List.map_id (l.flatMap Pq.Px.smp)]
  refine List.map_congr_left fun s hs => ?_
  obtain ⟨a, b⟩ := all_smp hm hl s hs
  exact wbs_val hm a b
theorem pxs_smp : pxs h (l.flatMap Pq.Px.smp) = l := by
  have hp := parts_flat (chan_pos h) (l.map Pq.Px.smp) fun t ht => by
    obtain ⟨p, hp, rfl⟩ := List.mem_map.1 ht
    exact (good_smp hm (hl p hp)).1
  unfold pxs
  rw [List.flatMap_def, hp]
  show (l.map Pq.Px.smp).map pk = l
  rw [List.map_map]
  conv => rhs; rw [← List.map_id l]
  exact List.map_congr_left fun p hp => (good_smp hm (hl p hp)).2.2
theorem bits_one (h4 : h.kd = 4) : ∀ p ∈ l, (s0 p = 0 ∨ s0 p = 1) ∧ pk [s0 p] = p := by
  intro p hp
  obtain ⟨a, b, c⟩ := good_smp hm (hl p hp)
  have h11 := hm.one h4
  rw [h11.2.2] at a
  obtain ⟨x, hx⟩ : ∃ x, Pq.Px.smp p = [x] := by
    match h' : Pq.Px.smp p with
    | [x] => exact ⟨x, rfl⟩
    | [] => rw [h'] at a; simp at a
    | x :: y :: t => rw [h'] at a; simp at a
  have hs : s0 p = x := by unfold s0; rw [hx]; rfl
  rw [hs]
  rw [hx] at c
  have := b x (by rw [hx]; simp)
  exact ⟨by omega, c⟩
theorem row_back {W : Nat} (hW : h.w = (W : Int)) (hL : l.length = W) : rowV h (rowB h l) = l ∧ (rowB h l).length = stride h := by
  have hmm := hm.m
  have hs := stride_at hm
  unfold rowV rowB
  by_cases h4 : h.kd = 4
  · rw [if_pos h4, if_pos h4]
    have h5 := hs.2.2.1 h4
    have ho : Bt.Ones (l.map s0) := by
      intro x hx
      obtain ⟨p, hp, rfl⟩ := List.mem_map.1 hx
      exact (bits_one hm hl h4 p hp).1
    have hb := Bt.bits_pack (stride h) (l.map s0) (by rw [List.length_map]; omega) (by rw [List.length_map]; omega) ho
    refine ⟨?_, Bt.packB_len (stride h) (l.map s0) (by rw [List.length_map]; omega) (by rw [List.length_map]; omega)⟩
    rw [hb, List.take_append_of_le_length (by rw [List.length_map]; omega), List.take_of_length_le (by rw [List.length_map]; omega), List.map_map]
    conv => rhs; rw [← List.map_id l]
    exact List.map_congr_left fun p hp => (bits_one hm hl h4 p hp).2
  · rw [if_neg h4, if_neg h4]
    refine ⟨by rw [(smp_bts hm hl).1, pxs_smp hm hl], ?_⟩
    have hb : ∀ p ∈ l, (bts h p).length = chan h * wide h := fun p hp => by
      unfold bts
      rw [flat_len _ fun s _ => wbs_len h s, (good_smp hm (hl p hp)).1]
    rw [flat_len l hb, hL]
    unfold stride
    rw [if_neg h4]
    congr 1; omega
end
theorem fits_sub {h : Hd.H} {l : List Int} (hl : Pl.Fits h l) (a n : Nat) : Pl.Fits h ((l.drop a).take n) := fun p hp => hl p (List.mem_of_mem_drop (List.mem_of_mem_take hp))
theorem part_len {l : List Int} {W H : Nat} (hL : l.length = W * H) {y : Nat} (hy : y < H) : ((l.drop (y * W)).take W).length = W := by
  have h1 : (y + 1) * W ≤ H * W := Nat.mul_le_mul_right W hy
  rw [Nat.add_mul, Nat.one_mul, Nat.mul_comm H W] at h1
  rw [List.length_take, List.length_drop, hL]; omega
theorem wRows_flat {h : Hd.H} (l : List Int) (W : Nat) (h4 : h.kd ≠ 4) : ∀ y, wRows h l W y = (l.take (y * W)).flatMap (bts h)
  | 0 => by simp [wRows]
  | y + 1 => by
    show wRows h l W y ++ rowB h _ = _
    unfold rowB
    rw [wRows_flat l W h4 y, if_neg h4, Nat.add_mul, Nat.one_mul, List.take_add, List.flatMap_append]
theorem badL_none (w m : Int) : ∀ (l : List Int) (i : Int), (∀ x ∈ l, x ≤ m) → badL w m l i = 0
  | [], i, _ => rfl
  | x :: l, i, hx => by
    rw [badL_cons, if_neg (by have := hx x (List.mem_cons_self ..); omega)]
    exact badL_none w m l (i + 1) fun y hy => hx y (List.mem_cons_of_mem _ hy)
theorem row_in {h : Hd.H} (hm : May h) {l : List Int} (hl : Pl.Fits h l) : ∀ z ∈ rowB h l, 0 ≤ z ∧ z ≤ 255 := by
  have hmm := hm.m
  unfold rowB
  by_cases h4 : h.kd = 4
  · rw [if_pos h4]
    exact Bt.packB_byte _ fun x hx => by
      obtain ⟨p, hp, rfl⟩ := List.mem_map.1 hx
      exact (bits_one hm hl h4 p hp).1
  · rw [if_neg h4]
    intro z hz
    obtain ⟨p, hp, hz⟩ := List.mem_flatMap.1 hz
    obtain ⟨s, hs, hz⟩ := List.mem_flatMap.1 hz
    have hsm := (good_smp hm (hl p hp)).2.1 s hs
    unfold wbs at hz
    split at hz
    · simp only [List.mem_cons, List.not_mem_nil, or_false] at hz
      rcases hz with rfl | rfl <;> omega
    · simp only [List.mem_cons, List.not_mem_nil, or_false] at hz
      subst hz; omega
theorem wRows_in {h : Hd.H} (hm : May h) {l : List Int} (hl : Pl.Fits h l) {W : Nat} : ∀ y, ∀ z ∈ wRows h l W y, 0 ≤ z ∧ z ≤ 255
  | 0, z, hz => by cases hz
  | y + 1, z, hz => by
    rcases List.mem_append.1 hz with hz | hz
    · exact wRows_in hm hl y z hz
    · exact row_in hm (fits_sub hl (y * W) W) z hz
theorem bad_none {h : Hd.H} (hm : May h) {l : List Int} (hl : Pl.Fits h l) {W H : Nat} (hL : l.length = W * H) (i : Nat) (hi : i ≤ (wRows h l W H).length) : badN h (wRows h l W H) i = 0 := by
  refine badN_early h _ hi (Nat.le_refl _) ?_
  unfold badN
  by_cases h4 : h.kd = 4
  · rw [if_pos h4]
  · rw [if_neg h4, List.take_length, wRows_flat l W h4 H, List.take_of_length_le (by rw [hL, Nat.mul_comm]; exact Nat.le_refl _), (smp_bts hm hl).1]
    exact badL_none _ _ _ _ fun x hx => (all_smp hm hl x hx).2
section
variable {h : Hd.H} (hm : May h) {l : List Int} (hl : Pl.Fits h l) {W H : Nat} (hW : h.w = (W : Int)) (hL : l.length = W * H)
include hm hl hW hL
theorem wRows_len : ∀ y, y ≤ H → (wRows h l W y).length = y * stride h
  | 0, _ => by simp [wRows]
  | y + 1, hy => by
    show (wRows h l W y ++ _).length = _
    rw [List.length_append, wRows_len y (by omega), (row_back hm (fits_sub hl (y * W) W) hW (part_len hL (by omega))).2, Nat.add_mul, Nat.one_mul]
theorem wRows_take : ∀ z y, y ≤ z → z ≤ H → (wRows h l W z).take (y * stride h) = wRows h l W y
  | 0, y, hy, _ => by
    have : y = 0 := by omega
    subst this; simp [wRows]
  | z + 1, y, hy, hz => by
    by_cases he : y = z + 1
    · subst he
      rw [List.take_of_length_le (by rw [wRows_len hm hl hW hL _ hz]; exact Nat.le_refl _)]
    · show (wRows h l W z ++ _).take _ = _
      rw [List.take_append_of_le_length (by rw [wRows_len hm hl hW hL z (by omega)]; exact Nat.mul_le_mul_right _ (by omega))]
      exact wRows_take z y (by omega) (by omega)
theorem wRows_part {y : Nat} (hy : y < H) (more : List Int) : ((wRows h l W H ++ more).drop (y * stride h)).take (stride h) = rowB h ((l.drop (y * W)).take W) := by
  have h1 := wRows_take hm hl hW hL H (y + 1) (by omega) (Nat.le_refl _)
  have h2 := wRows_len hm hl hW hL y (by omega)
  have h3 := wRows_len hm hl hW hL H (Nat.le_refl _)
  have h4 : (y + 1) * stride h ≤ H * stride h := Nat.mul_le_mul_right _ hy
  have e : (wRows h l W H ++ more).take ((y + 1) * stride h) = wRows h l W y ++ rowB h ((l.drop (y * W)).take W) := by
    rw [List.take_append_of_le_length (by rw [h3]; exact h4), h1]; rfl
  have e2 : ((wRows h l W H ++ more).drop (y * stride h)).take (stride h) = ((wRows h l W H ++ more).take ((y + 1) * stride h)).drop (y * stride h) := by
    rw [List.drop_take]
    congr 1
    rw [Nat.add_mul, Nat.one_mul]; omega
  rw [e2, e, List.drop_append_of_le_length (by rw [h2]; exact Nat.le_refl _), List.drop_of_length_le (by rw [h2]; exact Nat.le_refl _), List.nil_append]
theorem rows_back (more : List Int) : ∀ y, y ≤ H → rowsV h (wRows h l W H ++ more) y = l.take (y * W)
  | 0, _ => by simp [rowsV]
  | y + 1, hy => by
    show rowsV h _ y ++ rowV h _ = _
    rw [rows_back more y (by omega), wRows_part hm hl hW hL (show y < H by omega) more, (row_back hm (fits_sub hl (y * W) W) hW (part_len hL (by omega))).1, Nat.add_mul, Nat.one_mul, List.take_add]
end
end Rw
end Go.Proofs.Ytflpocnbmpdhiaa
