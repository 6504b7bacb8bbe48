/- A list of rows that came in; its first rows, made small. No condition. -/
import Derived.Test.YtehmbnloplamaaaTrQ
namespace Go.Proofs.Ytehmbnloplamaaa
open Go.RowKit
set_option linter.unusedVariables false
open Tr
/-- a slice of slices of numbers that came in -/
def IsRows (w : World) (a : Option Addr) (len cap : Nat) : Prop :=
  (a = none ∧ len = 0 ∧ cap = 0) ∨
  ∃ x, a = some x ∧ len ≤ cap ∧ cap ≤ maxLen ∧ ∀ r, r < cap → ∃ ai ni ci zi, w.cell? (x.add r) = some (.slice ai ni ci) ∧ IsRow .u64 w ai ni ci zi
theorem isrows_len {w : World} {a : Option Addr} {len cap : Nat} (h : IsRows w a len cap) : len ≤ 9223372036854775807 := by
  rcases h with ⟨_, rfl, _⟩ | ⟨x, _, h1, h2, _⟩
  · omega
  · unfold maxLen at h2; omega
/-- its rows, by name -/
def RowsAt (w : World) (a : Option Addr) (q : Nat) (A : Nat → Option Addr) (N C : Nat → Nat) (Z : Nat → List Int) : Prop :=
  ∀ r, r < q → (∃ b off, a = some ⟨b, off, none⟩ ∧ w.cell? ⟨b, off + r, none⟩ = some (.slice (A r) (N r) (C r))) ∧ IsRow .u64 w (A r) (N r) (C r) (Z r)
theorem isrows_at {w : World} {a : Option Addr} {len cap : Nat} (h : IsRows w a len cap) : ∃ A N C Z, RowsAt w a len A N C Z := by
  have H : ∀ r, ∃ y : Option Addr × Nat × Nat × List Int, r < len → (∃ b off, a = some ⟨b, off, none⟩ ∧ w.cell? ⟨b, off + r, none⟩ = some (.slice y.1 y.2.1 y.2.2.1)) ∧ IsRow .u64 w y.1 y.2.1 y.2.2.1 y.2.2.2 := by
    intro r
    by_cases hr : r < len
    · rcases h with ⟨_, rfl, _⟩ | ⟨⟨b, off, sp⟩, rfl, h1, h2, h3⟩
      · omega
      · obtain ⟨ai, ni, ci, zi, k1, k2⟩ := h3 r (by omega)
        obtain ⟨_, _, _, _, k3, _⟩ := h3 0 (by omega)
        have hsp : sp = none := by simpa [Addr.add] using World.cell?_spot k3
        subst hsp
        rw [addrK_add] at k1
        exact ⟨(ai, ni, ci, zi), fun _ => ⟨⟨b, off, rfl, k1⟩, k2⟩⟩
    · exact ⟨(none, 0, 0, []), fun k => absurd k hr⟩
  exact ⟨fun r => (Classical.choose (H r)).1, fun r => (Classical.choose (H r)).2.1, fun r => (Classical.choose (H r)).2.2.1, fun r => (Classical.choose (H r)).2.2.2, fun r hr => Classical.choose_spec (H r) hr⟩
theorem u64_of {n : Int} (h : (Lit.int .u64 n).wf = true) : 0 ≤ n ∧ n ≤ 18446744073709551615 := by
  simp [Lit.wf, IntKind.min, IntKind.max, IntKind.bits, IntKind.signed] at h; omega
/-- the rows, as they came in -/
def rowsIn (N : Nat → Nat) (Z : Nat → List Int) (q : Nat) : LL := (List.range q).map fun i => (Z i).take (N i)
theorem rowsIn_len (N : Nat → Nat) (Z : Nat → List Int) (q : Nat) : (rowsIn N Z q).length = q := by simp [rowsIn]
theorem rowsIn_at {N : Nat → Nat} {Z : Nat → List Int} {q i : Nat} (h : i < q) : (rowsIn N Z q).getD i [] = (Z i).take (N i) := by
  unfold rowsIn; rw [gD (by simpa using h)]; simp
def smallV (R : LL) : LL := (R.map fun r => rowV r 5).filter fun r => decide (r ≠ [])
theorem smallV_take {R : LL} {k : Nat} (h : k < R.length) : smallV (R.take (k + 1)) = if rowV (R.getD k []) 5 = [] then smallV (R.take k) else smallV (R.take k) ++ [rowV (R.getD k []) 5] := by
  unfold smallV
  rw [List.take_succ_eq_append_getElem h, List.map_append, List.filter_append, gD h]
  by_cases e : rowV R[k] 5 = []
  · rw [if_pos e]; simp [e]
  · rw [if_neg e]; simp [e]
/-- what lay from B on lies on -/
def Fr (B : Nat) (w w' : World) : Prop := ∀ g, B ≤ g → g < w.heap.size → w'.heap[g]? = w.heap[g]?
theorem Fr.of {B : Nat} {w w' w'' : World} (hb : Below w.heap.size w w') (h : Fr B w' w'') : Fr B w w'' := fun g h1 h2 => (h g h1 (Nat.lt_of_lt_of_le h2 hb.size)).trans (hb.block g h2)
theorem Fr.below {B : Nat} {w w' : World} (hb : Below w.heap.size w w') : Fr B w w' := fun g _ h2 => hb.block g h2
theorem Fr.trans {B : Nat} {a b c : World} (h : Fr B a b) (k : Fr B b c) (hs : a.heap.size ≤ b.heap.size) : Fr B a c := fun g h1 h2 => (k g h1 (Nat.lt_of_lt_of_le h2 hs)).trans (h g h1 h2)
/-- .. but for lists of slices -/
def FrP (B : Nat) (w w' : World) : Prop := ∀ g, B ≤ g → g < w.heap.size → (∀ cur, w.heap[g]? ≠ some (.cells cur 43 (0, 0))) → w'.heap[g]? = w.heap[g]?
theorem Fr.p {B : Nat} {w w' : World} (h : Fr B w w') : FrP B w w' := fun g h1 h2 _ => h g h1 h2
theorem FrP.of {B : Nat} {w w' w'' : World} (hb : Below w.heap.size w w') (h : FrP B w' w'') : FrP B w w'' := fun g h1 h2 h3 => (h g h1 (Nat.lt_of_lt_of_le h2 hb.size) (fun cur => by rw [hb.block g h2]; exact h3 cur)).trans (hb.block g h2)
theorem FrP.grown {B : Nat} {w w' w'' : World} {row : Option Nat} (hg : w.grownBy w' row) (hr : ∀ g, row = some g → ∃ cur, w.heap[g]? = some (.cells cur 43 (0, 0))) (h : FrP B w' w'') : FrP B w w'' := fun g h1 h2 h3 => by
  have he : w'.heap[g]? = w.heap[g]? := hg.block g h2 (fun e => by obtain ⟨cur, hc⟩ := hr g e.symm; exact h3 cur hc)
  exact (h g h1 (Nat.lt_of_lt_of_le h2 hg.size) (fun cur => by rw [he]; exact h3 cur)).trans he
/-- an own row of numbers is a slice of these, as long as it lies on -/
theorem ok1_own {w : World} {B : Nat} {v : Value} {n : Nat} {l : List Int} (h : w.ownsRow B 39 1 v n (l.map (Value.int .u64))) (hn : n ≤ 1000000) {w' : World} (hf : FrP B w w') : Ok1 w' v l := by
  have h' := own_of_block h fun g hg => hf g (h.lt g hg).1 (h.lt g hg).2 (fun cur e => by
    obtain ⟨cur', e'⟩ := own_type h hg
    rw [e] at e'; injection e' with e'; injection e' with _ et _
    exact absurd et (by decide))
  have hl : l.length = n := by have := h.1; rw [List.length_map] at this; omega
  obtain ⟨ad, cap, e1, ho, hc⟩ := ownK_row hl h'
  subst e1
  have hs := ho.sl
  refine ⟨ad, cap, by rw [hl], hs, by omega, ?_⟩
  rcases h'.2 with ⟨e, _⟩ | ⟨_, _, _, e, _, _, _, hm, _⟩
  · injection e with _ _ e3; omega
  · injection e with _ _ e3; unfold maxLen at hm; omega
theorem own_rowF {w w' : World} {B : Nat} {e : TypeId} {v : Value} {n : Nat} {vs : List Value} (h : w.ownsRow B e 1 v n vs) (hf : Fr B w w') : w'.ownsRow B e 1 v n vs := own_of_block h fun g hg => hf g (h.lt g hg).1 (h.lt g hg).2
def SmallR (R : LL) (w : World) (e : Ending) (w' : World) : Prop := ∃ a c vs, e = .returned (.slice a R.length c) ∧ (∀ w'', Fr w.heap.size w' w'' → Rv w'' a R.length vs R) ∧ R.length ≤ c ∧ c ≤ 9223372036854775807 ∧ Below w.heap.size w w'
set_option maxRecDepth 100000 in
set_option maxHeartbeats 2000000 in
theorem small_tr {w : World} {a : Option Addr} {len cap : Nat} {A : Nat → Option Addr} {N C : Nat → Nat} {Z : Nat → List Int} (hat : RowsAt w a len A N C Z) (hlen : len ≤ 9223372036854775807) :
    Calls Try.prog 29 #[.slice a len cap] w (SmallR (smallV (rowsIn N Z (min len 8))) w) := by
  obtain ⟨i0, hi, hz0, hz1, hz2⟩ := info_parts Try.info_pxs
  obtain ⟨q, hq⟩ : ∃ q, min len 8 = q := ⟨_, rfl⟩
  have hqn : q ≤ len := by omega
  have hqm : q ≤ 8 := by omega
  have hqe : q = len ∨ (q = 8 ∧ 8 < len) := by omega
  rw [hq]
  have HAT := Lib.hid hat
  have HTK := Lib.hid (fun k (hk : k < (rowsIn N Z q).length) => smallV_take hk)
  have HAL : Hid (smallV ((rowsIn N Z q).take q) = smallV (rowsIn N Z q)) := Lib.hid (by rw [List.take_of_length_le (by rw [rowsIn_len]; exact Nat.le_refl _)])
  clear hat hq
  go_enter Try.func29, Try.ntmps29
  go_wp2
  go_loopw [3, 4] (fun s3 s4 wr => ∃ (k : Nat) (vs : List Value) (v3 : Value), v3 = s3 ∧ k ≤ q ∧ s4 = .int .i64 k ∧ vs.length ≤ k ∧ wr.ownsRow w.heap.size 43 1 s3 vs.length vs ∧ (∀ w'', FrP w.heap.size wr w'' → OkV w'' vs (smallV ((rowsIn N Z q).take k))) ∧ Below w.heap.size w wr) (fun _ s4 _ => q - (intOf s4).toNat)
  case atStart => exact ⟨0, [], _, rfl, Nat.zero_le _, rfl, Nat.le_refl _, World.ownsRow_nil _ _ _ _, fun w'' _ => ⟨rfl, fun i hi => by simp [smallV] at hi⟩, Below.refl _ _⟩
  case round =>
    obtain ⟨k, vs, v3, rfl, hk, rfl, hvl, hrow, hok, hb⟩ := hrel
    have HROW := Lib.hid hrow
    have HOK := Lib.hid hok
    have HB := Lib.hid hb
    by_cases hlt : k < q
    · have h1 : (k : Int) < (len : Int) := by omega
      have h2 : (k : Int) < 8 := by omega
      have h0 : (0 : Int) ≤ (k : Int) := Int.natCast_nonneg _
      obtain ⟨⟨b, o, rfl, hc⟩, hir⟩ := HAT.out k (by omega)
      have hc2 := cell_later hb hc
      have hir2 := isrow_len hir
      have hnk : N k ≤ 9223372036854775807 := hir2.1
      have HRW := Lib.hid (row_tr (c := C k) ((isrow_takeK hir (N k) (Nat.le_refl _)).below hb) (fun x hx => u64_of (isrow_wfK hir x (List.mem_of_mem_take hx))) hnk 5 (by omega))
      have hst := HTK.out k (by rw [rowsIn_len]; exact hlt)
      rw [rowsIn_at hlt] at hst
      have hrl : (rowV ((Z k).take (N k)) 5).length = min (N k) 5 := by rw [rowV_len, List.length_take, Nat.min_eq_left hir2.2.1]
      have hcapk : N k ≤ C k := hir2.2.2.1
      obtain ⟨x, hx⟩ : ∃ x, rowV ((Z k).take (N k)) 5 = x := ⟨_, rfl⟩
      rw [hx] at hst hrl HRW
      have HST := Lib.hid hst
      obtain ⟨nk, hnk2⟩ : ∃ nk, N k = nk := ⟨_, rfl⟩
      obtain ⟨ck, hck2⟩ : ∃ ck, C k = ck := ⟨_, rfl⟩
      rw [hnk2] at hc2 HRW hrl
      rw [hck2] at hc2 HRW
      obtain ⟨m5, hm5⟩ : ∃ m5, min nk 5 = m5 := ⟨_, rfl⟩
      rw [hm5] at hrl HRW
      have HRL := Lib.hid hrl
      have hm5b : m5 ≤ 5 := by omega
      obtain ⟨nv, hnv⟩ : ∃ nv, vs.length = nv := ⟨_, rfl⟩
      have HNV := Lib.hid hnv
      rw [hnv] at hvl HROW
      have hszb := hb.size
      clear hc hir hir2 hnk hst hrl hx hnk2 hck2 hm5 hrow hok hb hnv hcapk
      by_cases hm0 : m5 = 0
      · have hx0 : x = [] := List.length_eq_zero_iff.1 (by rw [HRL.out, hm0])
        have HX0 := Lib.hid hx0
        subst hm0
        clear hx0
        go_wp2_with (go_at_call 23; refine HRW.out.mono ?_; rintro e w9 ⟨v, rfl, ho, hb9⟩; obtain ⟨av, cv, ev⟩ := Tr.own_form ho; have HO9 := Lib.hid ho; have HB9 := Lib.hid hb9; subst ev; clear ho hb9)
        go_roundw
        case rel =>
          refine ⟨k + 1, vs, _, rfl, by omega, by go_num, by have := HNV.out; omega, ?_, ?_, bel_step HB.out HB9.out⟩
          · rw [HNV.out]; exact own_rowF HROW.out (Fr.below HB9.out)
          · intro w'' hf
            rw [HST.out, if_pos HX0.out]
            exact HOK.out w'' (hf.of HB9.out)
        case measure => simp [intOf]; omega
      · have hm1 : (0 : Int) < (m5 : Int) := by omega
        have hx0 : x ≠ [] := fun e => hm0 (by rw [← HRL.out, e]; rfl)
        have HX0 := Lib.hid hx0
        clear hx0
        go_wp2_with (first
          | (go_at_call 23; refine HRW.out.mono ?_; rintro e w9 ⟨v, rfl, ho, hb9⟩; obtain ⟨av, cv, ev⟩ := Tr.own_form ho; have HO9 := Lib.hid ho; have HB9 := Lib.hid hb9; have hsz9 := hb9.size; subst ev; clear ho hb9)
          | (at_builtin; refine wpList_appV rfl _ _ 22 rfl w.heap.size 43 i0 (.slice none 0 0) 24 Try.underlying22 hi hz0 hz1 hz2 rfl _ nv _ rfl ((own_rowF HROW.out (Fr.below HB9.out)).alloc _) (some ⟨w9.heap.size, 0, none⟩) 1 1 [.slice av m5 cv] rfl (cv_one _ _ _) (by simp [Value.oneCell']) (by unfold maxLen; omega) (by omega) (by simp; omega) ?_; intro vb wb hown2 hgrow2 hat2; have HOWN2 := Lib.hid hown2; have HG2 := Lib.hid (grown_trans2 hgrow2); clear hown2 hgrow2 hat2))
        go_roundw
        case rel =>
          have h9 := HOWN2.out
          have e1 : (vs ++ [Value.slice av m5 cv]).length = nv + 1 := by rw [List.length_append, List.length_singleton, HNV.out]
          refine ⟨k + 1, vs ++ [.slice av m5 cv], _, rfl, by omega, by go_num, by rw [e1]; omega, by rw [e1]; exact h9, ?_, ?_⟩
          · intro w'' hf
            have hf9 : FrP w.heap.size w9 w'' := FrP.grown HG2.out (fun g hg => own_type (own_rowF HROW.out (Fr.below HB9.out)) hg) hf
            rw [HST.out, if_neg HX0.out]
            exact (HOK.out w'' (FrP.of HB9.out hf9)).snoc (by
              have ho := HO9.out
              have hl : x.length = m5 := HRL.out
              exact ok1_own (B := w.heap.size) (ownsRow_base ho hszb) (by omega) hf9)
          · exact (bel_step HB.out HB9.out).grown HG2.out (by omega) (fun j e => (HROW.out.lt j e).1)
        case measure => simp [intOf]; omega
    · obtain rfl : k = q := by omega
      have hfin : SmallR (smallV (rowsIn N Z k)) w (.returned v3) wr := by
        have h9 := HOK.out wr (fun g _ _ _ => rfl)
        rw [HAL.out] at h9
        obtain ⟨av, cv, ev⟩ := Tr.own_form HROW.out
        have hcv := HROW.out.2
        refine ⟨av, cv, vs, by rw [ev, h9.1], fun w'' hf => ?_, ?_, ?_, HB.out⟩
        · have hr := own_rowF HROW.out hf
          have hk2 := HOK.out w'' hf.p
          rw [HAL.out] at hk2
          rw [ev, hk2.1] at hr
          exact rv_own hr hk2 rfl
        · rw [← h9.1]
          rcases hcv with ⟨e, h0⟩ | ⟨_, _, _, e, _, _, hc1, hc2, _⟩
          · omega
          · rw [ev] at e; injection e with _ _ e; omega
        · rcases hcv with ⟨e, h0⟩ | ⟨_, _, _, e, _, _, hc1, hc2, _⟩
          · rw [ev] at e; injection e with _ _ e; omega
          · rw [ev] at e; injection e with _ _ e; unfold maxLen at hc2; omega
      have HFIN := Lib.hid hfin
      clear hrow hok hb hfin
      rcases hqe with rfl | ⟨rfl, h8⟩
      · have h1 : ¬ (k : Int) < (k : Int) := by omega
        go_wp2
        go_ret
        exact HFIN.out
      · have h1 : (8 : Int) < (len : Int) := by omega
        go_wp2
        go_ret
        exact HFIN.out
end Go.Proofs.Ytehmbnloplamaaa
