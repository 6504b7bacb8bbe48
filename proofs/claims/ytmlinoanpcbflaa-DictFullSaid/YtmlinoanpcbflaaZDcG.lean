/- A list of variants that grows behind a cut room; what dict's laid holds while it runs. No condition but few variants. -/
import Derived.Test.YtmlinoanpcbflaaZDcB
import Derived.Test.YtmlinoanpcbflaaZgAE
import Derived.Test.YtmlinoanpcbflaaZDcOr
namespace Go.Proofs.Ytmlinoanpcbflaa
open Go.RowKit
set_option linter.unusedVariables false
open Dc
theorem Try.info_va : (Try.prog.info? 69).map (fun i => (i.zero, i.size, i.bytes)) = some (some (.agg #[.int .i64 0, .int .i64 0, .int .i64 0, .int .i64 0, .slice none 0 0, .slice none 0 0]), 6, 80) := by kernel_rfl
namespace Dc
theorem Lies.clip {w : World} {a : Option Addr} {c : Nat} {l : List Vr} (h : Lies w (.slice a l.length c) l) : Lies w (.slice a l.length l.length) l := by
  rcases h with ⟨e, rfl⟩ | ⟨g, cap, cur, e, h1, h2, h3, h4, h5⟩
  · injection e with e1 e2 e3
    subst e1
    exact .inl ⟨rfl, rfl⟩
  · injection e with e1 e2 e3
    subst e1
    exact .inr ⟨g, l.length, cur, rfl, h1, Nat.le_refl _, Nat.le_trans h2 h3, by omega, h5⟩
/-- a list that can grow: its room is full, or it is the call's own -/
def Fit (w : World) (B : Nat) (v : Value) (l : List Vr) : Prop := (∃ a, v = .slice a l.length l.length ∧ Lies w v l) ∨ w.ownsRow B 69 6 v l.length (l.flatMap vcs)
theorem Fit.lies {w : World} {B : Nat} {v : Value} {l : List Vr} (h : Fit w B v l) : Lies w v l := by
  rcases h with ⟨a, _, h⟩ | h
  · exact h
  · exact ownsRow_lies (ownsRow_base h (Nat.zero_le _))
theorem Lies.type {w : World} {v : Value} {l : List Vr} (h : Lies w v l) {g : Nat} (hg : v.ownBlock = some g) : ∃ cur, w.heap[g]? = some (.cells cur 69 (0, 0)) := by
  rcases h with ⟨rfl, _⟩ | ⟨j, cap, cur, rfl, h1, _⟩
  · simp [Value.ownBlock] at hg
  · simp [Value.ownBlock] at hg; subst hg; exact ⟨cur, h1⟩
theorem Fit.of_block {w w' : World} {B : Nat} {v : Value} {l : List Vr} (h : Fit w B v l) (hb : ∀ g, v.ownBlock = some g → w'.heap[g]? = w.heap[g]?) : Fit w' B v l := by
  rcases h with ⟨a, e, h⟩ | h
  · exact .inl ⟨a, e, h.of_block hb⟩
  · exact .inr (own_of_block h hb)
theorem Fit.later {w w' : World} {B : Nat} {v : Value} {l : List Vr} (h : Fit w B v l) (hb : Below w.heap.size w w') : Fit w' B v l := h.of_block fun g hg => by
  obtain ⟨cur, hc⟩ := h.lies.type hg
  exact hb.block g (Array.getElem?_eq_some_iff.1 hc).1
theorem vcs_one (r : Vr) : ∀ u ∈ vcs r, u.oneCell' = true := by
  intro u hu
  unfold vcs at hu
  simp only [List.mem_cons, List.not_mem_nil, or_false] at hu
  rcases hu with rfl | rfl | rfl | rfl | rfl | rfl <;> rfl
theorem run_push {w : World} {B : Nat} {v : Value} {l : List Vr} (h : Fit w B v l) (hB : B ≤ w.heap.size) (r : Vr) (ad : Addr) (c : Nat) (hnews : ∀ j u, (vcs r)[j]? = some u → w.cell? (ad.add j) = some u) (hl9 : l.length ≤ 1000000) (ty : TypeId) :
    ∃ g cap w', (Builtin.append_ #[59, 59] ty #[v, .slice (some ad) 1 c]).run Try.prog w = .ok (.slice (some ⟨g, 0, none⟩) (l.length + 1) cap) w' ∧ w'.ownsRow B 69 6 (.slice (some ⟨g, 0, none⟩) (l.length + 1) cap) (l.length + 1) ((l ++ [r]).flatMap vcs) ∧ w.grownBy w' v.ownBlock ∧ Below B w w' := by
  obtain ⟨i0, hi, hz0, hz1, hz2⟩ := info_parts Try.info_va
  have hfl : (l ++ [r]).flatMap vcs = l.flatMap vcs ++ vcs r := by rw [List.flatMap_append]; simp
  rw [hfl]
  rcases h with ⟨a, rfl, h⟩ | h
  · rcases h with ⟨e, rfl⟩ | ⟨g, cap, cur, e, h1, h2, h3, h4, h5⟩
    · injection e with e1 e2 e3
      subst e1
      obtain ⟨g, cap, w', hr, ho, hg, _, _⟩ := run_append_lies (P := Try.prog) w 59 ty B 69 i0 _ 6 80 Try.underlying59 hi hz0 hz1 hz2 rfl (by decide) (.slice none 0 0) 0 [] (World.ownsRow_nil _ _ _ _) ad 1 c (vcs r) rfl hnews (vcs_one r) (by decide) (by unfold maxLen; omega) (by omega) hB _ rfl
      exact ⟨g, cap, w', by simpa using hr, by simpa using ho, hg, (Below.refl B w).grown hg hB (fun j e => by simp [Value.ownBlock] at e)⟩
    · injection e with e1 e2 e3
      subst e1
      have holds : ∀ j u, (l.flatMap vcs)[j]? = some u → w.cell? ((⟨g, 0, none⟩ : Addr).add j) = some u := fun j u hj => by
        have hjl := (List.getElem?_eq_some_iff.1 hj).1
        rw [flat_len vcs_len] at hjl
        have e : (⟨g, 0, none⟩ : Addr).add j = ⟨g, j, none⟩ := by cases j <;> simp [Addr.add]
        rw [e, ← hj, ← h5, List.getElem?_take_of_lt hjl]
        simp [World.cell?, h1]
      have hr := run_append_grow (P := Try.prog) w 59 ty 69 i0 _ Try.underlying59 hi hz0 ⟨g, 0, none⟩ l.length l.length (l.flatMap vcs) (by rw [flat_len vcs_len, hz1]) holds ad 1 c (vcs r) (by rw [hz1]; rfl) hnews (by omega) (by omega) (growslice_fits (by omega) (by rw [hz2]; omega))
      have hge := grownCap_ge w (l.length + 1) l.length 69
      have hcm := grownCap_le_maxLen w (l.length + 1) l.length 69 (by unfold maxLen; omega)
      have hll : (l.flatMap vcs ++ vcs r).length = (l.length + 1) * 6 := by rw [List.length_append, flat_len vcs_len, vcs_len]; omega
      refine ⟨w.heap.size, _, _, hr, ⟨hll, .inr ⟨w.heap.size, _, _, rfl, hB, heap_alloc_new w.drew _, hge, hcm, ?_, ?_⟩⟩, ⟨rfl, rfl, rfl, by simp, fun k hk _ => heap_alloc_old w.drew _ k hk⟩, ⟨rfl, rfl, rfl, by simp, fun k hk => heap_alloc_old w.drew _ k (by simpa using Nat.lt_of_lt_of_le hk hB)⟩⟩
      · simp only [Array.size_append, List.size_toArray, size_zeroCells, flat_len vcs_len, vcs_len]
        show l.length * 6 + 6 + (grownCap w (l.length + 1) l.length _ - (l.length + 1)) * 6 = _
        omega
      · simp only [Array.toList_append]
        rw [← hll]
        exact List.take_left
  · obtain ⟨g, cap, w', hr, ho, hg, _, _⟩ := run_append_lies (P := Try.prog) w 59 ty B 69 i0 _ 6 80 Try.underlying59 hi hz0 hz1 hz2 rfl (by decide) v l.length _ h ad 1 c (vcs r) rfl hnews (vcs_one r) (by decide) (by unfold maxLen; omega) (by omega) hB _ rfl
    exact ⟨g, cap, w', hr, ho, hg, (Below.refl B w).grown hg hB (fun j e => (h.lt j e).1)⟩
theorem wpList_push {ops : Array Oper} {rest : List Oper} {o : Oper} {a : Act} {Q : Exit → Act → World → Prop} {w : World} (hgd : o.guard = none) (s x : Operand)
    (ho : o.op = .call { callee := .builtin .append, args := #[s, x], argTypes := #[59, 59] })
    {B : Nat} {v : Value} {l : List Vr} (hs : a.eval s = v) (h : Fit w B v l) (hB : B ≤ w.heap.size) (r : Vr) (ad : Addr) (c : Nat) (hx : a.eval x = .slice (some ad) 1 c) (hnews : ∀ j u, (vcs r)[j]? = some u → w.cell? (ad.add j) = some u) (hl9 : l.length ≤ 1000000)
    (hK : ∀ g cap w', w'.ownsRow B 69 6 (.slice (some ⟨g, 0, none⟩) (l.length + 1) cap) (l.length + 1) ((l ++ [r]).flatMap vcs) → w.grownBy w' v.ownBlock → Below B w w' → wpList Try.prog ops Q rest (a.put o.dst (.slice (some ⟨g, 0, none⟩) (l.length + 1) cap)) w') :
    wpList Try.prog ops Q (o :: rest) a w := by
  refine wpList_plain hgd fun K hK2 => ?_
  obtain ⟨g, cap, w', hr, h2, h3, h4⟩ := run_push h hB r ad c hnews hl9 o.type
  unfold Oper.wp execOp
  simp only [ho, resolve, invoke, builtin, Sem.run_bind, Sem.run_pure, Result.andThen_ok, List.map_toArray, List.map_cons, List.map_nil, hs, hx, hr]
  exact hK2 _ _ (hK g cap w' h2 h3 h4)
section
variable {w w' : World} {F G : Nat → Prop} {v : Value} {l : List Vr}
/-- what stands as long as blocks of three types stand -/
theorem VarX.keep (h : VarX w F v l) (hk : ∀ g cs t, F g → w.heap[g]? = some (.cells cs t (0, 0)) → (t = 69 ∨ t = 23 ∨ t = 71) → w'.heap[g]? = w.heap[g]?) : VarX w' F v l := by
  refine ⟨h.lies.of_block fun g hg => ?_, h.here, fun r hr => ⟨⟨Nat.zero_le _, ?_⟩, (h.pix r hr).2⟩, fun r hr => ⟨own_of_block (h.own r hr).1 fun g hg => ?_, (h.own r hr).2⟩, h.apart⟩
  · obtain ⟨cur, hc⟩ := h.lies.type hg
    exact hk g _ _ (h.here g hg) hc (.inl rfl)
  · obtain ⟨⟨_, h1⟩, h2⟩ := h.pix r hr
    exact (hk _ _ _ h2 h1 (.inr (.inl rfl))).trans h1
  · obtain ⟨cur, hc⟩ := own_type (h.own r hr).1 hg
    exact hk g _ _ ((h.own r hr).2 g hg) hc (.inr (.inr rfl))
theorem VarX.later (h : VarX w F v l) (hb : Below w.heap.size w w') : VarX w' F v l := h.keep fun g cs t _ hg _ => hb.block g (Array.getElem?_eq_some_iff.1 hg).1
theorem VarX.bound (h : VarX w F v l) : VarX w (fun g => F g ∧ g < w.heap.size) v l := by
  refine ⟨h.lies, fun g hg => ⟨h.here g hg, ?_⟩, fun r hr => ⟨(h.pix r hr).1, (h.pix r hr).2, (h.pix r hr).1.lt⟩, fun r hr => ⟨(h.own r hr).1, fun g hg => ⟨(h.own r hr).2 g hg, ?_⟩⟩, h.apart⟩
  · obtain ⟨cur, hc⟩ := h.lies.type hg
    exact (Array.getElem?_eq_some_iff.1 hc).1
  · exact ((h.own r hr).1.lt g hg).2
/-- one variant more, without owners -/
theorem VarX.push (h : VarX w F v l) {r : Vr} (hr : OwnG 0 w r.2.1 r.1.2.2.2.2 ∧ F r.2.1) (ho : r.2.2.1.1 = none ∧ r.2.2.1.2 = 0 ∧ r.2.2.2 = []) {g cap B : Nat} (hrow : w'.ownsRow B 69 6 (.slice (some ⟨g, 0, none⟩) (l.length + 1) cap) (l.length + 1) ((l ++ [r]).flatMap vcs)) (hg : w.grownBy w' v.ownBlock) (hF : F g) : VarX w' F (.slice (some ⟨g, 0, none⟩) (l.length + 1) cap) (l ++ [r]) := by
  have hne : ∀ (j : Nat) cs t, w.heap[j]? = some (.cells cs t (0, 0)) → t ≠ 69 → w'.heap[j]? = w.heap[j]? := fun j cs t hj ht => hg.block j (Array.getElem?_eq_some_iff.1 hj).1 fun e => by
    obtain ⟨cur, hc⟩ := h.lies.type e.symm
    rw [hj] at hc
    injection hc with hc
    injection hc with _ hc _
    exact ht hc
  have hlen : (l ++ [r]).length = l.length + 1 := by simp
  obtain ⟨o1, o2, o3⟩ := ho
  have hrv : Vr.ov r = .slice none 0 0 := by unfold Vr.ov; rw [o1, o2, o3]; rfl
  refine ⟨ownsRow_lies (by rw [hlen]; exact ownsRow_base hrow (Nat.zero_le _)), fun j hj => by simp [Value.ownBlock] at hj; subst hj; exact hF, fun q hq => ?_, fun q hq => ?_, fun i j a b hi hj hij => ?_⟩
  · rcases List.mem_append.1 hq with hq | hq
    · obtain ⟨⟨h0, h1⟩, h2⟩ := h.pix q hq
      exact ⟨⟨h0, (hne _ _ _ h1 (by decide)).trans h1⟩, h2⟩
    · obtain rfl := List.mem_singleton.1 hq
      obtain ⟨⟨h0, h1⟩, h2⟩ := hr
      exact ⟨⟨h0, (hne _ _ _ h1 (by decide)).trans h1⟩, h2⟩
  · rcases List.mem_append.1 hq with hq | hq
    · refine ⟨own_of_block (h.own q hq).1 fun j hj => ?_, (h.own q hq).2⟩
      obtain ⟨cur, hc⟩ := own_type (h.own q hq).1 hj
      exact hne _ _ _ hc (by decide)
    · obtain rfl := List.mem_singleton.1 hq
      rw [hrv, o3]
      exact ⟨World.ownsRow_nil _ _ _ _, fun j hj => by simp [Value.ownBlock] at hj⟩
  · by_cases hi' : i < l.length
    · rw [List.getElem?_append_left hi'] at hi
      by_cases hj' : j < l.length
      · rw [List.getElem?_append_left hj'] at hj
        exact h.apart i j a b hi hj hij
      · have : j = l.length := by have := (List.getElem?_eq_some_iff.1 hj).1; simp at this; omega
        subst this
        simp at hj
        subst hj
        rw [hrv]
        cases ha : (Vr.ov a).ownBlock with
        | none => exact .inl rfl
        | some z => right; simp [Value.ownBlock]
    · have : i = l.length := by have := (List.getElem?_eq_some_iff.1 hi).1; simp at this; omega
      subst this
      simp at hi
      subst hi
      left; rw [hrv]; rfl
end
end Dc
end Go.Proofs.Ytmlinoanpcbflaa
