/- A variant gets one owner more; what stands then. No condition. -/
import Derived.Test.YtmlinoanpcbflaaZDcI
import Derived.Test.YtmlinoanpcbflaaZgAE
import Derived.Test.YtmlinoanpcbflaaZDcF
namespace Go.Proofs.Ytmlinoanpcbflaa
open Go.RowKit
set_option linter.unusedVariables false
open Dc
theorem Try.info_ow : (Try.prog.info? 71).map (fun i => (i.zero, i.size, i.bytes)) = some (some (.agg #[.int .i64 0, .int .i64 0]), 2, 16) := by kernel_rfl
theorem Try.info_tp : (Try.prog.info? 74).map (fun i => (i.zero, i.size, i.bytes)) = some (some (.agg #[.int .i64 0, .int .i64 0, .int .i64 0, .int .i64 0, .slice none 0 0, .slice none 0 0]), 6, 80) := by kernel_rfl
namespace Dc
/-- a variants' row or an owners' row -/
def isOV (o : Obj) : Prop := (∃ cs, o = .cells cs 69 (0, 0)) ∨ ∃ cs, o = .cells cs 71 (0, 0)
/-- only rows of variants and of owners have turned, of F or new ones -/
structure KpOV (n0 : Nat) (F : Nat → Prop) (A B : World) : Prop where
  os : B.os = A.os
  tape : B.tape = A.tape
  output : B.output = A.output
  size : A.heap.size ≤ B.heap.size
  block : ∀ g o, A.heap[g]? = some o → (¬ isOV o ∨ (g < n0 ∧ ¬ F g)) → B.heap[g]? = some o
theorem KpOV.refl (n0 : Nat) (F : Nat → Prop) (A : World) : KpOV n0 F A A := ⟨rfl, rfl, rfl, Nat.le_refl _, fun g o h _ => h⟩
theorem KpOV.trans {n0 : Nat} {F : Nat → Prop} {A B C : World} (h : KpOV n0 F A B) (k : KpOV n0 F B C) : KpOV n0 F A C :=
  ⟨k.os.trans h.os, k.tape.trans h.tape, k.output.trans h.output, Nat.le_trans h.size k.size, fun g o hg hc => k.block g o (h.block g o hg hc) hc⟩
theorem KpOV.ofB {n0 : Nat} {F : Nat → Prop} {A B : World} (hb : Below A.heap.size A B) : KpOV n0 F A B :=
  ⟨hb.os, hb.tape, hb.output, hb.size, fun g o hg _ => (hb.block g (Array.getElem?_eq_some_iff.1 hg).1).trans hg⟩
theorem KpOV.set {n0 : Nat} {F : Nat → Prop} (A : World) {b i : Nat} {cs : Array Value} (hb : A.heap[b]? = some (.cells cs 69 (0, 0)) ∨ A.heap[b]? = some (.cells cs 71 (0, 0))) (hF : F b ∨ n0 ≤ b) (y : Value) : KpOV n0 F A (A.setCell ⟨b, i, none⟩ y) :=
  ⟨rfl, rfl, rfl, by simp [World.setCell], fun g o hg hc => (Below.heap_setCell A _ y g fun e => by
    have e' : g = b := e
    subst e'
    rcases hc with hc | ⟨h1, h2⟩
    · refine hc ?_
      rcases hb with hb | hb
      · rw [hb] at hg; cases hg; exact .inl ⟨_, rfl⟩
      · rw [hb] at hg; cases hg; exact .inr ⟨_, rfl⟩
    · rcases hF with hF | hF
      · exact h2 hF
      · omega).trans hg⟩
theorem KpOV.grown {n0 : Nat} {F : Nat → Prop} {A B : World} {v : Value} (hg : A.grownBy B v.ownBlock) (hv : ∀ g, v.ownBlock = some g → (∃ cs, A.heap[g]? = some (.cells cs 71 (0, 0))) ∧ (F g ∨ n0 ≤ g)) : KpOV n0 F A B :=
  ⟨hg.os, hg.tape, hg.output, hg.size, fun g o hgo hc => (hg.block g (Array.getElem?_eq_some_iff.1 hgo).1 fun e => by
    obtain ⟨⟨cs, h1⟩, h2⟩ := hv g e.symm
    rcases hc with hc | ⟨h3, h4⟩
    · rw [h1] at hgo; cases hgo; exact hc (.inr ⟨_, rfl⟩)
    · rcases h2 with h2 | h2
      · exact h4 h2
      · omega).trans hgo⟩
theorem KpOV.cells {n0 : Nat} {F : Nat → Prop} {A B : World} (h : KpOV n0 F A B) {g : Nat} {cs : Array Value} {t : TypeId} (hg : A.heap[g]? = some (.cells cs t (0, 0))) (ht : t ≠ 69 ∧ t ≠ 71) : B.heap[g]? = some (.cells cs t (0, 0)) :=
  h.block g _ hg (.inl (by rintro (⟨c, e⟩ | ⟨c, e⟩) <;> cases e; exact ht.1 rfl; exact ht.2 rfl))
theorem dgrown_ad {w w5 : World} {o : Obj} {row : Option Nat} (h : (w.alloc o).drew.grownBy w5 row) : w.grownBy w5 row :=
  ⟨h.os, h.tape, h.output, Nat.le_trans (by show w.heap.size ≤ (w.alloc o).heap.size; simp) h.size, fun k hk hne => (h.block k (by show k < (w.alloc o).heap.size; simp; omega) hne).trans (Below.heap_alloc w o k hk)⟩
theorem dtwo_new (w : World) (t : TypeId) (x y : Value) : ∀ (j : Nat) (u : Value), [x, y][j]? = some u → (w.alloc (.cells #[x, y] t)).cell? ((⟨w.heap.size, 0, none⟩ : Addr).add j) = some u := by
  intro j u h
  have hj : j < 2 := by have := (List.getElem?_eq_some_iff.1 h).1; simpa using this
  have : j = 0 ∨ j = 1 := by omega
  rcases this with rfl | rfl <;> (simp at h; subst h; simp [go_sem])
theorem dgrown {w w' : World} {o : Obj} {row : Option Nat} (h : (w.alloc o).grownBy w' row) : w.grownBy w' row :=
  ⟨h.os, h.tape, h.output, Nat.le_trans (by simp) h.size, fun k hk hne => (h.block k (by simp; omega) hne).trans (Below.heap_alloc _ _ _ hk)⟩
theorem VarX.ownAt {w w1 : World} {G : Nat → Prop} {v : Value} {l : List Vr} (h : VarX w G v l) {i : Nat} {r : Vr} (hr : l[i]? = some r) {gv cv : Nat} (hv : v = .slice (some ⟨gv, 0, none⟩) l.length cv) {o : Ow} {g c : Nat} (hrow : w1.ownsRow 0 71 2 (.slice (some ⟨g, 0, none⟩) (r.2.2.2.length + 1) c) (r.2.2.2.length + 1) ((r.2.2.2 ++ [o]).flatMap ocs)) (hg : w.grownBy w1 (Vr.ov r).ownBlock) (hat : (Vr.ov r).ownBlock = some g ∨ w.heap.size ≤ g) (hG : G g) :
    VarX (w1.setCell ⟨gv, i * 6 + 5, none⟩ (.slice (some ⟨g, 0, none⟩) (r.2.2.2.length + 1) c)) G v (l.set i (r.1, r.2.1, (some ⟨g, 0, none⟩, c), r.2.2.2 ++ [o])) := by
  have hil := (List.getElem?_eq_some_iff.1 hr).1
  have hmem := List.mem_of_getElem? hr
  have hov : ∀ j, (Vr.ov r).ownBlock = some j → ∃ cs, w.heap[j]? = some (.cells cs 71 (0, 0)) := fun j hj => own_type (h.own r hmem).1 hj
  obtain ⟨curv, hcv⟩ := h.lies.type (g := gv) (by rw [hv]; rfl)
  -- what is of another type is as it was
  have k1 : ∀ (j : Nat) cs t, w.heap[j]? = some (.cells cs t (0, 0)) → t ≠ 71 → w1.heap[j]? = w.heap[j]? := fun j cs t hj ht => hg.block j (Array.getElem?_eq_some_iff.1 hj).1 fun e => by
    obtain ⟨cs', hc⟩ := hov j e.symm
    rw [hj] at hc
    injection hc with hc
    injection hc with _ hc _
    exact ht hc
  have hcv1 := (k1 gv _ _ hcv (by decide)).trans hcv
  obtain ⟨curg, hcg⟩ := own_type (g := g) hrow rfl
  have hggv : g ≠ gv := fun e => by
    rw [e, hcv1] at hcg
    injection hcg with hcg
    injection hcg with _ hcg _
    exact absurd hcg (by decide)
  have k2 : ∀ (j : Nat), j ≠ gv → (w1.setCell ⟨gv, i * 6 + 5, none⟩ (.slice (some ⟨g, 0, none⟩) (r.2.2.2.length + 1) c)).heap[j]? = w1.heap[j]? := fun j hj => Below.heap_setCell w1 _ _ j hj
  have k3 : ∀ (j : Nat) cs t, w.heap[j]? = some (.cells cs t (0, 0)) → t ≠ 71 → t ≠ 69 → (w1.setCell ⟨gv, i * 6 + 5, none⟩ (.slice (some ⟨g, 0, none⟩) (r.2.2.2.length + 1) c)).heap[j]? = w.heap[j]? := fun j cs t hj ht ht2 => by
    rw [k2 j fun e => by
      rw [e, hcv] at hj
      injection hj with hj
      injection hj with _ hj _
      exact ht2 hj.symm]
    exact k1 j cs t hj ht
  have hset := flat_set (f := vcs) (j := 5) (v := .slice (some ⟨g, 0, none⟩) (r.2.2.2.length + 1) c) (a' := (r.1, r.2.1, (some ⟨g, 0, none⟩, c), r.2.2.2 ++ [o])) vcs_len hr (by omega) (by unfold vcs; simp)
  have hsl : (l.set i (r.1, r.2.1, (some ⟨g, 0, none⟩, c), r.2.2.2 ++ [o])).length = l.length := List.length_set
  -- rows of the others
  have hoth : ∀ (j : Nat) (q : Vr), l[j]? = some q → j ≠ i → (w1.setCell ⟨gv, i * 6 + 5, none⟩ (.slice (some ⟨g, 0, none⟩) (r.2.2.2.length + 1) c)).ownsRow 0 71 2 (Vr.ov q) q.2.2.2.length (q.2.2.2.flatMap ocs) := fun j q hq hne => by
    have hqm := List.mem_of_getElem? hq
    refine own_of_block (h.own q hqm).1 fun z hz => ?_
    obtain ⟨cz, hcz⟩ := own_type (h.own q hqm).1 hz
    rw [k2 z fun e => by
      rw [e, hcv] at hcz
      injection hcz with hcz
      injection hcz with _ hcz _
      exact absurd hcz (by decide)]
    refine hg.block z (Array.getElem?_eq_some_iff.1 hcz).1 fun e => ?_
    rcases h.apart j i q r hq hr hne with h1 | h1
    · rw [hz] at h1; cases h1
    · exact h1 (hz.trans e)
  have hnew : (w1.setCell ⟨gv, i * 6 + 5, none⟩ (.slice (some ⟨g, 0, none⟩) (r.2.2.2.length + 1) c)).ownsRow 0 71 2 (.slice (some ⟨g, 0, none⟩) (r.2.2.2.length + 1) c) (r.2.2.2.length + 1) ((r.2.2.2 ++ [o]).flatMap ocs) :=
    own_of_block hrow fun z hz => by
      simp [Value.ownBlock] at hz; subst hz
      exact k2 _ hggv
  have hnb : ∀ (j : Nat) (q : Vr), l[j]? = some q → j ≠ i → (Vr.ov q).ownBlock ≠ some g := fun j q hq hne e => by
    rcases hat with h1 | h1
    · rcases h.apart j i q r hq hr hne with h2 | h2
      · rw [e] at h2; cases h2
      · exact h2 (e.trans h1.symm)
    · have := ((h.own q (List.mem_of_getElem? hq)).1.lt g e).2
      omega
  refine ⟨?_, h.here, fun q hq => ?_, fun q hq => ?_, fun a b x y hx hy hab => ?_⟩
  · -- the row
    rcases h.lies with ⟨e, rfl⟩ | ⟨g2, cap, cur, e, h1, h2, h3, h4, h5⟩
    · simp at hr
    · rw [hv] at e
      injection e with e1 e2 e3
      injection e1 with e1
      injection e1 with e1
      subst e1
      subst e3
      rw [hcv] at h1
      cases h1
      refine .inr ⟨gv, cv, curv.setIfInBounds (i * 6 + 5) (.slice (some ⟨g, 0, none⟩) (r.2.2.2.length + 1) c), by rw [hsl, hv], ?_, by rw [hsl]; exact h2, h3, by simpa using h4, ?_⟩
      · have := Go.heap_setCell_same w1 gv (i * 6 + 5) _ _ (.slice (some ⟨g, 0, none⟩) (r.2.2.2.length + 1) c) hcv1
        simpa using this
      · rw [hsl, ← hset, ← h5, Array.toList_setIfInBounds]
        exact List.take_set
  · obtain ⟨j, hj, e⟩ := List.getElem_of_mem hq
    rw [List.getElem_set] at e
    rw [hsl] at hj
    by_cases hij : i = j
    · rw [if_pos hij] at e
      subst e
      obtain ⟨⟨a0, a1⟩, a2⟩ := h.pix r hmem
      exact ⟨⟨a0, (k3 _ _ _ a1 (by decide) (by decide)).trans a1⟩, a2⟩
    · rw [if_neg hij] at e
      have hqm : q ∈ l := e ▸ List.getElem_mem hj
      obtain ⟨⟨a0, a1⟩, a2⟩ := h.pix q hqm
      exact ⟨⟨a0, (k3 _ _ _ a1 (by decide) (by decide)).trans a1⟩, a2⟩
  · obtain ⟨j, hj, e⟩ := List.getElem_of_mem hq
    rw [List.getElem_set] at e
    rw [hsl] at hj
    by_cases hij : i = j
    · rw [if_pos hij] at e
      subst e
      refine ⟨by simpa [Vr.ov] using hnew, fun z hz => ?_⟩
      simp [Vr.ov, Value.ownBlock] at hz; subst hz; exact hG
    · rw [if_neg hij] at e
      have hq2 : l[j]? = some q := by rw [List.getElem?_eq_getElem hj, e]
      exact ⟨hoth j q hq2 (fun e => hij e.symm), (h.own q (List.mem_of_getElem? hq2)).2⟩
  · rw [List.getElem?_set] at hx hy
    have none_or : ∀ q : Vr, (Vr.ov q).ownBlock ≠ some g → (Vr.ov q).ownBlock = none ∨ (Vr.ov q).ownBlock ≠ (Vr.ov (r.1, r.2.1, (some ⟨g, 0, none⟩, c), r.2.2.2 ++ [o])).ownBlock := fun q hq => .inr hq
    by_cases ha : i = a
    · rw [if_pos ha, if_pos hil] at hx
      cases hx
      rw [if_neg (fun e => hab (ha.symm.trans e))] at hy
      have := hnb b y hy (fun e => hab (ha.symm.trans e.symm))
      exact .inr fun e => this e.symm
    · rw [if_neg ha] at hx
      by_cases hb : i = b
      · rw [if_pos hb, if_pos hil] at hy
        cases hy
        exact .inr (hnb a x hx fun e => ha e.symm)
      · rw [if_neg hb] at hy
        exact h.apart a b x y hx hy hab
theorem VarX.room {w w1 : World} {G : Nat → Prop} {v : Value} {l : List Vr} (h : VarX w G v l) {i : Nat} {r : Vr} (hr : l[i]? = some r) {gv cv : Nat} (hv : v = .slice (some ⟨gv, 0, none⟩) l.length cv) (hg : w.grownBy w1 (Vr.ov r).ownBlock) : w1.cell? ⟨gv, i * 6 + 5, none⟩ = some (.slice r.2.2.1.1 r.2.2.2.length r.2.2.1.2) ∧ w1.frozen? ⟨gv, i * 6 + 5, none⟩ = false ∧ ∃ cur, w1.heap[gv]? = some (.cells cur 69 (0, 0)) := by
  obtain ⟨g, cap, e, hc⟩ := h.lies.cell (j := 5) hr rfl
  rw [hv] at e
  injection e with e1 e2 e3
  injection e1 with e1
  injection e1 with e1
  subst e1
  obtain ⟨cur, hcv⟩ := h.lies.type (g := gv) (by rw [hv]; rfl)
  have hb : w1.heap[gv]? = w.heap[gv]? := hg.block gv (Array.getElem?_eq_some_iff.1 hcv).1 fun e => by
    obtain ⟨cs', hc⟩ := own_type (h.own r (List.mem_of_getElem? hr)).1 e.symm
    rw [hcv] at hc
    injection hc with hc
    injection hc with _ hc _
    exact absurd hc (by decide)
  refine ⟨(World.cell?_of_block (w := w) (a := ⟨gv, i * 6 + 5, none⟩) hb).trans hc, ?_, cur, hb.trans hcv⟩
  rw [hcv] at hb
  simp [World.frozen?, hb]
end Dc
end Go.Proofs.Ytmlinoanpcbflaa
