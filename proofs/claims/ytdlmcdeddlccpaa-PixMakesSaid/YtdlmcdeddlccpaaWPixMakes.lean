/- PixMakes: what is made of a pixel, of one sample, dark for light, of another greatest one, is the document's, or refused: the walk of the law. No condition. -/
import Derived.Test.YtdlmcdeddlccpaaPixO
namespace Go.Proofs.Ytdlmcdeddlccpaa
open Go.RowKit
set_option linter.unusedVariables false
attribute [local go_sem ↓] Go.wp_at_zero Go.wp_at_succ

/-- what lies in memory while the law runs: its two pixels, its two formats, the format that may be -/
def Ctx (w : World) (A G : Nat) (p q c m c' m' : Int) (w' : World) : Prop :=
  w'.cell? ⟨A, 0, none⟩ = some (.int .u64 p) ∧ w'.cell? ⟨A, 1, none⟩ = some (.int .u64 q) ∧
  w'.cell? ⟨A + 1, 0, none⟩ = some (.int .i64 c) ∧ w'.cell? ⟨A + 1, 1, none⟩ = some (.int .i64 m) ∧ w'.cell? ⟨A + 1, 2, none⟩ = some (.int .i64 c') ∧ w'.cell? ⟨A + 1, 3, none⟩ = some (.int .i64 m') ∧
  w'.cell? ⟨G, 1, none⟩ = some (.int .i64 m') ∧ Below w.heap.size w w'
theorem Ctx.later {w : World} {A G : Nat} {p q c m c' m' : Int} {w1 w2 : World} (h : Ctx w A G p q c m c' m' w1) (hb : Below w1.heap.size w1 w2) : Ctx w A G p q c m c' m' w2 := by
  obtain ⟨h1, h2, h3, h4, h5, h6, h7, h8⟩ := h
  exact ⟨cell_later hb h1, cell_later hb h2, cell_later hb h3, cell_later hb h4, cell_later hb h5, cell_later hb h6, cell_later hb h7, bt h8 hb⟩
/-- and the three greatest samples -/
def Three (g : Nat) (x y z : Int) (w' : World) : Prop :=
  w'.cell? ⟨g, 0, none⟩ = some (.int .i64 x) ∧ w'.cell? ⟨g, 1, none⟩ = some (.int .i64 y) ∧ w'.cell? ⟨g, 2, none⟩ = some (.int .i64 z)
theorem Three.later {g : Nat} {x y z : Int} {w1 w2 : World} (h : Three g x y z w1) (hb : Below w1.heap.size w1 w2) : Three g x y z w2 := by
  obtain ⟨h1, h2, h3⟩ := h
  exact ⟨cell_later hb h1, cell_later hb h2, cell_later hb h3⟩

set_option maxRecDepth 100000 in
set_option maxHeartbeats 16000000 in
theorem pixMakes_walk (a0 : Option Addr) (len0 cap0 : Nat) (z0 : List Int) (c m : Int) (p : Int) (x : Int) (y : Int) (w : World) (w0 : IsRow .i64 w a0 len0 cap0 z0) (w10 : (Lit.int .i64 c).wf = true) (w11 : (Lit.int .i64 m).wf = true) (w2 : (Lit.int .u64 p).wf = true) (w3 : (Lit.int .i64 x).wf = true) (w4 : (Lit.int .i64 y).wf = true) :
    Calls Try.prog 5 #[.slice a0 len0 cap0, .agg #[.int .i64 c, .int .i64 m], .int .u64 p, .int .i64 x, .int .i64 y] w fun e w' => e = .returned (.bool true) ∧ Below w.heap.size w w' := by
  have hc := wf_i w10
  have hm := wf_i w11
  have up := wf_u w2
  have hx := wf_i w3
  have hy := wf_i w4
  have hl := (isrow_len w0).1
  have hs := isrow_take w0 len0 (Nat.le_refl _)
  have hwf : ∀ z ∈ z0.take len0, Px.I z := fun z hz => isrow_wf w0 z (List.mem_of_mem_take hz)
  generalize z0.take len0 = l at hs hwf
  clear w10 w11 w0 w2 w3 w4
  obtain ⟨m0, m1⟩ := formM_in m
  have hcc := formC_in c
  obtain ⟨c', hc'⟩ : ∃ c', Px.formC c = c' := ⟨_, rfl⟩
  obtain ⟨m', hm'⟩ : ∃ m', Px.formM m = m' := ⟨_, rfl⟩
  rw [hm'] at m0 m1
  rw [hc'] at hcc
  have HC := Lib.hid hc'; clear hc'
  have HM := Lib.hid hm'; clear hm'
  have HCC := Lib.hid hcc; clear hcc
  have hg := good_is l HCC.out (by omega) m1
  obtain ⟨q, hq⟩ : ∃ p, Px.goodV l c' m' = p := ⟨_, rfl⟩
  rw [hq] at hg
  have HQ := Lib.hid hq; clear hq
  have uq := goodU hg
  clear hg
  have hr := Px.around_lt x 65535 (by omega)
  obtain ⟨v, hv⟩ : ∃ v, Px.aroundV x 65535 = v := ⟨_, rfl⟩
  rw [hv] at hr
  obtain ⟨r0, r1⟩ := hr
  have HV := Lib.hid hv; clear hv
  have ev : IntKind.i64.wrap (1 + v) = 1 + v := IntWalk.i64_in _ (by omega)
  have im : Px.I m' := by unfold Px.I; omega
  have iv : Px.I (1 + v) := by unfold Px.I; omega
  have IM := Lib.hid im; clear im
  have IV := Lib.hid iv; clear iv
  go_enter Try.func5, Try.ntmps5
  go_wp2_with fail
  refine (form_any c m hc hm _).mono ?_
  rw [HC.out, HM.out]
  rintro e w1 ⟨rfl, hb1⟩
  have d0 : w1.cell? ⟨w.heap.size, 0, none⟩ = some (.int .i64 c) := cell_later hb1 (by simp [go_sem])
  have d1 : w1.cell? ⟨w.heap.size, 1, none⟩ = some (.int .i64 m) := cell_later hb1 (by simp [go_sem])
  have hb4 := box_below w _ _ hb1
  have hz1 : w.heap.size < w1.heap.size := by have := hb1.size; simp at this; omega
  clear hb1
  have hs := hs.below hb4
  go_wp2_with fail
  have hx1 := (Below.refl w1.heap.size w1).alloc (Nat.le_refl _) (.cells #[.int .i64 c', .int .i64 m'] 36)
  refine (good_sl _ _ _ l _ _ hl hwf HCC.out (by omega) m1 _ (hs.below hx1)).mono ?_
  rw [HQ.out]
  rintro e w2 ⟨rfl, hbn⟩
  have e0 : w2.cell? ⟨w1.heap.size, 0, none⟩ = some (.int .i64 c') := cell_later hbn (by simp [go_sem])
  have e1 : w2.cell? ⟨w1.heap.size, 1, none⟩ = some (.int .i64 m') := cell_later hbn (by simp [go_sem])
  have d0 : w2.cell? ⟨w.heap.size, 0, none⟩ = some (.int .i64 c) := cell_later hbn (by simp [go_sem, d0, hz1])
  have d1 : w2.cell? ⟨w.heap.size, 1, none⟩ = some (.int .i64 m) := cell_later hbn (by simp [go_sem, d1, hz1])
  have hz2 : w1.heap.size < w2.heap.size := by have := hbn.size; simp at this; omega
  have hz3 : w.heap.size < w2.heap.size := by omega
  have hb4 := bt (bt hb4 hx1) hbn
  clear hbn hx1 hs
  have hC : Ctx w w2.heap.size w1.heap.size p q c m c' m' ((w2.alloc (.cells #[.int .u64 p, .int .u64 q] 24)).alloc (.cells #[.int .i64 c, .int .i64 m, .int .i64 c', .int .i64 m'] 36)) :=
    ⟨by simp [go_sem], by simp [go_sem], by simp [go_sem], by simp [go_sem], by simp [go_sem], by simp [go_sem], by
      have hx := ((Below.refl w2.heap.size w2).alloc (Nat.le_refl _) (.cells #[.int .u64 p, .int .u64 q] 24)).alloc (by simp) (.cells #[.int .i64 c, .int .i64 m, .int .i64 c', .int .i64 m'] 36)
      exact cell_later hx e1, (hb4.alloc hb4.size _).alloc (by have := hb4.size; simp; omega) _⟩
  have HCX := Lib.hid hC
  clear hC hb4
  go_wp2_with fail
  refine wp_loop_rounds 3 ?_
  rw [rounds_succ]
  go_wp2_with fail
  refine (gray_any p up _).mono ?_
  rintro e v1 ⟨rfl, hbn⟩
  have HCX := Lib.hid (HCX.out.later hbn)
  clear hbn
  obtain ⟨k1, k2, k3, k4, k5, k6, k7, hb4⟩ := HCX.out
  go_wp2_with fail
  clear k1 k2 k3 k4 k5 k6 k7 hb4
  refine (refGray_any p up _).mono ?_
  rintro e v2 ⟨rfl, hbn⟩
  have HCX := Lib.hid (HCX.out.later hbn)
  clear hbn
  obtain ⟨k1, k2, k3, k4, k5, k6, k7, hb4⟩ := HCX.out
  go_wp2_with fail
  clear k1 k2 k3 k4 k5 k6 k7 hb4
  obtain ⟨k1, k2, k3, k4, k5, k6, k7, hb4⟩ := HCX.out
  go_region_held3 (fun w' => w'.cell? ⟨w2.heap.size, 0, none⟩ = some (.int .u64 p) ∧ w'.cell? ⟨w2.heap.size, 1, none⟩ = some (.int .u64 q) ∧ w'.cell? ⟨w2.heap.size + 1, 0, none⟩ = some (.int .i64 c) ∧ w'.cell? ⟨w2.heap.size + 1, 1, none⟩ = some (.int .i64 m) ∧ w'.cell? ⟨w2.heap.size + 1, 2, none⟩ = some (.int .i64 c') ∧ w'.cell? ⟨w2.heap.size + 1, 3, none⟩ = some (.int .i64 m') ∧ w'.cell? ⟨w1.heap.size, 1, none⟩ = some (.int .i64 m') ∧ Below w.heap.size w w')
    (first | exact ⟨k1, k2, k3, k4, k5, k6, k7, hb4.drew⟩ | go_keep | (go_split_ands; refine ⟨cell_later hb9 ?_, cell_later hb9 ?_, cell_later hb9 ?_, cell_later hb9 ?_, cell_later hb9 ?_, cell_later hb9 ?_, cell_later hb9 ?_, bt ?_ hb9⟩ <;> assumption))
    (first | (go_at_call 27; refine (turned_any p _ _ up _).mono ?_; rintro e v3 ⟨rfl, hb9⟩))
  have hC : Ctx w w2.heap.size w1.heap.size p q c m c' m' v3 := by unfold Ctx; assumption
  have HCX := Lib.hid hC
  clear hC hb9 k1 k2 k3 k4 k5 k6 k7 hb4
  obtain ⟨k1, k2, k3, k4, k5, k6, k7, hb4⟩ := HCX.out
  go_wp2_with fail
  clear k1 k2 k3 k4 k5 k6 k7 hb4
  obtain ⟨k1, k2, k3, k4, k5, k6, k7, hb4⟩ := HCX.out
  go_region_held3 (fun w' => w'.cell? ⟨w2.heap.size, 0, none⟩ = some (.int .u64 p) ∧ w'.cell? ⟨w2.heap.size, 1, none⟩ = some (.int .u64 q) ∧ w'.cell? ⟨w2.heap.size + 1, 0, none⟩ = some (.int .i64 c) ∧ w'.cell? ⟨w2.heap.size + 1, 1, none⟩ = some (.int .i64 m) ∧ w'.cell? ⟨w2.heap.size + 1, 2, none⟩ = some (.int .i64 c') ∧ w'.cell? ⟨w2.heap.size + 1, 3, none⟩ = some (.int .i64 m') ∧ w'.cell? ⟨w1.heap.size, 1, none⟩ = some (.int .i64 m') ∧ Below w.heap.size w w')
    (first | exact ⟨k1, k2, k3, k4, k5, k6, k7, hb4.drew⟩ | go_keep | (go_split_ands; refine ⟨cell_later hb9 ?_, cell_later hb9 ?_, cell_later hb9 ?_, cell_later hb9 ?_, cell_later hb9 ?_, cell_later hb9 ?_, cell_later hb9 ?_, bt ?_ hb9⟩ <;> assumption))
    (first | (go_at_call 28; refine (refTurned_any p _ _ up _).mono ?_; rintro e v4 ⟨rfl, hb9⟩))
  have hC : Ctx w w2.heap.size w1.heap.size p q c m c' m' v4 := by unfold Ctx; assumption
  have HCX := Lib.hid hC
  clear hC hb9 k1 k2 k3 k4 k5 k6 k7 hb4
  obtain ⟨k1, k2, k3, k4, k5, k6, k7, hb4⟩ := HCX.out
  go_wp2_with fail
  clear k1 k2 k3 k4 k5 k6 k7 hb4
  obtain ⟨k1, k2, k3, k4, k5, k6, k7, hb4⟩ := HCX.out
  go_region_held3 (fun w' => w'.cell? ⟨w1.heap.size, 1, none⟩ = some (.int .i64 m')) (first | exact k7 | go_keep)
    (first | (go_at_call 13; refine (around_any _ _ hx (by omega) (by omega) _).mono ?_; rw [HV.out]; rintro e w9 ⟨rfl, rfl⟩))
  have hbx := ((Below.refl v4.heap.size v4).alloc (Nat.le_refl _) (.cells #[.int .i64 x, .int .i64 m', .int .i64 (1 + v)] 3)).drew
  have HCX := Lib.hid (HCX.out.later hbx)
  have HTX : Hid (Three v4.heap.size x m' (1 + v) (v4.alloc (.cells #[.int .i64 x, .int .i64 m', .int .i64 (1 + v)] 3)).drew) := Lib.hid ⟨by simp [go_sem], by simp [go_sem], by simp [go_sem]⟩
  clear hbx k1 k2 k3 k4 k5 k6 k7 hb4
  go_wp2_with fail
  refine wp_loop_rounds 4 ?_
  rw [rounds_succ]
  obtain ⟨k1, k2, k3, k4, k5, k6, k7, hb4⟩ := HCX.out
  obtain ⟨k8, k9, k10⟩ := HTX.out
  go_wp2_with fail
  clear k1 k2 k3 k4 k5 k6 k7 hb4 k8 k9 k10
  obtain ⟨k1, k2, k3, k4, k5, k6, k7, hb4⟩ := HCX.out
  obtain ⟨k8, k9, k10⟩ := HTX.out
  go_region_held3 (fun w' => w'.cell? ⟨w2.heap.size, 0, none⟩ = some (.int .u64 p) ∧ w'.cell? ⟨w2.heap.size, 1, none⟩ = some (.int .u64 q) ∧ w'.cell? ⟨w2.heap.size + 1, 0, none⟩ = some (.int .i64 c) ∧ w'.cell? ⟨w2.heap.size + 1, 1, none⟩ = some (.int .i64 m) ∧ w'.cell? ⟨w2.heap.size + 1, 2, none⟩ = some (.int .i64 c') ∧ w'.cell? ⟨w2.heap.size + 1, 3, none⟩ = some (.int .i64 m') ∧ w'.cell? ⟨w1.heap.size, 1, none⟩ = some (.int .i64 m') ∧ Below w.heap.size w w' ∧ w'.cell? ⟨v4.heap.size, 0, none⟩ = some (.int .i64 x) ∧ w'.cell? ⟨v4.heap.size, 1, none⟩ = some (.int .i64 m') ∧ w'.cell? ⟨v4.heap.size, 2, none⟩ = some (.int .i64 (1 + v)))
    (first | exact ⟨k1, k2, k3, k4, k5, k6, k7, hb4.drew, k8, k9, k10⟩ | go_keep | (go_split_ands; refine ⟨cell_later hb9 ?_, cell_later hb9 ?_, cell_later hb9 ?_, cell_later hb9 ?_, cell_later hb9 ?_, cell_later hb9 ?_, cell_later hb9 ?_, bt ?_ hb9, cell_later hb9 ?_, cell_later hb9 ?_, cell_later hb9 ?_⟩ <;> assumption))
    (first | (go_at_call 29; refine (scaled_any p x y up hx hy _).mono ?_; rintro e v5 ⟨rfl, hb9⟩))
  have hCT : Ctx w w2.heap.size w1.heap.size p q c m c' m' v5 ∧ Three v4.heap.size x m' (1 + v) v5 := by
    unfold Ctx Three
    go_split_ands
    refine ⟨⟨?_, ?_, ?_, ?_, ?_, ?_, ?_, ?_⟩, ?_, ?_, ?_⟩ <;> assumption
  have HCX := Lib.hid hCT.1
  have HTX := Lib.hid hCT.2
  clear hCT hb9 k1 k2 k3 k4 k5 k6 k7 hb4 k8 k9 k10
  obtain ⟨k1, k2, k3, k4, k5, k6, k7, hb4⟩ := HCX.out
  obtain ⟨k8, k9, k10⟩ := HTX.out
  go_wp2_with fail
  clear k1 k2 k3 k4 k5 k6 k7 hb4 k8 k9 k10
  obtain ⟨k1, k2, k3, k4, k5, k6, k7, hb4⟩ := HCX.out
  obtain ⟨k8, k9, k10⟩ := HTX.out
  go_region_held3 (fun w' => w'.cell? ⟨w2.heap.size, 0, none⟩ = some (.int .u64 p) ∧ w'.cell? ⟨w2.heap.size, 1, none⟩ = some (.int .u64 q) ∧ w'.cell? ⟨w2.heap.size + 1, 0, none⟩ = some (.int .i64 c) ∧ w'.cell? ⟨w2.heap.size + 1, 1, none⟩ = some (.int .i64 m) ∧ w'.cell? ⟨w2.heap.size + 1, 2, none⟩ = some (.int .i64 c') ∧ w'.cell? ⟨w2.heap.size + 1, 3, none⟩ = some (.int .i64 m') ∧ w'.cell? ⟨w1.heap.size, 1, none⟩ = some (.int .i64 m') ∧ Below w.heap.size w w' ∧ w'.cell? ⟨v4.heap.size, 0, none⟩ = some (.int .i64 x) ∧ w'.cell? ⟨v4.heap.size, 1, none⟩ = some (.int .i64 m') ∧ w'.cell? ⟨v4.heap.size, 2, none⟩ = some (.int .i64 (1 + v)))
    (first | exact ⟨k1, k2, k3, k4, k5, k6, k7, hb4.drew, k8, k9, k10⟩ | go_keep | (go_split_ands; refine ⟨cell_later hb9 ?_, cell_later hb9 ?_, cell_later hb9 ?_, cell_later hb9 ?_, cell_later hb9 ?_, cell_later hb9 ?_, cell_later hb9 ?_, bt ?_ hb9, cell_later hb9 ?_, cell_later hb9 ?_, cell_later hb9 ?_⟩ <;> assumption))
    (first | (go_at_call 30; refine (refScaled_any p x y up _).mono ?_; rintro e v6 ⟨rfl, hb9⟩))
  have hCT : Ctx w w2.heap.size w1.heap.size p q c m c' m' v6 ∧ Three v4.heap.size x m' (1 + v) v6 := by
    unfold Ctx Three
    go_split_ands
    refine ⟨⟨?_, ?_, ?_, ?_, ?_, ?_, ?_, ?_⟩, ?_, ?_, ?_⟩ <;> assumption
  have HCX := Lib.hid hCT.1
  have HTX := Lib.hid hCT.2
  clear hCT hb9 k1 k2 k3 k4 k5 k6 k7 hb4 k8 k9 k10
  obtain ⟨k1, k2, k3, k4, k5, k6, k7, hb4⟩ := HCX.out
  obtain ⟨k8, k9, k10⟩ := HTX.out
  go_wp2_with fail
  clear k1 k2 k3 k4 k5 k6 k7 hb4 k8 k9 k10
  rw [rounds_succ]
  obtain ⟨k1, k2, k3, k4, k5, k6, k7, hb4⟩ := HCX.out
  obtain ⟨k8, k9, k10⟩ := HTX.out
  go_wp2_with fail
  clear k1 k2 k3 k4 k5 k6 k7 hb4 k8 k9 k10
  obtain ⟨k1, k2, k3, k4, k5, k6, k7, hb4⟩ := HCX.out
  obtain ⟨k8, k9, k10⟩ := HTX.out
  go_region_held3 (fun w' => w'.cell? ⟨w2.heap.size, 0, none⟩ = some (.int .u64 p) ∧ w'.cell? ⟨w2.heap.size, 1, none⟩ = some (.int .u64 q) ∧ w'.cell? ⟨w2.heap.size + 1, 0, none⟩ = some (.int .i64 c) ∧ w'.cell? ⟨w2.heap.size + 1, 1, none⟩ = some (.int .i64 m) ∧ w'.cell? ⟨w2.heap.size + 1, 2, none⟩ = some (.int .i64 c') ∧ w'.cell? ⟨w2.heap.size + 1, 3, none⟩ = some (.int .i64 m') ∧ w'.cell? ⟨w1.heap.size, 1, none⟩ = some (.int .i64 m') ∧ Below w.heap.size w w' ∧ w'.cell? ⟨v4.heap.size, 0, none⟩ = some (.int .i64 x) ∧ w'.cell? ⟨v4.heap.size, 1, none⟩ = some (.int .i64 m') ∧ w'.cell? ⟨v4.heap.size, 2, none⟩ = some (.int .i64 (1 + v)))
    (first | exact ⟨k1, k2, k3, k4, k5, k6, k7, hb4.drew, k8, k9, k10⟩ | go_keep | (go_split_ands; refine ⟨cell_later hb9 ?_, cell_later hb9 ?_, cell_later hb9 ?_, cell_later hb9 ?_, cell_later hb9 ?_, cell_later hb9 ?_, cell_later hb9 ?_, bt ?_ hb9, cell_later hb9 ?_, cell_later hb9 ?_, cell_later hb9 ?_⟩ <;> assumption))
    (first | (go_at_call 29; refine (scaled_any p m' y up IM.out hy _).mono ?_; rintro e v7 ⟨rfl, hb9⟩))
  have hCT : Ctx w w2.heap.size w1.heap.size p q c m c' m' v7 ∧ Three v4.heap.size x m' (1 + v) v7 := by
    unfold Ctx Three
    go_split_ands
    refine ⟨⟨?_, ?_, ?_, ?_, ?_, ?_, ?_, ?_⟩, ?_, ?_, ?_⟩ <;> assumption
  have HCX := Lib.hid hCT.1
  have HTX := Lib.hid hCT.2
  clear hCT hb9 k1 k2 k3 k4 k5 k6 k7 hb4 k8 k9 k10
  obtain ⟨k1, k2, k3, k4, k5, k6, k7, hb4⟩ := HCX.out
  obtain ⟨k8, k9, k10⟩ := HTX.out
  go_wp2_with fail
  clear k1 k2 k3 k4 k5 k6 k7 hb4 k8 k9 k10
  obtain ⟨k1, k2, k3, k4, k5, k6, k7, hb4⟩ := HCX.out
  obtain ⟨k8, k9, k10⟩ := HTX.out
  go_region_held3 (fun w' => w'.cell? ⟨w2.heap.size, 0, none⟩ = some (.int .u64 p) ∧ w'.cell? ⟨w2.heap.size, 1, none⟩ = some (.int .u64 q) ∧ w'.cell? ⟨w2.heap.size + 1, 0, none⟩ = some (.int .i64 c) ∧ w'.cell? ⟨w2.heap.size + 1, 1, none⟩ = some (.int .i64 m) ∧ w'.cell? ⟨w2.heap.size + 1, 2, none⟩ = some (.int .i64 c') ∧ w'.cell? ⟨w2.heap.size + 1, 3, none⟩ = some (.int .i64 m') ∧ w'.cell? ⟨w1.heap.size, 1, none⟩ = some (.int .i64 m') ∧ Below w.heap.size w w' ∧ w'.cell? ⟨v4.heap.size, 0, none⟩ = some (.int .i64 x) ∧ w'.cell? ⟨v4.heap.size, 1, none⟩ = some (.int .i64 m') ∧ w'.cell? ⟨v4.heap.size, 2, none⟩ = some (.int .i64 (1 + v)))
    (first | exact ⟨k1, k2, k3, k4, k5, k6, k7, hb4.drew, k8, k9, k10⟩ | go_keep | (go_split_ands; refine ⟨cell_later hb9 ?_, cell_later hb9 ?_, cell_later hb9 ?_, cell_later hb9 ?_, cell_later hb9 ?_, cell_later hb9 ?_, cell_later hb9 ?_, bt ?_ hb9, cell_later hb9 ?_, cell_later hb9 ?_, cell_later hb9 ?_⟩ <;> assumption))
    (first | (go_at_call 30; refine (refScaled_any p m' y up _).mono ?_; rintro e v8 ⟨rfl, hb9⟩))
  have hCT : Ctx w w2.heap.size w1.heap.size p q c m c' m' v8 ∧ Three v4.heap.size x m' (1 + v) v8 := by
    unfold Ctx Three
    go_split_ands
    refine ⟨⟨?_, ?_, ?_, ?_, ?_, ?_, ?_, ?_⟩, ?_, ?_, ?_⟩ <;> assumption
  have HCX := Lib.hid hCT.1
  have HTX := Lib.hid hCT.2
  clear hCT hb9 k1 k2 k3 k4 k5 k6 k7 hb4 k8 k9 k10
  obtain ⟨k1, k2, k3, k4, k5, k6, k7, hb4⟩ := HCX.out
  obtain ⟨k8, k9, k10⟩ := HTX.out
  go_wp2_with fail
  clear k1 k2 k3 k4 k5 k6 k7 hb4 k8 k9 k10
  rw [rounds_succ]
  obtain ⟨k1, k2, k3, k4, k5, k6, k7, hb4⟩ := HCX.out
  obtain ⟨k8, k9, k10⟩ := HTX.out
  go_wp2_with fail
  clear k1 k2 k3 k4 k5 k6 k7 hb4 k8 k9 k10
  obtain ⟨k1, k2, k3, k4, k5, k6, k7, hb4⟩ := HCX.out
  obtain ⟨k8, k9, k10⟩ := HTX.out
  go_region_held3 (fun w' => w'.cell? ⟨w2.heap.size, 0, none⟩ = some (.int .u64 p) ∧ w'.cell? ⟨w2.heap.size, 1, none⟩ = some (.int .u64 q) ∧ w'.cell? ⟨w2.heap.size + 1, 0, none⟩ = some (.int .i64 c) ∧ w'.cell? ⟨w2.heap.size + 1, 1, none⟩ = some (.int .i64 m) ∧ w'.cell? ⟨w2.heap.size + 1, 2, none⟩ = some (.int .i64 c') ∧ w'.cell? ⟨w2.heap.size + 1, 3, none⟩ = some (.int .i64 m') ∧ w'.cell? ⟨w1.heap.size, 1, none⟩ = some (.int .i64 m') ∧ Below w.heap.size w w' ∧ w'.cell? ⟨v4.heap.size, 0, none⟩ = some (.int .i64 x) ∧ w'.cell? ⟨v4.heap.size, 1, none⟩ = some (.int .i64 m') ∧ w'.cell? ⟨v4.heap.size, 2, none⟩ = some (.int .i64 (1 + v)))
    (first | exact ⟨k1, k2, k3, k4, k5, k6, k7, hb4.drew, k8, k9, k10⟩ | go_keep | (go_split_ands; refine ⟨cell_later hb9 ?_, cell_later hb9 ?_, cell_later hb9 ?_, cell_later hb9 ?_, cell_later hb9 ?_, cell_later hb9 ?_, cell_later hb9 ?_, bt ?_ hb9, cell_later hb9 ?_, cell_later hb9 ?_, cell_later hb9 ?_⟩ <;> assumption))
    (first | (go_at_call 29; refine (scaled_any p (1 + v) y up IV.out hy _).mono ?_; rintro e v9 ⟨rfl, hb9⟩))
  have hCT : Ctx w w2.heap.size w1.heap.size p q c m c' m' v9 ∧ Three v4.heap.size x m' (1 + v) v9 := by
    unfold Ctx Three
    go_split_ands
    refine ⟨⟨?_, ?_, ?_, ?_, ?_, ?_, ?_, ?_⟩, ?_, ?_, ?_⟩ <;> assumption
  have HCX := Lib.hid hCT.1
  have HTX := Lib.hid hCT.2
  clear hCT hb9 k1 k2 k3 k4 k5 k6 k7 hb4 k8 k9 k10
  obtain ⟨k1, k2, k3, k4, k5, k6, k7, hb4⟩ := HCX.out
  obtain ⟨k8, k9, k10⟩ := HTX.out
  go_wp2_with fail
  clear k1 k2 k3 k4 k5 k6 k7 hb4 k8 k9 k10
  obtain ⟨k1, k2, k3, k4, k5, k6, k7, hb4⟩ := HCX.out
  obtain ⟨k8, k9, k10⟩ := HTX.out
  go_region_held3 (fun w' => w'.cell? ⟨w2.heap.size, 0, none⟩ = some (.int .u64 p) ∧ w'.cell? ⟨w2.heap.size, 1, none⟩ = some (.int .u64 q) ∧ w'.cell? ⟨w2.heap.size + 1, 0, none⟩ = some (.int .i64 c) ∧ w'.cell? ⟨w2.heap.size + 1, 1, none⟩ = some (.int .i64 m) ∧ w'.cell? ⟨w2.heap.size + 1, 2, none⟩ = some (.int .i64 c') ∧ w'.cell? ⟨w2.heap.size + 1, 3, none⟩ = some (.int .i64 m') ∧ w'.cell? ⟨w1.heap.size, 1, none⟩ = some (.int .i64 m') ∧ Below w.heap.size w w' ∧ w'.cell? ⟨v4.heap.size, 0, none⟩ = some (.int .i64 x) ∧ w'.cell? ⟨v4.heap.size, 1, none⟩ = some (.int .i64 m') ∧ w'.cell? ⟨v4.heap.size, 2, none⟩ = some (.int .i64 (1 + v)))
    (first | exact ⟨k1, k2, k3, k4, k5, k6, k7, hb4.drew, k8, k9, k10⟩ | go_keep | (go_split_ands; refine ⟨cell_later hb9 ?_, cell_later hb9 ?_, cell_later hb9 ?_, cell_later hb9 ?_, cell_later hb9 ?_, cell_later hb9 ?_, cell_later hb9 ?_, bt ?_ hb9, cell_later hb9 ?_, cell_later hb9 ?_, cell_later hb9 ?_⟩ <;> assumption))
    (first | (go_at_call 30; refine (refScaled_any p (1 + v) y up _).mono ?_; rintro e v10 ⟨rfl, hb9⟩))
  have hCT : Ctx w w2.heap.size w1.heap.size p q c m c' m' v10 ∧ Three v4.heap.size x m' (1 + v) v10 := by
    unfold Ctx Three
    go_split_ands
    refine ⟨⟨?_, ?_, ?_, ?_, ?_, ?_, ?_, ?_⟩, ?_, ?_, ?_⟩ <;> assumption
  have HCX := Lib.hid hCT.1
  have HTX := Lib.hid hCT.2
  clear hCT hb9 k1 k2 k3 k4 k5 k6 k7 hb4 k8 k9 k10
  obtain ⟨k1, k2, k3, k4, k5, k6, k7, hb4⟩ := HCX.out
  obtain ⟨k8, k9, k10⟩ := HTX.out
  go_wp2_with fail
  clear k1 k2 k3 k4 k5 k6 k7 hb4 k8 k9 k10
  rw [rounds_succ]
  obtain ⟨k1, k2, k3, k4, k5, k6, k7, hb4⟩ := HCX.out
  obtain ⟨k8, k9, k10⟩ := HTX.out
  go_wp2_with fail
  clear k1 k2 k3 k4 k5 k6 k7 hb4 k8 k9 k10
  rw [rounds_succ]
  clear HTX
  obtain ⟨k1, k2, k3, k4, k5, k6, k7, hb4⟩ := HCX.out
  go_wp2_with fail
  clear k1 k2 k3 k4 k5 k6 k7 hb4
  refine (gray_any q uq _).mono ?_
  rintro e v11 ⟨rfl, hbn⟩
  have HCX := Lib.hid (HCX.out.later hbn)
  clear hbn
  obtain ⟨k1, k2, k3, k4, k5, k6, k7, hb4⟩ := HCX.out
  go_wp2_with fail
  clear k1 k2 k3 k4 k5 k6 k7 hb4
  refine (refGray_any q uq _).mono ?_
  rintro e v12 ⟨rfl, hbn⟩
  have HCX := Lib.hid (HCX.out.later hbn)
  clear hbn
  obtain ⟨k1, k2, k3, k4, k5, k6, k7, hb4⟩ := HCX.out
  go_wp2_with fail
  clear k1 k2 k3 k4 k5 k6 k7 hb4
  obtain ⟨k1, k2, k3, k4, k5, k6, k7, hb4⟩ := HCX.out
  go_region_held3 (fun w' => w'.cell? ⟨w2.heap.size, 0, none⟩ = some (.int .u64 p) ∧ w'.cell? ⟨w2.heap.size, 1, none⟩ = some (.int .u64 q) ∧ w'.cell? ⟨w2.heap.size + 1, 0, none⟩ = some (.int .i64 c) ∧ w'.cell? ⟨w2.heap.size + 1, 1, none⟩ = some (.int .i64 m) ∧ w'.cell? ⟨w2.heap.size + 1, 2, none⟩ = some (.int .i64 c') ∧ w'.cell? ⟨w2.heap.size + 1, 3, none⟩ = some (.int .i64 m') ∧ w'.cell? ⟨w1.heap.size, 1, none⟩ = some (.int .i64 m') ∧ Below w.heap.size w w')
    (first | exact ⟨k1, k2, k3, k4, k5, k6, k7, hb4.drew⟩ | go_keep | (go_split_ands; refine ⟨cell_later hb9 ?_, cell_later hb9 ?_, cell_later hb9 ?_, cell_later hb9 ?_, cell_later hb9 ?_, cell_later hb9 ?_, cell_later hb9 ?_, bt ?_ hb9⟩ <;> assumption))
    (first | (go_at_call 27; refine (turned_any q _ _ uq _).mono ?_; rintro e v13 ⟨rfl, hb9⟩))
  have hC : Ctx w w2.heap.size w1.heap.size p q c m c' m' v13 := by unfold Ctx; assumption
  have HCX := Lib.hid hC
  clear hC hb9 k1 k2 k3 k4 k5 k6 k7 hb4
  obtain ⟨k1, k2, k3, k4, k5, k6, k7, hb4⟩ := HCX.out
  go_wp2_with fail
  clear k1 k2 k3 k4 k5 k6 k7 hb4
  obtain ⟨k1, k2, k3, k4, k5, k6, k7, hb4⟩ := HCX.out
  go_region_held3 (fun w' => w'.cell? ⟨w2.heap.size, 0, none⟩ = some (.int .u64 p) ∧ w'.cell? ⟨w2.heap.size, 1, none⟩ = some (.int .u64 q) ∧ w'.cell? ⟨w2.heap.size + 1, 0, none⟩ = some (.int .i64 c) ∧ w'.cell? ⟨w2.heap.size + 1, 1, none⟩ = some (.int .i64 m) ∧ w'.cell? ⟨w2.heap.size + 1, 2, none⟩ = some (.int .i64 c') ∧ w'.cell? ⟨w2.heap.size + 1, 3, none⟩ = some (.int .i64 m') ∧ w'.cell? ⟨w1.heap.size, 1, none⟩ = some (.int .i64 m') ∧ Below w.heap.size w w')
    (first | exact ⟨k1, k2, k3, k4, k5, k6, k7, hb4.drew⟩ | go_keep | (go_split_ands; refine ⟨cell_later hb9 ?_, cell_later hb9 ?_, cell_later hb9 ?_, cell_later hb9 ?_, cell_later hb9 ?_, cell_later hb9 ?_, cell_later hb9 ?_, bt ?_ hb9⟩ <;> assumption))
    (first | (go_at_call 28; refine (refTurned_any q _ _ uq _).mono ?_; rintro e v14 ⟨rfl, hb9⟩))
  have hC : Ctx w w2.heap.size w1.heap.size p q c m c' m' v14 := by unfold Ctx; assumption
  have HCX := Lib.hid hC
  clear hC hb9 k1 k2 k3 k4 k5 k6 k7 hb4
  obtain ⟨k1, k2, k3, k4, k5, k6, k7, hb4⟩ := HCX.out
  go_wp2_with fail
  clear k1 k2 k3 k4 k5 k6 k7 hb4
  obtain ⟨k1, k2, k3, k4, k5, k6, k7, hb4⟩ := HCX.out
  go_region_held3 (fun w' => w'.cell? ⟨w1.heap.size, 1, none⟩ = some (.int .i64 m')) (first | exact k7 | go_keep)
    (first | (go_at_call 13; refine (around_any _ _ hx (by omega) (by omega) _).mono ?_; rw [HV.out]; rintro e w9 ⟨rfl, rfl⟩))
  have hbx := ((Below.refl v14.heap.size v14).alloc (Nat.le_refl _) (.cells #[.int .i64 x, .int .i64 m', .int .i64 (1 + v)] 3)).drew
  have HCX := Lib.hid (HCX.out.later hbx)
  have HTX : Hid (Three v14.heap.size x m' (1 + v) (v14.alloc (.cells #[.int .i64 x, .int .i64 m', .int .i64 (1 + v)] 3)).drew) := Lib.hid ⟨by simp [go_sem], by simp [go_sem], by simp [go_sem]⟩
  clear hbx k1 k2 k3 k4 k5 k6 k7 hb4
  go_wp2_with fail
  refine wp_loop_rounds 4 ?_
  rw [rounds_succ]
  obtain ⟨k1, k2, k3, k4, k5, k6, k7, hb4⟩ := HCX.out
  obtain ⟨k8, k9, k10⟩ := HTX.out
  go_wp2_with fail
  clear k1 k2 k3 k4 k5 k6 k7 hb4 k8 k9 k10
  obtain ⟨k1, k2, k3, k4, k5, k6, k7, hb4⟩ := HCX.out
  obtain ⟨k8, k9, k10⟩ := HTX.out
  go_region_held3 (fun w' => w'.cell? ⟨w2.heap.size, 0, none⟩ = some (.int .u64 p) ∧ w'.cell? ⟨w2.heap.size, 1, none⟩ = some (.int .u64 q) ∧ w'.cell? ⟨w2.heap.size + 1, 0, none⟩ = some (.int .i64 c) ∧ w'.cell? ⟨w2.heap.size + 1, 1, none⟩ = some (.int .i64 m) ∧ w'.cell? ⟨w2.heap.size + 1, 2, none⟩ = some (.int .i64 c') ∧ w'.cell? ⟨w2.heap.size + 1, 3, none⟩ = some (.int .i64 m') ∧ w'.cell? ⟨w1.heap.size, 1, none⟩ = some (.int .i64 m') ∧ Below w.heap.size w w' ∧ w'.cell? ⟨v14.heap.size, 0, none⟩ = some (.int .i64 x) ∧ w'.cell? ⟨v14.heap.size, 1, none⟩ = some (.int .i64 m') ∧ w'.cell? ⟨v14.heap.size, 2, none⟩ = some (.int .i64 (1 + v)))
    (first | exact ⟨k1, k2, k3, k4, k5, k6, k7, hb4.drew, k8, k9, k10⟩ | go_keep | (go_split_ands; refine ⟨cell_later hb9 ?_, cell_later hb9 ?_, cell_later hb9 ?_, cell_later hb9 ?_, cell_later hb9 ?_, cell_later hb9 ?_, cell_later hb9 ?_, bt ?_ hb9, cell_later hb9 ?_, cell_later hb9 ?_, cell_later hb9 ?_⟩ <;> assumption))
    (first | (go_at_call 29; refine (scaled_any q x y uq hx hy _).mono ?_; rintro e v15 ⟨rfl, hb9⟩))
  have hCT : Ctx w w2.heap.size w1.heap.size p q c m c' m' v15 ∧ Three v14.heap.size x m' (1 + v) v15 := by
    unfold Ctx Three
    go_split_ands
    refine ⟨⟨?_, ?_, ?_, ?_, ?_, ?_, ?_, ?_⟩, ?_, ?_, ?_⟩ <;> assumption
  have HCX := Lib.hid hCT.1
  have HTX := Lib.hid hCT.2
  clear hCT hb9 k1 k2 k3 k4 k5 k6 k7 hb4 k8 k9 k10
  obtain ⟨k1, k2, k3, k4, k5, k6, k7, hb4⟩ := HCX.out
  obtain ⟨k8, k9, k10⟩ := HTX.out
  go_wp2_with fail
  clear k1 k2 k3 k4 k5 k6 k7 hb4 k8 k9 k10
  obtain ⟨k1, k2, k3, k4, k5, k6, k7, hb4⟩ := HCX.out
  obtain ⟨k8, k9, k10⟩ := HTX.out
  go_region_held3 (fun w' => w'.cell? ⟨w2.heap.size, 0, none⟩ = some (.int .u64 p) ∧ w'.cell? ⟨w2.heap.size, 1, none⟩ = some (.int .u64 q) ∧ w'.cell? ⟨w2.heap.size + 1, 0, none⟩ = some (.int .i64 c) ∧ w'.cell? ⟨w2.heap.size + 1, 1, none⟩ = some (.int .i64 m) ∧ w'.cell? ⟨w2.heap.size + 1, 2, none⟩ = some (.int .i64 c') ∧ w'.cell? ⟨w2.heap.size + 1, 3, none⟩ = some (.int .i64 m') ∧ w'.cell? ⟨w1.heap.size, 1, none⟩ = some (.int .i64 m') ∧ Below w.heap.size w w' ∧ w'.cell? ⟨v14.heap.size, 0, none⟩ = some (.int .i64 x) ∧ w'.cell? ⟨v14.heap.size, 1, none⟩ = some (.int .i64 m') ∧ w'.cell? ⟨v14.heap.size, 2, none⟩ = some (.int .i64 (1 + v)))
    (first | exact ⟨k1, k2, k3, k4, k5, k6, k7, hb4.drew, k8, k9, k10⟩ | go_keep | (go_split_ands; refine ⟨cell_later hb9 ?_, cell_later hb9 ?_, cell_later hb9 ?_, cell_later hb9 ?_, cell_later hb9 ?_, cell_later hb9 ?_, cell_later hb9 ?_, bt ?_ hb9, cell_later hb9 ?_, cell_later hb9 ?_, cell_later hb9 ?_⟩ <;> assumption))
    (first | (go_at_call 30; refine (refScaled_any q x y uq _).mono ?_; rintro e v16 ⟨rfl, hb9⟩))
  have hCT : Ctx w w2.heap.size w1.heap.size p q c m c' m' v16 ∧ Three v14.heap.size x m' (1 + v) v16 := by
    unfold Ctx Three
    go_split_ands
    refine ⟨⟨?_, ?_, ?_, ?_, ?_, ?_, ?_, ?_⟩, ?_, ?_, ?_⟩ <;> assumption
  have HCX := Lib.hid hCT.1
  have HTX := Lib.hid hCT.2
  clear hCT hb9 k1 k2 k3 k4 k5 k6 k7 hb4 k8 k9 k10
  obtain ⟨k1, k2, k3, k4, k5, k6, k7, hb4⟩ := HCX.out
  obtain ⟨k8, k9, k10⟩ := HTX.out
  go_wp2_with fail
  clear k1 k2 k3 k4 k5 k6 k7 hb4 k8 k9 k10
  rw [rounds_succ]
  obtain ⟨k1, k2, k3, k4, k5, k6, k7, hb4⟩ := HCX.out
  obtain ⟨k8, k9, k10⟩ := HTX.out
  go_wp2_with fail
  clear k1 k2 k3 k4 k5 k6 k7 hb4 k8 k9 k10
  obtain ⟨k1, k2, k3, k4, k5, k6, k7, hb4⟩ := HCX.out
  obtain ⟨k8, k9, k10⟩ := HTX.out
  go_region_held3 (fun w' => w'.cell? ⟨w2.heap.size, 0, none⟩ = some (.int .u64 p) ∧ w'.cell? ⟨w2.heap.size, 1, none⟩ = some (.int .u64 q) ∧ w'.cell? ⟨w2.heap.size + 1, 0, none⟩ = some (.int .i64 c) ∧ w'.cell? ⟨w2.heap.size + 1, 1, none⟩ = some (.int .i64 m) ∧ w'.cell? ⟨w2.heap.size + 1, 2, none⟩ = some (.int .i64 c') ∧ w'.cell? ⟨w2.heap.size + 1, 3, none⟩ = some (.int .i64 m') ∧ w'.cell? ⟨w1.heap.size, 1, none⟩ = some (.int .i64 m') ∧ Below w.heap.size w w' ∧ w'.cell? ⟨v14.heap.size, 0, none⟩ = some (.int .i64 x) ∧ w'.cell? ⟨v14.heap.size, 1, none⟩ = some (.int .i64 m') ∧ w'.cell? ⟨v14.heap.size, 2, none⟩ = some (.int .i64 (1 + v)))
    (first | exact ⟨k1, k2, k3, k4, k5, k6, k7, hb4.drew, k8, k9, k10⟩ | go_keep | (go_split_ands; refine ⟨cell_later hb9 ?_, cell_later hb9 ?_, cell_later hb9 ?_, cell_later hb9 ?_, cell_later hb9 ?_, cell_later hb9 ?_, cell_later hb9 ?_, bt ?_ hb9, cell_later hb9 ?_, cell_later hb9 ?_, cell_later hb9 ?_⟩ <;> assumption))
    (first | (go_at_call 29; refine (scaled_any q m' y uq IM.out hy _).mono ?_; rintro e v17 ⟨rfl, hb9⟩))
  have hCT : Ctx w w2.heap.size w1.heap.size p q c m c' m' v17 ∧ Three v14.heap.size x m' (1 + v) v17 := by
    unfold Ctx Three
    go_split_ands
    refine ⟨⟨?_, ?_, ?_, ?_, ?_, ?_, ?_, ?_⟩, ?_, ?_, ?_⟩ <;> assumption
  have HCX := Lib.hid hCT.1
  have HTX := Lib.hid hCT.2
  clear hCT hb9 k1 k2 k3 k4 k5 k6 k7 hb4 k8 k9 k10
  obtain ⟨k1, k2, k3, k4, k5, k6, k7, hb4⟩ := HCX.out
  obtain ⟨k8, k9, k10⟩ := HTX.out
  go_wp2_with fail
  clear k1 k2 k3 k4 k5 k6 k7 hb4 k8 k9 k10
  obtain ⟨k1, k2, k3, k4, k5, k6, k7, hb4⟩ := HCX.out
  obtain ⟨k8, k9, k10⟩ := HTX.out
  go_region_held3 (fun w' => w'.cell? ⟨w2.heap.size, 0, none⟩ = some (.int .u64 p) ∧ w'.cell? ⟨w2.heap.size, 1, none⟩ = some (.int .u64 q) ∧ w'.cell? ⟨w2.heap.size + 1, 0, none⟩ = some (.int .i64 c) ∧ w'.cell? ⟨w2.heap.size + 1, 1, none⟩ = some (.int .i64 m) ∧ w'.cell? ⟨w2.heap.size + 1, 2, none⟩ = some (.int .i64 c') ∧ w'.cell? ⟨w2.heap.size + 1, 3, none⟩ = some (.int .i64 m') ∧ w'.cell? ⟨w1.heap.size, 1, none⟩ = some (.int .i64 m') ∧ Below w.heap.size w w' ∧ w'.cell? ⟨v14.heap.size, 0, none⟩ = some (.int .i64 x) ∧ w'.cell? ⟨v14.heap.size, 1, none⟩ = some (.int .i64 m') ∧ w'.cell? ⟨v14.heap.size, 2, none⟩ = some (.int .i64 (1 + v)))
    (first | exact ⟨k1, k2, k3, k4, k5, k6, k7, hb4.drew, k8, k9, k10⟩ | go_keep | (go_split_ands; refine ⟨cell_later hb9 ?_, cell_later hb9 ?_, cell_later hb9 ?_, cell_later hb9 ?_, cell_later hb9 ?_, cell_later hb9 ?_, cell_later hb9 ?_, bt ?_ hb9, cell_later hb9 ?_, cell_later hb9 ?_, cell_later hb9 ?_⟩ <;> assumption))
    (first | (go_at_call 30; refine (refScaled_any q m' y uq _).mono ?_; rintro e v18 ⟨rfl, hb9⟩))
  have hCT : Ctx w w2.heap.size w1.heap.size p q c m c' m' v18 ∧ Three v14.heap.size x m' (1 + v) v18 := by
    unfold Ctx Three
    go_split_ands
    refine ⟨⟨?_, ?_, ?_, ?_, ?_, ?_, ?_, ?_⟩, ?_, ?_, ?_⟩ <;> assumption
  have HCX := Lib.hid hCT.1
  have HTX := Lib.hid hCT.2
  clear hCT hb9 k1 k2 k3 k4 k5 k6 k7 hb4 k8 k9 k10
  obtain ⟨k1, k2, k3, k4, k5, k6, k7, hb4⟩ := HCX.out
  obtain ⟨k8, k9, k10⟩ := HTX.out
  go_wp2_with fail
  clear k1 k2 k3 k4 k5 k6 k7 hb4 k8 k9 k10
  rw [rounds_succ]
  obtain ⟨k1, k2, k3, k4, k5, k6, k7, hb4⟩ := HCX.out
  obtain ⟨k8, k9, k10⟩ := HTX.out
  go_wp2_with fail
  clear k1 k2 k3 k4 k5 k6 k7 hb4 k8 k9 k10
  obtain ⟨k1, k2, k3, k4, k5, k6, k7, hb4⟩ := HCX.out
  obtain ⟨k8, k9, k10⟩ := HTX.out
  go_region_held3 (fun w' => w'.cell? ⟨w2.heap.size, 0, none⟩ = some (.int .u64 p) ∧ w'.cell? ⟨w2.heap.size, 1, none⟩ = some (.int .u64 q) ∧ w'.cell? ⟨w2.heap.size + 1, 0, none⟩ = some (.int .i64 c) ∧ w'.cell? ⟨w2.heap.size + 1, 1, none⟩ = some (.int .i64 m) ∧ w'.cell? ⟨w2.heap.size + 1, 2, none⟩ = some (.int .i64 c') ∧ w'.cell? ⟨w2.heap.size + 1, 3, none⟩ = some (.int .i64 m') ∧ w'.cell? ⟨w1.heap.size, 1, none⟩ = some (.int .i64 m') ∧ Below w.heap.size w w' ∧ w'.cell? ⟨v14.heap.size, 0, none⟩ = some (.int .i64 x) ∧ w'.cell? ⟨v14.heap.size, 1, none⟩ = some (.int .i64 m') ∧ w'.cell? ⟨v14.heap.size, 2, none⟩ = some (.int .i64 (1 + v)))
    (first | exact ⟨k1, k2, k3, k4, k5, k6, k7, hb4.drew, k8, k9, k10⟩ | go_keep | (go_split_ands; refine ⟨cell_later hb9 ?_, cell_later hb9 ?_, cell_later hb9 ?_, cell_later hb9 ?_, cell_later hb9 ?_, cell_later hb9 ?_, cell_later hb9 ?_, bt ?_ hb9, cell_later hb9 ?_, cell_later hb9 ?_, cell_later hb9 ?_⟩ <;> assumption))
    (first | (go_at_call 29; refine (scaled_any q (1 + v) y uq IV.out hy _).mono ?_; rintro e v19 ⟨rfl, hb9⟩))
  have hCT : Ctx w w2.heap.size w1.heap.size p q c m c' m' v19 ∧ Three v14.heap.size x m' (1 + v) v19 := by
    unfold Ctx Three
    go_split_ands
    refine ⟨⟨?_, ?_, ?_, ?_, ?_, ?_, ?_, ?_⟩, ?_, ?_, ?_⟩ <;> assumption
  have HCX := Lib.hid hCT.1
  have HTX := Lib.hid hCT.2
  clear hCT hb9 k1 k2 k3 k4 k5 k6 k7 hb4 k8 k9 k10
  obtain ⟨k1, k2, k3, k4, k5, k6, k7, hb4⟩ := HCX.out
  obtain ⟨k8, k9, k10⟩ := HTX.out
  go_wp2_with fail
  clear k1 k2 k3 k4 k5 k6 k7 hb4 k8 k9 k10
  obtain ⟨k1, k2, k3, k4, k5, k6, k7, hb4⟩ := HCX.out
  obtain ⟨k8, k9, k10⟩ := HTX.out
  go_region_held3 (fun w' => w'.cell? ⟨w2.heap.size, 0, none⟩ = some (.int .u64 p) ∧ w'.cell? ⟨w2.heap.size, 1, none⟩ = some (.int .u64 q) ∧ w'.cell? ⟨w2.heap.size + 1, 0, none⟩ = some (.int .i64 c) ∧ w'.cell? ⟨w2.heap.size + 1, 1, none⟩ = some (.int .i64 m) ∧ w'.cell? ⟨w2.heap.size + 1, 2, none⟩ = some (.int .i64 c') ∧ w'.cell? ⟨w2.heap.size + 1, 3, none⟩ = some (.int .i64 m') ∧ w'.cell? ⟨w1.heap.size, 1, none⟩ = some (.int .i64 m') ∧ Below w.heap.size w w' ∧ w'.cell? ⟨v14.heap.size, 0, none⟩ = some (.int .i64 x) ∧ w'.cell? ⟨v14.heap.size, 1, none⟩ = some (.int .i64 m') ∧ w'.cell? ⟨v14.heap.size, 2, none⟩ = some (.int .i64 (1 + v)))
    (first | exact ⟨k1, k2, k3, k4, k5, k6, k7, hb4.drew, k8, k9, k10⟩ | go_keep | (go_split_ands; refine ⟨cell_later hb9 ?_, cell_later hb9 ?_, cell_later hb9 ?_, cell_later hb9 ?_, cell_later hb9 ?_, cell_later hb9 ?_, cell_later hb9 ?_, bt ?_ hb9, cell_later hb9 ?_, cell_later hb9 ?_, cell_later hb9 ?_⟩ <;> assumption))
    (first | (go_at_call 30; refine (refScaled_any q (1 + v) y uq _).mono ?_; rintro e v20 ⟨rfl, hb9⟩))
  have hCT : Ctx w w2.heap.size w1.heap.size p q c m c' m' v20 ∧ Three v14.heap.size x m' (1 + v) v20 := by
    unfold Ctx Three
    go_split_ands
    refine ⟨⟨?_, ?_, ?_, ?_, ?_, ?_, ?_, ?_⟩, ?_, ?_, ?_⟩ <;> assumption
  have HCX := Lib.hid hCT.1
  have HTX := Lib.hid hCT.2
  clear hCT hb9 k1 k2 k3 k4 k5 k6 k7 hb4 k8 k9 k10
  obtain ⟨k1, k2, k3, k4, k5, k6, k7, hb4⟩ := HCX.out
  obtain ⟨k8, k9, k10⟩ := HTX.out
  go_wp2_with fail
  clear k1 k2 k3 k4 k5 k6 k7 hb4 k8 k9 k10
  rw [rounds_succ]
  obtain ⟨k1, k2, k3, k4, k5, k6, k7, hb4⟩ := HCX.out
  obtain ⟨k8, k9, k10⟩ := HTX.out
  go_wp2_with fail
  clear k1 k2 k3 k4 k5 k6 k7 hb4 k8 k9 k10
  rw [rounds_succ]
  clear HTX
  obtain ⟨k1, k2, k3, k4, k5, k6, k7, hb4⟩ := HCX.out
  go_wp2_with fail
  clear k1 k2 k3 k4 k5 k6 k7 hb4
  refine (lives_any _).mono ?_
  rintro e w9 ⟨rfl, hbn⟩
  obtain ⟨k1, k2, k3, k4, k5, k6, k7, hb4⟩ := HCX.out
  have hb5 := bt hb4 hbn
  clear hbn k1 k2 k3 k4 k5 k6 k7 hb4
  go_wp2_with fail
  go_ret
  exact ⟨rfl, hb5⟩
end Go.Proofs.Ytdlmcdeddlccpaa
