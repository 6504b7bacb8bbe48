/- PixRow: pixels are the same just if they have the same samples; their row is an order: the walk of the law. No condition. -/
import Derived.Test.YtdlmcdeddlccpaaPixQ
namespace Go.Proofs.Ytdlmcdeddlccpaa
open Go.RowKit
set_option linter.unusedVariables false

theorem smp_inj {p q c m : Int} (hp : GoodP p c m) (hq : GoodP q c m) (h : Px.smp p = Px.smp q) : p = q := by
  rcases hp with ⟨rfl, a, b, d, h1, -⟩ | ⟨rfl, a, h1, -⟩
  · rcases hq with ⟨_, a', b', d', h2, -⟩ | ⟨h2, _⟩
    · rw [Px.smp3 h1, Px.smp3 h2] at h
      simp at h
      obtain ⟨rfl, rfl, rfl⟩ := h
      rw [h1.1, h2.1]
    · cases h2
  · rcases hq with ⟨h2, _⟩ | ⟨_, a', h2, -⟩
    · cases h2
    · rw [Px.smp1 h1, Px.smp1 h2] at h
      simp at h
      rw [h1.1, h2.1, h]
theorem cmp_lt {x y : Int} (h : x < y) : cmpV x y = -1 := by unfold cmpV; rw [if_pos h]
theorem cmp_gt {x y : Int} (h : y < x) : cmpV x y = 1 := by unfold cmpV; rw [if_neg (by omega), if_neg (by omega)]
theorem cmp_eq (x : Int) : cmpV x x = 0 := by unfold cmpV; rw [if_neg (by omega), if_pos rfl]

theorem smp_len (p : Int) : (Px.smp p).length ≤ 3 := by
  unfold Px.smp; split <;> (try split) <;> simp

set_option maxRecDepth 100000 in
set_option maxHeartbeats 4000000 in
theorem pixRow_walk (a0 : Option Addr) (len0 cap0 : Nat) (z0 : List Int) (a1 : Option Addr) (len1 cap1 : Nat) (z1 : List Int) (a2 : Option Addr) (len2 cap2 : Nat) (z2 : List Int) (c m : Int) (w : World) (w0 : IsRow .i64 w a0 len0 cap0 z0) (w1 : IsRow .i64 w a1 len1 cap1 z1) (w2 : IsRow .i64 w a2 len2 cap2 z2) (w30 : (Lit.int .i64 c).wf = true) (w31 : (Lit.int .i64 m).wf = true) :
    Calls Try.prog 7 #[.slice a0 len0 cap0, .slice a1 len1 cap1, .slice a2 len2 cap2, .agg #[.int .i64 c, .int .i64 m]] w fun e w' => e = .returned (.bool true) ∧ Below w.heap.size w w' := by
  have hc := wf_i w30
  have hm := wf_i w31
  have hl0 := (isrow_len w0).1
  have hs0 := isrow_take w0 len0 (Nat.le_refl _)
  have hwf0 : ∀ z ∈ z0.take len0, Px.I z := fun z hz => isrow_wf w0 z (List.mem_of_mem_take hz)
  generalize z0.take len0 = l at hs0 hwf0
  have hl1 := (isrow_len w1).1
  have hs1 := isrow_take w1 len1 (Nat.le_refl _)
  have hwf1 : ∀ z ∈ z1.take len1, Px.I z := fun z hz => isrow_wf w1 z (List.mem_of_mem_take hz)
  generalize z1.take len1 = k at hs1 hwf1
  have hl2 := (isrow_len w2).1
  have hs2 := isrow_take w2 len2 (Nat.le_refl _)
  have hwf2 : ∀ z ∈ z2.take len2, Px.I z := fun z hz => isrow_wf w2 z (List.mem_of_mem_take hz)
  generalize z2.take len2 = j at hs2 hwf2
  clear w30 w31 w0 w1 w2
  obtain ⟨m0, m1⟩ := formM_in m
  have hcc := formC_in c
  obtain ⟨c', hc'⟩ : ∃ c', Px.formC c = c' := ⟨_, rfl⟩
  obtain ⟨m', hm'⟩ : ∃ m', Px.formM m = m' := ⟨_, rfl⟩
  rw [hm'] at m0 m1
  rw [hc'] at hcc
  have HC := Lib.hid hc'; clear hc'
  have HM := Lib.hid hm'; clear hm'
  have HCC := Lib.hid hcc; clear hcc
  have gx := good_is l HCC.out (by omega) m1
  obtain ⟨x, hx⟩ : ∃ p, Px.goodV l c' m' = p := ⟨_, rfl⟩
  rw [hx] at gx
  have Hx := Lib.hid hx; clear hx
  have gy := good_is k HCC.out (by omega) m1
  obtain ⟨y, hy⟩ : ∃ p, Px.goodV k c' m' = p := ⟨_, rfl⟩
  rw [hy] at gy
  have Hy := Lib.hid hy; clear hy
  have gz := good_is j HCC.out (by omega) m1
  obtain ⟨z, hz⟩ : ∃ p, Px.goodV j c' m' = p := ⟨_, rfl⟩
  rw [hz] at gz
  have Hz := Lib.hid hz; clear hz
  have ux := goodU gx
  have uy := goodU gy
  have lx := smp_len x
  have ly := smp_len y
  have INJ := Lib.hid (smp_inj gx gy)
  clear gx gy gz
  by_cases k1 : x < y
  · have SM := Lib.hid (show decide (Px.smp x = Px.smp y) = false by rw [decide_eq_false_iff_not]; intro h; have := INJ.out h; omega)
    have C1 := Lib.hid (cmp_lt k1)
    have C2 := Lib.hid (cmp_gt k1)
    by_cases k2 : z < y
    · have C3 := Lib.hid (cmp_gt k2)
      go_enter Try.func7, Try.ntmps7
      go_wp2_with fail
      refine (form_any c m hc hm _).mono ?_
      rw [HC.out, HM.out]
      rintro e w1 ⟨rfl, hb1⟩
      have hb4 := box_below w _ _ hb1
      clear hb1
      have hs0 := hs0.below hb4
      have hs1 := hs1.below hb4
      have hs2 := hs2.below hb4
      go_wp2_with fail
      have hx := (Below.refl w1.heap.size w1).alloc (Nat.le_refl _) (.cells #[.int .i64 c', .int .i64 m'] 36)
      have hs1 := hs1.below hx
      have hs2 := hs2.below hx
      refine (good_sl _ _ _ l _ _ hl0 hwf0 HCC.out (by omega) m1 _ (hs0.below hx)).mono ?_
      rw [Hx.out]
      rintro e w2 ⟨rfl, hbn⟩
      have d0 : w2.cell? ⟨w1.heap.size, 0, none⟩ = some (.int .i64 c') := cell_later hbn (by simp [go_sem])
      have d1 : w2.cell? ⟨w1.heap.size, 1, none⟩ = some (.int .i64 m') := cell_later hbn (by simp [go_sem])
      have hb4 := bt (bt hb4 hx) hbn
      have hs1 := hs1.below hbn
      have hs2 := hs2.below hbn
      clear hbn hx hs0
      go_wp2_with fail
      refine (good_sl _ _ _ k _ _ hl1 hwf1 HCC.out (by omega) m1 _ hs1).mono ?_
      rw [Hy.out]
      rintro e w3 ⟨rfl, hbn⟩
      have d0 := cell_later hbn d0
      have d1 := cell_later hbn d1
      have hb4 := bt hb4 hbn
      have hs2 := hs2.below hbn
      clear hbn hs1
      go_wp2_with fail
      refine (good_sl _ _ _ j _ _ hl2 hwf2 HCC.out (by omega) m1 _ hs2).mono ?_
      rw [Hz.out]
      rintro e w4 ⟨rfl, hbn⟩
      have hb4 := bt hb4 hbn
      clear hbn hs2 d0 d1
      go_wp2_with fail
      refine (compare_any x y _).mono ?_
      rw [C1.out]
      rintro e w5 ⟨rfl, rfl⟩
      go_wp2_with fail
      refine (unpack_any x ux _).mono ?_
      rintro e w5 ⟨ad5, cap5, rfl, ho5, hbn⟩
      have hs5 := ho5.sl
      have hb4 := bt hb4 hbn
      clear hbn ho5
      go_wp2_with fail
      refine (unpack_any y uy _).mono ?_
      rintro e w6 ⟨ad6, cap6, rfl, ho6, hbn⟩
      have hs5 := hs5.below hbn
      have hs6 := ho6.sl
      have hb4 := bt hb4 hbn
      clear hbn ho6
      go_wp2_with fail
      refine (same_any _ _ _ _ _ _ (Px.smp x) (Px.smp y) _ (by omega) hs5 hs6).mono ?_
      rw [SM.out]
      rintro e w7 ⟨rfl, hbn⟩
      have hb4 := bt hb4 hbn
      clear hbn hs5 hs6
      go_wp2_with fail
      refine (compare_any y x _).mono ?_
      rw [C2.out]
      rintro e w8 ⟨rfl, rfl⟩
      go_wp2_with fail
      refine (compare_any y z _).mono ?_
      rw [C3.out]
      rintro e w8 ⟨rfl, rfl⟩
      go_wp2_with fail
      refine (lives_any _).mono ?_
      rintro e w9 ⟨rfl, hbn⟩
      have hb4 := bt hb4 hbn
      clear hbn
      go_wp2_with fail
      go_ret
      exact ⟨rfl, hb4⟩
    · have k3 : x < z := by omega
      have C4 := Lib.hid (cmp_lt k3)
      by_cases k4 : y < z
      · have C3 := Lib.hid (cmp_lt k4)
        go_enter Try.func7, Try.ntmps7
        go_wp2_with fail
        refine (form_any c m hc hm _).mono ?_
        rw [HC.out, HM.out]
        rintro e w1 ⟨rfl, hb1⟩
        have hb4 := box_below w _ _ hb1
        clear hb1
        have hs0 := hs0.below hb4
        have hs1 := hs1.below hb4
        have hs2 := hs2.below hb4
        go_wp2_with fail
        have hx := (Below.refl w1.heap.size w1).alloc (Nat.le_refl _) (.cells #[.int .i64 c', .int .i64 m'] 36)
        have hs1 := hs1.below hx
        have hs2 := hs2.below hx
        refine (good_sl _ _ _ l _ _ hl0 hwf0 HCC.out (by omega) m1 _ (hs0.below hx)).mono ?_
        rw [Hx.out]
        rintro e w2 ⟨rfl, hbn⟩
        have d0 : w2.cell? ⟨w1.heap.size, 0, none⟩ = some (.int .i64 c') := cell_later hbn (by simp [go_sem])
        have d1 : w2.cell? ⟨w1.heap.size, 1, none⟩ = some (.int .i64 m') := cell_later hbn (by simp [go_sem])
        have hb4 := bt (bt hb4 hx) hbn
        have hs1 := hs1.below hbn
        have hs2 := hs2.below hbn
        clear hbn hx hs0
        go_wp2_with fail
        refine (good_sl _ _ _ k _ _ hl1 hwf1 HCC.out (by omega) m1 _ hs1).mono ?_
        rw [Hy.out]
        rintro e w3 ⟨rfl, hbn⟩
        have d0 := cell_later hbn d0
        have d1 := cell_later hbn d1
        have hb4 := bt hb4 hbn
        have hs2 := hs2.below hbn
        clear hbn hs1
        go_wp2_with fail
        refine (good_sl _ _ _ j _ _ hl2 hwf2 HCC.out (by omega) m1 _ hs2).mono ?_
        rw [Hz.out]
        rintro e w4 ⟨rfl, hbn⟩
        have hb4 := bt hb4 hbn
        clear hbn hs2 d0 d1
        go_wp2_with fail
        refine (compare_any x y _).mono ?_
        rw [C1.out]
        rintro e w5 ⟨rfl, rfl⟩
        go_wp2_with fail
        refine (unpack_any x ux _).mono ?_
        rintro e w5 ⟨ad5, cap5, rfl, ho5, hbn⟩
        have hs5 := ho5.sl
        have hb4 := bt hb4 hbn
        clear hbn ho5
        go_wp2_with fail
        refine (unpack_any y uy _).mono ?_
        rintro e w6 ⟨ad6, cap6, rfl, ho6, hbn⟩
        have hs5 := hs5.below hbn
        have hs6 := ho6.sl
        have hb4 := bt hb4 hbn
        clear hbn ho6
        go_wp2_with fail
        refine (same_any _ _ _ _ _ _ (Px.smp x) (Px.smp y) _ (by omega) hs5 hs6).mono ?_
        rw [SM.out]
        rintro e w7 ⟨rfl, hbn⟩
        have hb4 := bt hb4 hbn
        clear hbn hs5 hs6
        go_wp2_with fail
        refine (compare_any y x _).mono ?_
        rw [C2.out]
        rintro e w8 ⟨rfl, rfl⟩
        go_wp2_with fail
        refine (compare_any y z _).mono ?_
        rw [C3.out]
        rintro e w8 ⟨rfl, rfl⟩
        go_wp2_with fail
        refine (compare_any x z _).mono ?_
        rw [C4.out]
        rintro e w8 ⟨rfl, rfl⟩
        go_wp2_with fail
        refine (lives_any _).mono ?_
        rintro e w9 ⟨rfl, hbn⟩
        have hb4 := bt hb4 hbn
        clear hbn
        go_wp2_with fail
        go_ret
        exact ⟨rfl, hb4⟩
      · obtain rfl : y = z := by omega
        have C3 := Lib.hid (cmp_eq y)
        go_enter Try.func7, Try.ntmps7
        go_wp2_with fail
        refine (form_any c m hc hm _).mono ?_
        rw [HC.out, HM.out]
        rintro e w1 ⟨rfl, hb1⟩
        have hb4 := box_below w _ _ hb1
        clear hb1
        have hs0 := hs0.below hb4
        have hs1 := hs1.below hb4
        have hs2 := hs2.below hb4
        go_wp2_with fail
        have hx := (Below.refl w1.heap.size w1).alloc (Nat.le_refl _) (.cells #[.int .i64 c', .int .i64 m'] 36)
        have hs1 := hs1.below hx
        have hs2 := hs2.below hx
        refine (good_sl _ _ _ l _ _ hl0 hwf0 HCC.out (by omega) m1 _ (hs0.below hx)).mono ?_
        rw [Hx.out]
        rintro e w2 ⟨rfl, hbn⟩
        have d0 : w2.cell? ⟨w1.heap.size, 0, none⟩ = some (.int .i64 c') := cell_later hbn (by simp [go_sem])
        have d1 : w2.cell? ⟨w1.heap.size, 1, none⟩ = some (.int .i64 m') := cell_later hbn (by simp [go_sem])
        have hb4 := bt (bt hb4 hx) hbn
        have hs1 := hs1.below hbn
        have hs2 := hs2.below hbn
        clear hbn hx hs0
        go_wp2_with fail
        refine (good_sl _ _ _ k _ _ hl1 hwf1 HCC.out (by omega) m1 _ hs1).mono ?_
        rw [Hy.out]
        rintro e w3 ⟨rfl, hbn⟩
        have d0 := cell_later hbn d0
        have d1 := cell_later hbn d1
        have hb4 := bt hb4 hbn
        have hs2 := hs2.below hbn
        clear hbn hs1
        go_wp2_with fail
        refine (good_sl _ _ _ j _ _ hl2 hwf2 HCC.out (by omega) m1 _ hs2).mono ?_
        rw [Hz.out]
        rintro e w4 ⟨rfl, hbn⟩
        have hb4 := bt hb4 hbn
        clear hbn hs2 d0 d1
        go_wp2_with fail
        refine (compare_any x y _).mono ?_
        rw [C1.out]
        rintro e w5 ⟨rfl, rfl⟩
        go_wp2_with fail
        refine (unpack_any x ux _).mono ?_
        rintro e w5 ⟨ad5, cap5, rfl, ho5, hbn⟩
        have hs5 := ho5.sl
        have hb4 := bt hb4 hbn
        clear hbn ho5
        go_wp2_with fail
        refine (unpack_any y uy _).mono ?_
        rintro e w6 ⟨ad6, cap6, rfl, ho6, hbn⟩
        have hs5 := hs5.below hbn
        have hs6 := ho6.sl
        have hb4 := bt hb4 hbn
        clear hbn ho6
        go_wp2_with fail
        refine (same_any _ _ _ _ _ _ (Px.smp x) (Px.smp y) _ (by omega) hs5 hs6).mono ?_
        rw [SM.out]
        rintro e w7 ⟨rfl, hbn⟩
        have hb4 := bt hb4 hbn
        clear hbn hs5 hs6
        go_wp2_with fail
        refine (compare_any y x _).mono ?_
        rw [C2.out]
        rintro e w8 ⟨rfl, rfl⟩
        go_wp2_with fail
        refine (compare_any y y _).mono ?_
        rw [C3.out]
        rintro e w8 ⟨rfl, rfl⟩
        go_wp2_with fail
        refine (compare_any x y _).mono ?_
        rw [C1.out]
        rintro e w8 ⟨rfl, rfl⟩
        go_wp2_with fail
        refine (lives_any _).mono ?_
        rintro e w9 ⟨rfl, hbn⟩
        have hb4 := bt hb4 hbn
        clear hbn
        go_wp2_with fail
        go_ret
        exact ⟨rfl, hb4⟩
  · by_cases k2 : y < x
    · have SM := Lib.hid (show decide (Px.smp x = Px.smp y) = false by rw [decide_eq_false_iff_not]; intro h; have := INJ.out h; omega)
      have C1 := Lib.hid (cmp_gt k2)
      have C2 := Lib.hid (cmp_lt k2)
      have kk : decide (x < y) = false := decide_eq_false k1
      clear k1
      go_enter Try.func7, Try.ntmps7
      go_wp2_with fail
      refine (form_any c m hc hm _).mono ?_
      rw [HC.out, HM.out]
      rintro e w1 ⟨rfl, hb1⟩
      have hb4 := box_below w _ _ hb1
      clear hb1
      have hs0 := hs0.below hb4
      have hs1 := hs1.below hb4
      have hs2 := hs2.below hb4
      go_wp2_with fail
      have hx := (Below.refl w1.heap.size w1).alloc (Nat.le_refl _) (.cells #[.int .i64 c', .int .i64 m'] 36)
      have hs1 := hs1.below hx
      have hs2 := hs2.below hx
      refine (good_sl _ _ _ l _ _ hl0 hwf0 HCC.out (by omega) m1 _ (hs0.below hx)).mono ?_
      rw [Hx.out]
      rintro e w2 ⟨rfl, hbn⟩
      have d0 : w2.cell? ⟨w1.heap.size, 0, none⟩ = some (.int .i64 c') := cell_later hbn (by simp [go_sem])
      have d1 : w2.cell? ⟨w1.heap.size, 1, none⟩ = some (.int .i64 m') := cell_later hbn (by simp [go_sem])
      have hb4 := bt (bt hb4 hx) hbn
      have hs1 := hs1.below hbn
      have hs2 := hs2.below hbn
      clear hbn hx hs0
      go_wp2_with fail
      refine (good_sl _ _ _ k _ _ hl1 hwf1 HCC.out (by omega) m1 _ hs1).mono ?_
      rw [Hy.out]
      rintro e w3 ⟨rfl, hbn⟩
      have d0 := cell_later hbn d0
      have d1 := cell_later hbn d1
      have hb4 := bt hb4 hbn
      have hs2 := hs2.below hbn
      clear hbn hs1
      go_wp2_with fail
      refine (good_sl _ _ _ j _ _ hl2 hwf2 HCC.out (by omega) m1 _ hs2).mono ?_
      rw [Hz.out]
      rintro e w4 ⟨rfl, hbn⟩
      have hb4 := bt hb4 hbn
      clear hbn hs2 d0 d1
      go_wp2_with fail
      refine (compare_any x y _).mono ?_
      rw [C1.out]
      rintro e w5 ⟨rfl, rfl⟩
      go_wp2_with fail
      refine (unpack_any x ux _).mono ?_
      rintro e w5 ⟨ad5, cap5, rfl, ho5, hbn⟩
      have hs5 := ho5.sl
      have hb4 := bt hb4 hbn
      clear hbn ho5
      go_wp2_with fail
      refine (unpack_any y uy _).mono ?_
      rintro e w6 ⟨ad6, cap6, rfl, ho6, hbn⟩
      have hs5 := hs5.below hbn
      have hs6 := ho6.sl
      have hb4 := bt hb4 hbn
      clear hbn ho6
      go_wp2_with fail
      refine (same_any _ _ _ _ _ _ (Px.smp x) (Px.smp y) _ (by omega) hs5 hs6).mono ?_
      rw [SM.out]
      rintro e w7 ⟨rfl, hbn⟩
      have hb4 := bt hb4 hbn
      clear hbn hs5 hs6
      go_wp2_with fail
      refine (compare_any y x _).mono ?_
      rw [C2.out]
      rintro e w8 ⟨rfl, rfl⟩
      go_wp2_with fail
      refine (lives_any _).mono ?_
      rintro e w9 ⟨rfl, hbn⟩
      have hb4 := bt hb4 hbn
      clear hbn
      go_wp2_with fail
      go_ret
      exact ⟨rfl, hb4⟩
    · obtain rfl : x = y := by omega
      have C1 := Lib.hid (cmp_eq x)
      by_cases k3 : z < x
      · have C3 := Lib.hid (cmp_gt k3)
        go_enter Try.func7, Try.ntmps7
        go_wp2_with fail
        refine (form_any c m hc hm _).mono ?_
        rw [HC.out, HM.out]
        rintro e w1 ⟨rfl, hb1⟩
        have hb4 := box_below w _ _ hb1
        clear hb1
        have hs0 := hs0.below hb4
        have hs1 := hs1.below hb4
        have hs2 := hs2.below hb4
        go_wp2_with fail
        have hx := (Below.refl w1.heap.size w1).alloc (Nat.le_refl _) (.cells #[.int .i64 c', .int .i64 m'] 36)
        have hs1 := hs1.below hx
        have hs2 := hs2.below hx
        refine (good_sl _ _ _ l _ _ hl0 hwf0 HCC.out (by omega) m1 _ (hs0.below hx)).mono ?_
        rw [Hx.out]
        rintro e w2 ⟨rfl, hbn⟩
        have d0 : w2.cell? ⟨w1.heap.size, 0, none⟩ = some (.int .i64 c') := cell_later hbn (by simp [go_sem])
        have d1 : w2.cell? ⟨w1.heap.size, 1, none⟩ = some (.int .i64 m') := cell_later hbn (by simp [go_sem])
        have hb4 := bt (bt hb4 hx) hbn
        have hs1 := hs1.below hbn
        have hs2 := hs2.below hbn
        clear hbn hx hs0
        go_wp2_with fail
        refine (good_sl _ _ _ k _ _ hl1 hwf1 HCC.out (by omega) m1 _ hs1).mono ?_
        rw [Hy.out]
        rintro e w3 ⟨rfl, hbn⟩
        have d0 := cell_later hbn d0
        have d1 := cell_later hbn d1
        have hb4 := bt hb4 hbn
        have hs2 := hs2.below hbn
        clear hbn hs1
        go_wp2_with fail
        refine (good_sl _ _ _ j _ _ hl2 hwf2 HCC.out (by omega) m1 _ hs2).mono ?_
        rw [Hz.out]
        rintro e w4 ⟨rfl, hbn⟩
        have hb4 := bt hb4 hbn
        clear hbn hs2 d0 d1
        go_wp2_with fail
        refine (compare_any x x _).mono ?_
        rw [C1.out]
        rintro e w5 ⟨rfl, rfl⟩
        go_wp2_with fail
        refine (unpack_any x ux _).mono ?_
        rintro e w5 ⟨ad5, cap5, rfl, ho5, hbn⟩
        have hs5 := ho5.sl
        have hb4 := bt hb4 hbn
        clear hbn ho5
        go_wp2_with fail
        refine (unpack_any x ux _).mono ?_
        rintro e w6 ⟨ad6, cap6, rfl, ho6, hbn⟩
        have hs5 := hs5.below hbn
        have hs6 := ho6.sl
        have hb4 := bt hb4 hbn
        clear hbn ho6
        go_wp2_with fail
        refine (same_any _ _ _ _ _ _ (Px.smp x) (Px.smp x) _ (by omega) hs5 hs6).mono ?_
        rw [decide_eq_true rfl]
        rintro e w7 ⟨rfl, hbn⟩
        have hb4 := bt hb4 hbn
        clear hbn hs5 hs6
        go_wp2_with fail
        refine (compare_any x x _).mono ?_
        rw [C1.out]
        rintro e w8 ⟨rfl, rfl⟩
        go_wp2_with fail
        refine (compare_any x z _).mono ?_
        rw [C3.out]
        rintro e w8 ⟨rfl, rfl⟩
        go_wp2_with fail
        refine (lives_any _).mono ?_
        rintro e w9 ⟨rfl, hbn⟩
        have hb4 := bt hb4 hbn
        clear hbn
        go_wp2_with fail
        go_ret
        exact ⟨rfl, hb4⟩
      · by_cases k4 : x < z
        · have C3 := Lib.hid (cmp_lt k4)
          go_enter Try.func7, Try.ntmps7
          go_wp2_with fail
          refine (form_any c m hc hm _).mono ?_
          rw [HC.out, HM.out]
          rintro e w1 ⟨rfl, hb1⟩
          have hb4 := box_below w _ _ hb1
          clear hb1
          have hs0 := hs0.below hb4
          have hs1 := hs1.below hb4
          have hs2 := hs2.below hb4
          go_wp2_with fail
          have hx := (Below.refl w1.heap.size w1).alloc (Nat.le_refl _) (.cells #[.int .i64 c', .int .i64 m'] 36)
          have hs1 := hs1.below hx
          have hs2 := hs2.below hx
          refine (good_sl _ _ _ l _ _ hl0 hwf0 HCC.out (by omega) m1 _ (hs0.below hx)).mono ?_
          rw [Hx.out]
          rintro e w2 ⟨rfl, hbn⟩
          have d0 : w2.cell? ⟨w1.heap.size, 0, none⟩ = some (.int .i64 c') := cell_later hbn (by simp [go_sem])
          have d1 : w2.cell? ⟨w1.heap.size, 1, none⟩ = some (.int .i64 m') := cell_later hbn (by simp [go_sem])
          have hb4 := bt (bt hb4 hx) hbn
          have hs1 := hs1.below hbn
          have hs2 := hs2.below hbn
          clear hbn hx hs0
          go_wp2_with fail
          refine (good_sl _ _ _ k _ _ hl1 hwf1 HCC.out (by omega) m1 _ hs1).mono ?_
          rw [Hy.out]
          rintro e w3 ⟨rfl, hbn⟩
          have d0 := cell_later hbn d0
          have d1 := cell_later hbn d1
          have hb4 := bt hb4 hbn
          have hs2 := hs2.below hbn
          clear hbn hs1
          go_wp2_with fail
          refine (good_sl _ _ _ j _ _ hl2 hwf2 HCC.out (by omega) m1 _ hs2).mono ?_
          rw [Hz.out]
          rintro e w4 ⟨rfl, hbn⟩
          have hb4 := bt hb4 hbn
          clear hbn hs2 d0 d1
          go_wp2_with fail
          refine (compare_any x x _).mono ?_
          rw [C1.out]
          rintro e w5 ⟨rfl, rfl⟩
          go_wp2_with fail
          refine (unpack_any x ux _).mono ?_
          rintro e w5 ⟨ad5, cap5, rfl, ho5, hbn⟩
          have hs5 := ho5.sl
          have hb4 := bt hb4 hbn
          clear hbn ho5
          go_wp2_with fail
          refine (unpack_any x ux _).mono ?_
          rintro e w6 ⟨ad6, cap6, rfl, ho6, hbn⟩
          have hs5 := hs5.below hbn
          have hs6 := ho6.sl
          have hb4 := bt hb4 hbn
          clear hbn ho6
          go_wp2_with fail
          refine (same_any _ _ _ _ _ _ (Px.smp x) (Px.smp x) _ (by omega) hs5 hs6).mono ?_
          rw [decide_eq_true rfl]
          rintro e w7 ⟨rfl, hbn⟩
          have hb4 := bt hb4 hbn
          clear hbn hs5 hs6
          go_wp2_with fail
          refine (compare_any x x _).mono ?_
          rw [C1.out]
          rintro e w8 ⟨rfl, rfl⟩
          go_wp2_with fail
          refine (compare_any x z _).mono ?_
          rw [C3.out]
          rintro e w8 ⟨rfl, rfl⟩
          go_wp2_with fail
          refine (compare_any x z _).mono ?_
          rw [C3.out]
          rintro e w8 ⟨rfl, rfl⟩
          go_wp2_with fail
          refine (lives_any _).mono ?_
          rintro e w9 ⟨rfl, hbn⟩
          have hb4 := bt hb4 hbn
          clear hbn
          go_wp2_with fail
          go_ret
          exact ⟨rfl, hb4⟩
        · obtain rfl : x = z := by omega
          go_enter Try.func7, Try.ntmps7
          go_wp2_with fail
          refine (form_any c m hc hm _).mono ?_
          rw [HC.out, HM.out]
          rintro e w1 ⟨rfl, hb1⟩
          have hb4 := box_below w _ _ hb1
          clear hb1
          have hs0 := hs0.below hb4
          have hs1 := hs1.below hb4
          have hs2 := hs2.below hb4
          go_wp2_with fail
          have hx := (Below.refl w1.heap.size w1).alloc (Nat.le_refl _) (.cells #[.int .i64 c', .int .i64 m'] 36)
          have hs1 := hs1.below hx
          have hs2 := hs2.below hx
          refine (good_sl _ _ _ l _ _ hl0 hwf0 HCC.out (by omega) m1 _ (hs0.below hx)).mono ?_
          rw [Hx.out]
          rintro e w2 ⟨rfl, hbn⟩
          have d0 : w2.cell? ⟨w1.heap.size, 0, none⟩ = some (.int .i64 c') := cell_later hbn (by simp [go_sem])
          have d1 : w2.cell? ⟨w1.heap.size, 1, none⟩ = some (.int .i64 m') := cell_later hbn (by simp [go_sem])
          have hb4 := bt (bt hb4 hx) hbn
          have hs1 := hs1.below hbn
          have hs2 := hs2.below hbn
          clear hbn hx hs0
          go_wp2_with fail
          refine (good_sl _ _ _ k _ _ hl1 hwf1 HCC.out (by omega) m1 _ hs1).mono ?_
          rw [Hy.out]
          rintro e w3 ⟨rfl, hbn⟩
          have d0 := cell_later hbn d0
          have d1 := cell_later hbn d1
          have hb4 := bt hb4 hbn
          have hs2 := hs2.below hbn
          clear hbn hs1
          go_wp2_with fail
          refine (good_sl _ _ _ j _ _ hl2 hwf2 HCC.out (by omega) m1 _ hs2).mono ?_
          rw [Hz.out]
          rintro e w4 ⟨rfl, hbn⟩
          have hb4 := bt hb4 hbn
          clear hbn hs2 d0 d1
          go_wp2_with fail
          refine (compare_any x x _).mono ?_
          rw [C1.out]
          rintro e w5 ⟨rfl, rfl⟩
          go_wp2_with fail
          refine (unpack_any x ux _).mono ?_
          rintro e w5 ⟨ad5, cap5, rfl, ho5, hbn⟩
          have hs5 := ho5.sl
          have hb4 := bt hb4 hbn
          clear hbn ho5
          go_wp2_with fail
          refine (unpack_any x ux _).mono ?_
          rintro e w6 ⟨ad6, cap6, rfl, ho6, hbn⟩
          have hs5 := hs5.below hbn
          have hs6 := ho6.sl
          have hb4 := bt hb4 hbn
          clear hbn ho6
          go_wp2_with fail
          refine (same_any _ _ _ _ _ _ (Px.smp x) (Px.smp x) _ (by omega) hs5 hs6).mono ?_
          rw [decide_eq_true rfl]
          rintro e w7 ⟨rfl, hbn⟩
          have hb4 := bt hb4 hbn
          clear hbn hs5 hs6
          go_wp2_with fail
          refine (compare_any x x _).mono ?_
          rw [C1.out]
          rintro e w8 ⟨rfl, rfl⟩
          go_wp2_with fail
          refine (compare_any x x _).mono ?_
          rw [C1.out]
          rintro e w8 ⟨rfl, rfl⟩
          go_wp2_with fail
          refine (compare_any x x _).mono ?_
          rw [C1.out]
          rintro e w8 ⟨rfl, rfl⟩
          go_wp2_with fail
          refine (lives_any _).mono ?_
          rintro e w9 ⟨rfl, hbn⟩
          have hb4 := bt hb4 hbn
          clear hbn
          go_wp2_with fail
          go_ret
          exact ⟨rfl, hb4⟩
end Go.Proofs.Ytdlmcdeddlccpaa
