/- PixScales: scaled to a greater greatest sample, and back, a pixel is as it was; a greater sample is never scaled to a lesser one: the walk of the law. No condition. -/
import Derived.Test.YtdlmcdeddlccpaaPixO
namespace Go.Proofs.Ytdlmcdeddlccpaa
open Go.RowKit
set_option linter.unusedVariables false
attribute [local go_sem ↓] Go.wp_at_zero Go.wp_at_succ

theorem scl_same {s m : Int} (m0 : 1 ≤ m) : scl s m m = s := by
  unfold scl
  rw [Int.add_comm, Int.add_mul_ediv_right _ _ (by omega), Int.ediv_eq_zero_of_lt (by omega) (by omega), Int.zero_add]
theorem scl_back {s m n : Int} (m0 : 1 ≤ m) (hmn : m ≤ n) : scl (scl s m n) n m = s := by
  by_cases h : m = n
  · subst h; rw [scl_same m0, scl_same m0]
  · have e1 := Int.mul_ediv_add_emod (s * n + m / 2) m
    have e2 := Int.emod_nonneg (s * n + m / 2) (show m ≠ 0 by omega)
    have e3 := Int.emod_lt_of_pos (s * n + m / 2) (show 0 < m by omega)
    unfold scl
    generalize (s * n + m / 2) % m = r at *
    generalize hb : (s * n + m / 2) / m = b at *
    rw [Int.mul_comm m b] at e1
    have : b * m + n / 2 = (m / 2 - r + n / 2) + s * n := by omega
    rw [this, Int.add_mul_ediv_right _ _ (by omega), Int.ediv_eq_zero_of_lt (by omega) (by omega), Int.zero_add]
theorem scl_le {s t m n : Int} (m0 : 1 ≤ m) (n0 : 0 ≤ n) (h : s ≤ t) : scl s m n ≤ scl t m n := by
  unfold scl
  have := Int.mul_le_mul_of_nonneg_right h n0
  exact Int.ediv_le_ediv (by omega) (by omega)
theorem scl_lt {s t m n : Int} (m0 : 1 ≤ m) (hmn : m ≤ n) (h : s < t) : scl s m n < scl t m n := by
  have h1 : scl s m n + 1 = (s * n + m / 2 + 1 * m) / m := by unfold scl; rw [Int.add_mul_ediv_right _ _ (by omega)]
  have h2 : (s * n + m / 2 + 1 * m) / m ≤ scl t m n := by
    unfold scl
    have : (s + 1) * n ≤ t * n := Int.mul_le_mul_of_nonneg_right (by omega) (by omega)
    rw [Int.add_mul] at this
    exact Int.ediv_le_ediv (by omega) (by omega)
  omega
theorem scl_order {s t m n : Int} (m0 : 1 ≤ m) (hmn : m ≤ n) : decide (281474976710656 + s < 281474976710656 + t) = decide (281474976710656 + scl s m n < 281474976710656 + scl t m n) := by
  by_cases h : s < t
  · have := scl_lt (n := n) m0 hmn h
    rw [decide_eq_true (by omega), decide_eq_true (by omega)]
  · have := scl_le (n := n) m0 (by omega) (show t ≤ s by omega)
    rw [decide_eq_false (by omega), decide_eq_false (by omega)]
theorem scales_facts {p q m n : Int} (hp : GoodP p 1 m) (hq : GoodP q 1 m) (m0 : 1 ≤ m) (m1 : m ≤ 65535) (hmn : m ≤ n) (n1 : n ≤ 65535) :
    ∃ a c, Px.scaledV p m n = (a, 0) ∧ Px.U a ∧ Px.scaledV a n m = (p, 0) ∧ Px.scaledV q m n = (c, 0) ∧ decide (p < q) = decide (a < c) := by
  have hm : Px.okM m = true := by simp [Px.okM, m0, m1]
  have hn : Px.okM n = true := by simp [Px.okM, n1]; omega
  obtain ⟨s, hp, ls⟩ : ∃ s, Px.Is1 p s ∧ s ≤ m := by
    rcases hp with ⟨h, _⟩ | ⟨_, h⟩
    · cases h
    · exact h
  obtain ⟨t, hq, lt⟩ : ∃ s, Px.Is1 q s ∧ s ≤ m := by
    rcases hq with ⟨h, _⟩ | ⟨_, h⟩
    · cases h
    · exact h
  have hb := scl_bound hp.2.1 ls m0 m1 (show 1 ≤ n by omega) n1
  have h2 : Px.Is1 (281474976710656 + scl s m n) (scl s m n) := ⟨rfl, hb.1, by omega⟩
  refine ⟨_, _, scaled1 hp hm hn ls, isU1 h2, ?_, scaled1 hq hm hn lt, ?_⟩
  · rw [scaled1 h2 hn hm hb.2, scl_back m0 hmn, ← hp.1]
  · rw [hp.1, hq.1]; exact scl_order m0 hmn

set_option maxRecDepth 100000 in
set_option maxHeartbeats 4000000 in
theorem pixScales_walk (a0 : Option Addr) (len0 cap0 : Nat) (z0 : List Int) (a1 : Option Addr) (len1 cap1 : Nat) (z1 : List Int) (c m : Int) (to : Int) (w : World) (w0 : IsRow .i64 w a0 len0 cap0 z0) (w1 : IsRow .i64 w a1 len1 cap1 z1) (w20 : (Lit.int .i64 c).wf = true) (w21 : (Lit.int .i64 m).wf = true) (w3 : (Lit.int .i64 to).wf = true) :
    Calls Try.prog 9 #[.slice a0 len0 cap0, .slice a1 len1 cap1, .agg #[.int .i64 c, .int .i64 m], .int .i64 to] w fun e w' => e = .returned (.bool true) ∧ Below w.heap.size w w' := by
  have hc := wf_i w20
  have hm := wf_i w21
  have ht := wf_i w3
  have hl := (isrow_len w0).1
  have hs := isrow_take w0 len0 (Nat.le_refl _)
  have hwf : ∀ z ∈ z0.take len0, Px.I z := fun z hz => isrow_wf w0 z (List.mem_of_mem_take hz)
  generalize z0.take len0 = l at hs hwf
  have hl' := (isrow_len w1).1
  have hs' := isrow_take w1 len1 (Nat.le_refl _)
  have hwf' : ∀ z ∈ z1.take len1, Px.I z := fun z hz => isrow_wf w1 z (List.mem_of_mem_take hz)
  generalize z1.take len1 = l' at hs' hwf'
  clear w20 w21 w0 w1 w3
  obtain ⟨m0, m1⟩ := formM_in m
  obtain ⟨c', hc'⟩ : ∃ c', Px.formC c = c' := ⟨_, rfl⟩
  obtain ⟨m', hm'⟩ : ∃ m', Px.formM m = m' := ⟨_, rfl⟩
  rw [hm'] at m0 m1
  have HC := Lib.hid hc'; clear hc'
  have HM := Lib.hid hm'; clear hm'
  have hg := good_is l (c := 1) (.inl rfl) (by omega) m1
  obtain ⟨p, hp⟩ : ∃ p, Px.goodV l 1 m' = p := ⟨_, rfl⟩
  rw [hp] at hg
  have HP := Lib.hid hp; clear hp
  have hg' := good_is l' (c := 1) (.inl rfl) (by omega) m1
  obtain ⟨q, hq⟩ : ∃ p, Px.goodV l' 1 m' = p := ⟨_, rfl⟩
  rw [hq] at hg'
  have HQ := Lib.hid hq; clear hq
  have hr := Px.around_lt to (65536 - m') (by omega)
  obtain ⟨v, hv⟩ : ∃ v, Px.aroundV to (65536 - m') = v := ⟨_, rfl⟩
  rw [hv] at hr
  obtain ⟨r0, r1⟩ := hr
  have HV := Lib.hid hv; clear hv
  obtain ⟨a, b, t1, ua, t2, t3, heq⟩ := scales_facts hg hg' m0 m1 (show m' ≤ m' + v by omega) (by omega)
  have up := goodU hg
  have uq := goodU hg'
  have T1 := Lib.hid t1; clear t1
  have T2 := Lib.hid t2; clear t2
  have T3 := Lib.hid t3; clear t3
  clear hg hg'
  have e1 : IntKind.i64.wrap (65536 - m') = 65536 - m' := IntWalk.i64_in _ (by omega)
  have e2 : IntKind.i64.wrap (m' + v) = m' + v := IntWalk.i64_in _ (by omega)
  go_enter Try.func9, Try.ntmps9
  go_wp2_with fail
  refine (form_any c m hc hm _).mono ?_
  rw [HC.out, HM.out]
  rintro e w1 ⟨rfl, hb1⟩
  have hb2 := box_below w _ _ hb1
  clear hb1
  have hs1 := hs.below hb2
  have hs1' := hs'.below hb2
  clear hs hs'
  go_wp2_with fail
  have hx := ((Below.refl w1.heap.size w1).alloc (Nat.le_refl _) (.cells #[.int .i64 1, .int .i64 m'] 36)).drew
  have S0 : (fun w' : World => w'.cell? ⟨w1.heap.size, 0, none⟩ = some (.int .i64 1) ∧ w'.cell? ⟨w1.heap.size, 1, none⟩ = some (.int .i64 m') ∧ Sl w' a0 len0 l ∧ Sl w' a1 len1 l' ∧ Below w.heap.size w w') (w1.alloc (.cells #[.int .i64 1, .int .i64 m'] 36)).drew := ⟨by simp [go_sem], by simp [go_sem], hs1.below hx, hs1'.below hx, bt hb2 hx⟩
  have HS0 := Lib.hid S0
  clear S0 hx hs1 hs1' hb2
  go_region_held3 (fun w' => w'.cell? ⟨w1.heap.size, 0, none⟩ = some (.int .i64 1) ∧ w'.cell? ⟨w1.heap.size, 1, none⟩ = some (.int .i64 m') ∧ Sl w' a0 len0 l ∧ Sl w' a1 len1 l' ∧ Below w.heap.size w w')
    (first | exact HS0.out | go_keep | (go_split_ands; refine ⟨?_, ?_, ?_, ?_, ?_⟩ <;> assumption))
    (first | (go_at_call 13; refine (around_any _ _ ht (by omega) (by omega) _).mono ?_; rw [HV.out]; rintro e w9 ⟨rfl, rfl⟩))
  obtain ⟨d0, d1, hs1, hs2, hb4⟩ := HS0.out
  go_wp2_with fail
  refine (good_sl _ _ _ l _ _ hl hwf (.inl rfl) (by omega) m1 _ hs1).mono ?_
  rw [HP.out]
  rintro e w2 ⟨rfl, hbn⟩
  have d1 := cell_later hbn d1
  have d0 := cell_later hbn d0
  have hs2 := hs2.below hbn
  have hb4 := bt hb4 hbn
  clear hbn hs1
  go_wp2_with fail
  refine (good_sl _ _ _ l' _ _ hl' hwf' (.inl rfl) (by omega) m1 _ hs2).mono ?_
  rw [HQ.out]
  rintro e w3 ⟨rfl, hbn⟩
  have d1 := cell_later hbn d1
  have d0 := cell_later hbn d0
  have hb4 := bt hb4 hbn
  clear hbn hs2
  go_wp2_with fail
  refine (scaled_any p m' (m' + v) up (by unfold Px.I; omega) (by unfold Px.I; omega) _).mono ?_
  rw [T1.out]
  rintro e w4 ⟨rfl, hbn⟩
  have d0 := cell_later hbn d0
  have d1 := cell_later hbn d1
  have hb4 := bt hb4 hbn
  clear hbn
  go_wp2_with fail
  refine (scaled_any a (m' + v) m' ua (by unfold Px.I; omega) (by unfold Px.I; omega) _).mono ?_
  rw [T2.out]
  rintro e w5 ⟨rfl, hbn⟩
  have d0 := cell_later hbn d0
  have d1 := cell_later hbn d1
  have hb4 := bt hb4 hbn
  clear hbn
  go_wp2_with fail
  refine (scaled_any q m' (m' + v) uq (by unfold Px.I; omega) (by unfold Px.I; omega) _).mono ?_
  rw [T3.out]
  rintro e w6 ⟨rfl, hbn⟩
  have d0 := cell_later hbn d0
  have d1 := cell_later hbn d1
  have hb4 := bt hb4 hbn
  clear hbn
  go_wp2_with fail
  refine (lives_any _).mono ?_
  rintro e w9 ⟨rfl, hbn⟩
  have hb4 := bt hb4 hbn
  clear hbn
  go_wp2_with fail
  go_ret
  exact ⟨rfl, hb4⟩
end Go.Proofs.Ytdlmcdeddlccpaa
