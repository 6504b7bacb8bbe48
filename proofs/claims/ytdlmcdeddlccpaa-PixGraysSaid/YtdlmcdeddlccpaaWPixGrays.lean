/- PixGrays: what is made gray lies between the least and the greatest sample: the walk of the law. No condition. -/
import Derived.Test.YtdlmcdeddlccpaaPixO
namespace Go.Proofs.Ytdlmcdeddlccpaa
open Go.RowKit
set_option linter.unusedVariables false
attribute [local go_sem ↓] Go.wp_at_zero Go.wp_at_succ

theorem gry_mid {a b d lo hi : Int} (la : lo ≤ a) (lb : lo ≤ b) (ld : lo ≤ d) (ha : a ≤ hi) (hb : b ≤ hi) (hd : d ≤ hi) : lo ≤ gry a b d ∧ gry a b d ≤ hi := by unfold gry; omega
theorem mn3 (x y z : Int) : (if z < (if y < x then y else x) then z else (if y < x then y else x)) ≤ x ∧ (if z < (if y < x then y else x) then z else (if y < x then y else x)) ≤ y ∧ (if z < (if y < x then y else x) then z else (if y < x then y else x)) ≤ z := by
  by_cases h1 : y < x <;> by_cases h2 : z < y <;> by_cases h3 : z < x <;> simp [h1, h2, h3] <;> omega
theorem mx3 (x y z : Int) : x ≤ (if (if x < y then y else x) < z then z else (if x < y then y else x)) ∧ y ≤ (if (if x < y then y else x) < z then z else (if x < y then y else x)) ∧ z ≤ (if (if x < y then y else x) < z then z else (if x < y then y else x)) := by
  by_cases h1 : x < y <;> by_cases h2 : y < z <;> by_cases h3 : x < z <;> simp [h1, h2, h3] <;> omega

set_option maxRecDepth 100000 in
set_option maxHeartbeats 4000000 in
theorem pixGrays_walk (a0 : Option Addr) (len0 cap0 : Nat) (z0 : List Int) (c m : Int) (w : World) (w0 : IsRow .i64 w a0 len0 cap0 z0) (w10 : (Lit.int .i64 c).wf = true) (w11 : (Lit.int .i64 m).wf = true) :
    Calls Try.prog 8 #[.slice a0 len0 cap0, .agg #[.int .i64 c, .int .i64 m]] w fun e w' => e = .returned (.bool true) ∧ Below w.heap.size w w' := by
  have hc := wf_i w10
  have hm := wf_i w11
  have hl := (isrow_len w0).1
  have hs := isrow_take w0 len0 (Nat.le_refl _)
  have hwf : ∀ z ∈ z0.take len0, Px.I z := fun z hz => isrow_wf w0 z (List.mem_of_mem_take hz)
  generalize z0.take len0 = l at hs hwf
  clear w10 w11 w0
  obtain ⟨m0, m1⟩ := formM_in m
  obtain ⟨c', hc'⟩ : ∃ c', Px.formC c = c' := ⟨_, rfl⟩
  obtain ⟨m', hm'⟩ : ∃ m', Px.formM m = m' := ⟨_, rfl⟩
  rw [hm'] at m0 m1
  have HC := Lib.hid hc'; clear hc'
  have HM := Lib.hid hm'; clear hm'
  have hg := good_is l (c := 3) (.inr rfl) (by omega) m1
  obtain ⟨p, hp⟩ : ∃ p, Px.goodV l 3 m' = p := ⟨_, rfl⟩
  rw [hp] at hg
  have HP := Lib.hid hp; clear hp
  obtain ⟨x, y, z, h, -, -, -⟩ : ∃ x y z, Px.Is3 p x y z ∧ x ≤ m' ∧ y ≤ m' ∧ z ≤ m' := by
    rcases hg with ⟨_, h⟩ | ⟨h, _⟩
    · exact h
    · cases h
  clear hg
  have T1 := Lib.hid (gray3 h)
  have H := Lib.hid h
  obtain ⟨-, x0, x1, y0, y1, z0, z1⟩ := h
  obtain ⟨g0, g1⟩ := gry_bound x0 x1 y0 y1 z0 z1
  obtain ⟨n, hn⟩ : ∃ n, gry x y z = n := ⟨_, rfl⟩
  have mid : ∀ lo hi, lo ≤ x → lo ≤ y → lo ≤ z → x ≤ hi → y ≤ hi → z ≤ hi → lo ≤ n ∧ n ≤ hi := by
    intro lo hi h1 h2 h3 h4 h5 h6
    rw [← hn]; exact gry_mid h1 h2 h3 h4 h5 h6
  have MID := Lib.hid mid; clear mid
  have T1 : Hid (Px.grayV p = (281474976710656 + n, 0)) := Lib.hid (by rw [← hn]; exact T1.out)
  rw [hn] at g0 g1
  have H1 : Hid (Px.Is1 (281474976710656 + n) n) := Lib.hid ⟨rfl, g0, g1⟩
  have HN := Lib.hid hn; clear hn
  obtain ⟨lo, hlo⟩ : ∃ lo, (if z < (if y < x then y else x) then z else (if y < x then y else x)) = lo := ⟨_, rfl⟩
  obtain ⟨hi, hhi⟩ : ∃ hi, (if (if x < y then y else x) < z then z else (if x < y then y else x)) = hi := ⟨_, rfl⟩
  have u0 : lo ≤ n := by
    obtain ⟨h1, h2, h3⟩ := mn3 x y z
    rw [hlo] at h1 h2 h3
    exact (MID.out lo (max (max x y) z) h1 h2 h3 (by omega) (by omega) (by omega)).1
  have u1 : n ≤ hi := by
    obtain ⟨h1, h2, h3⟩ := mx3 x y z
    rw [hhi] at h1 h2 h3
    exact (MID.out (min (min x y) z) hi (by omega) (by omega) (by omega) h1 h2 h3).2
  go_enter Try.func8, Try.ntmps8
  go_wp2_with fail
  refine (form_any c m hc hm _).mono ?_
  rw [HC.out, HM.out]
  rintro e w1 ⟨rfl, hb1⟩
  have hb2 := box_below w _ _ hb1
  clear hb1
  have hs1 := hs.below hb2
  clear hs
  go_wp2_with fail
  have hx := (Below.refl w1.heap.size w1).alloc (Nat.le_refl _) (.cells #[.int .i64 3, .int .i64 m'] 36)
  refine (good_sl _ _ _ l _ _ hl hwf (.inr rfl) (by omega) m1 _ (hs1.below hx)).mono ?_
  rw [HP.out]
  rintro e w2 ⟨rfl, hb3⟩
  have hb4 := bt (bt hb2 hx) hb3
  clear hb3 hb2 hx hs1
  go_wp2_with fail
  refine (refUnpack3 p x y z H.out _).mono ?_
  rintro e w3 ⟨g, cap, rfl, ⟨hg0, hg1, c0, c1, c2, -, -, -⟩, hbn⟩
  have hb4 := bt hb4 hbn
  clear hbn
  go_wp2_with fail
  refine (gray_any p (isU3 H.out) _).mono ?_
  rw [T1.out]
  rintro e w4 ⟨rfl, hbn⟩
  have c0 := cell_later hbn c0
  have c1 := cell_later hbn c1
  have c2 := cell_later hbn c2
  have hb4 := bt hb4 hbn
  clear hbn
  go_wp2_with fail
  refine (unpack1 _ n H1.out _).mono ?_
  rintro e w5 ⟨g', cap', rfl, ⟨hh0, hh1, e0, -⟩, hbn⟩
  have c0 := cell_later hbn c0
  have c1 := cell_later hbn c1
  have c2 := cell_later hbn c2
  have hb4 := bt hb4 hbn
  clear hbn hg0 hg1 hh0 hh1
  go_wp2_with fail
  go_region_held3 (fun w' => w'.cell? ⟨g, 0, none⟩ = some (.int .i64 x) ∧ w'.cell? ⟨g, 1, none⟩ = some (.int .i64 y) ∧ w'.cell? ⟨g, 2, none⟩ = some (.int .i64 z) ∧ w'.cell? ⟨g', 0, none⟩ = some (.int .i64 n) ∧ Below w.heap.size w w')
    (first | exact ⟨c0, c1, c2, e0, hb4.drew⟩ | go_keep | (go_split_ands; refine ⟨cell_later hb9 ?_, cell_later hb9 ?_, cell_later hb9 ?_, cell_later hb9 ?_, bt ?_ hb9⟩ <;> assumption))
    (first | (go_at_call 12; refine (lives_any _).mono ?_; rintro e w9 ⟨rfl, hb9⟩))
  have hb10 : Below w.heap.size w w9 := by go_split_ands; assumption
  go_wp2_with fail
  go_ret
  exact ⟨rfl, hb10⟩
end Go.Proofs.Ytdlmcdeddlccpaa
