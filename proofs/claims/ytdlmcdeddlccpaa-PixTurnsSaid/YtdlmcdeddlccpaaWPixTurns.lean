/- PixTurns: dark for light, twice, is as it was; of its own greatest sample a pixel is scaled to itself; of one sample it is gray: the walk of the law. No condition. -/
import Derived.Test.YtdlmcdeddlccpaaPixO
namespace Go.Proofs.Ytdlmcdeddlccpaa
open Go.RowKit
set_option linter.unusedVariables false

theorem scl_self {s m : Int} (m0 : 1 ≤ m) : scl s m m = s := by
  unfold scl
  rw [Int.add_comm, Int.add_mul_ediv_right _ _ (by omega), Int.ediv_eq_zero_of_lt (by omega) (by omega), Int.zero_add]
theorem fits3_mk {p a b d m : Int} (h : Px.Is3 p a b d) (la : a ≤ m) (lb : b ≤ m) (ld : d ≤ m) (m0 : 1 ≤ m) (m1 : m ≤ 65535) : Px.fitsV p 3 m = true := by
  rw [Px.fitsV3_all h la lb ld]; simp [Px.formatV, m0, m1]
theorem fits1_mk {p a m : Int} (h : Px.Is1 p a) (la : a ≤ m) (m0 : 1 ≤ m) (m1 : m ≤ 65535) : Px.fitsV p 1 m = true := by
  rw [Px.fitsV1_all h la]; simp [Px.formatV, m0, m1]
theorem gry_le {a b d m : Int} (la : a ≤ m) (lb : b ≤ m) (ld : d ≤ m) : gry a b d ≤ m := by unfold gry; omega
theorem turns_facts {p c m : Int} (h : GoodP p c m) (m0 : 1 ≤ m) (m1 : m ≤ 65535) :
    ∃ q d, Px.turnedV p c m = (q, 0) ∧ Px.U q ∧ Px.turnedV q c m = (p, 0) ∧ Px.scaledV p m m = (p, 0) ∧ Px.grayV p = (d, 0) ∧ Px.U d ∧ Px.grayV d = (d, 0) ∧ Px.fitsV d 1 m = true := by
  have hm : Px.okM m = true := by simp [Px.okM, m0, m1]
  rcases h with ⟨rfl, a, b, d, h, la, lb, ld⟩ | ⟨rfl, a, h, la⟩
  · have hb := h
    obtain ⟨hp, a0, a1, b0, b1, d0, d1⟩ := hb
    have h2 : Px.Is3 (844424930131968 + (m - a) * 4294967296 + (m - b) * 65536 + (m - d)) (m - a) (m - b) (m - d) := ⟨rfl, by omega, by omega, by omega, by omega, by omega, by omega⟩
    obtain ⟨g0, g1⟩ := gry_bound a0 a1 b0 b1 d0 d1
    have h3 : Px.Is1 (281474976710656 + gry a b d) (gry a b d) := ⟨rfl, g0, g1⟩
    refine ⟨_, _, Px.turned3 h (fits3_mk h la lb ld m0 m1), isU3 h2, ?_, ?_, gray3 h, isU1 h3, gray1 h3, fits1_mk h3 (gry_le la lb ld) m0 m1⟩
    · rw [Px.turned3 h2 (fits3_mk h2 (by omega) (by omega) (by omega) m0 m1), hp]; refine Prod.ext ?_ rfl; simp only []; omega
    · rw [scaled3 h hm hm la lb ld, scl_self m0, scl_self m0, scl_self m0, hp]
  · have hb := h
    obtain ⟨hp, a0, a1⟩ := hb
    have h2 : Px.Is1 (281474976710656 + (m - a)) (m - a) := ⟨rfl, by omega, by omega⟩
    refine ⟨_, _, Px.turned1 h (fits1_mk h la m0 m1), isU1 h2, ?_, ?_, gray1 h, isU1 h, gray1 h, fits1_mk h la m0 m1⟩
    · rw [Px.turned1 h2 (fits1_mk h2 (by omega) m0 m1), hp]; refine Prod.ext ?_ rfl; simp only []; omega
    · rw [scaled1 h hm hm la, scl_self m0, hp]

set_option maxRecDepth 100000 in
set_option maxHeartbeats 2000000 in
theorem pixTurns_walk (a0 : Option Addr) (len0 cap0 : Nat) (z0 : List Int) (c m : Int) (w : World) (w0 : IsRow .i64 w a0 len0 cap0 z0) (w10 : (Lit.int .i64 c).wf = true) (w11 : (Lit.int .i64 m).wf = true) :
    Calls Try.prog 6 #[.slice a0 len0 cap0, .agg #[.int .i64 c, .int .i64 m]] w fun e w' => e = .returned (.bool true) ∧ Below w.heap.size w w' := by
  have hc := wf_i w10
  have hm := wf_i w11
  have hl := (isrow_len w0).1
  have hs := isrow_take w0 len0 (Nat.le_refl _)
  have hwf : ∀ z ∈ z0.take len0, Px.I z := fun z hz => isrow_wf w0 z (List.mem_of_mem_take hz)
  generalize z0.take len0 = l at hs hwf
  clear w10 w11 w0
  obtain ⟨m0, m1⟩ := formM_in m
  have hcc := formC_in c
  obtain ⟨c', hc'⟩ : ∃ c', Px.formC c = c' := ⟨_, rfl⟩
  obtain ⟨m', hm'⟩ : ∃ m', Px.formM m = m' := ⟨_, rfl⟩
  rw [hm'] at m0 m1
  rw [hc'] at hcc
  have HC := Lib.hid hc'; clear hc'
  have HM := Lib.hid hm'; clear hm'
  have HCC := Lib.hid hcc; clear hcc
  have hg := good_is l HCC.out (by omega) m1
  obtain ⟨p, hp⟩ : ∃ p, Px.goodV l c' m' = p := ⟨_, rfl⟩
  rw [hp] at hg
  have HP := Lib.hid hp; clear hp
  obtain ⟨q, d, t1, uq, t2, t3, t4, ud, t5, t6⟩ := turns_facts hg m0 m1
  have up := goodU hg
  have T1 := Lib.hid t1; clear t1
  have T2 := Lib.hid t2; clear t2
  have T3 := Lib.hid t3; clear t3
  have T4 := Lib.hid t4; clear t4
  have T5 := Lib.hid t5; clear t5
  have T6 := Lib.hid t6; clear t6
  clear hg
  go_enter Try.func6, Try.ntmps6
  go_wp2_with fail
  refine (form_any c m hc hm _).mono ?_
  rw [HC.out, HM.out]
  rintro e w1 ⟨rfl, hb1⟩
  have hb2 := box_below w _ _ hb1
  clear hb1
  have hs1 := hs.below hb2
  clear hs
  go_wp2_with fail
  have hx := (Below.refl w1.heap.size w1).alloc (Nat.le_refl _) (.cells #[.int .i64 c', .int .i64 m'] 36)
  refine (good_sl _ _ _ l _ _ hl hwf HCC.out (by omega) m1 _ (hs1.below hx)).mono ?_
  rw [HP.out]
  rintro e w2 ⟨rfl, hb3⟩
  have d0 : w2.cell? ⟨w1.heap.size, 0, none⟩ = some (.int .i64 c') := cell_later hb3 (by simp [go_sem])
  have d1 : w2.cell? ⟨w1.heap.size, 1, none⟩ = some (.int .i64 m') := cell_later hb3 (by simp [go_sem])
  have hb4 := bt (bt hb2 hx) hb3
  clear hb3 hb2 hx hs1
  go_wp2_with fail
  refine (turned_any p _ _ up _).mono ?_
  rw [T1.out]
  rintro e w3 ⟨rfl, hbn⟩
  have d0 : w3.cell? ⟨w1.heap.size, 0, none⟩ = some (.int .i64 c') := cell_later hbn d0
  have d1 : w3.cell? ⟨w1.heap.size, 1, none⟩ = some (.int .i64 m') := cell_later hbn d1
  have hb4 := bt hb4 hbn
  clear hbn
  go_wp2_with fail
  refine (turned_any q _ _ uq _).mono ?_
  rw [T2.out]
  rintro e w4 ⟨rfl, hbn⟩
  have d0 : w4.cell? ⟨w1.heap.size, 0, none⟩ = some (.int .i64 c') := cell_later hbn d0
  have d1 : w4.cell? ⟨w1.heap.size, 1, none⟩ = some (.int .i64 m') := cell_later hbn d1
  have hb4 := bt hb4 hbn
  clear hbn
  go_wp2_with fail
  refine (scaled_any p m' m' up (by unfold Px.I; omega) (by unfold Px.I; omega) _).mono ?_
  rw [T3.out]
  rintro e w5 ⟨rfl, hbn⟩
  have d0 : w5.cell? ⟨w1.heap.size, 0, none⟩ = some (.int .i64 c') := cell_later hbn d0
  have d1 : w5.cell? ⟨w1.heap.size, 1, none⟩ = some (.int .i64 m') := cell_later hbn d1
  have hb4 := bt hb4 hbn
  clear hbn
  go_wp2_with fail
  refine (gray_any p up _).mono ?_
  rw [T4.out]
  rintro e w6 ⟨rfl, hbn⟩
  have d0 : w6.cell? ⟨w1.heap.size, 0, none⟩ = some (.int .i64 c') := cell_later hbn d0
  have d1 : w6.cell? ⟨w1.heap.size, 1, none⟩ = some (.int .i64 m') := cell_later hbn d1
  have hb4 := bt hb4 hbn
  clear hbn
  go_wp2_with fail
  refine (gray_any d ud _).mono ?_
  rw [T5.out]
  rintro e w7 ⟨rfl, hbn⟩
  have d0 : w7.cell? ⟨w1.heap.size, 0, none⟩ = some (.int .i64 c') := cell_later hbn d0
  have d1 : w7.cell? ⟨w1.heap.size, 1, none⟩ = some (.int .i64 m') := cell_later hbn d1
  have hb4 := bt hb4 hbn
  clear hbn
  go_wp2_with fail
  refine (fits_any d _ _ ud _).mono ?_
  rw [T6.out]
  rintro e w8 ⟨rfl, hbn⟩
  have d0 : w8.cell? ⟨w1.heap.size, 0, none⟩ = some (.int .i64 c') := cell_later hbn d0
  have d1 : w8.cell? ⟨w1.heap.size, 1, none⟩ = some (.int .i64 m') := cell_later hbn d1
  have hb4 := bt hb4 hbn
  clear hbn
  go_wp2_with fail
  refine (lives_any _).mono ?_
  rintro e w9 ⟨rfl, hbn⟩
  have hb4 := bt hb4 hbn
  clear hbn
  go_wp2_with fail
  go_ret
  exact ⟨rfl, hb4⟩
end Go.Proofs.Ytdlmcdeddlccpaa
