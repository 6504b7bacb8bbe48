/- Two turns in one, and the turn back, by the document's own answer (by what they do to a matrix that no turn but 0 lays as it is), over any memory. Condition: numbers fit their kinds. -/
import Derived.Test.YtlihkdbbcnmbmaaTurJ
import Derived.Test.YtlihkdbbcnmbmaaTurG
namespace Go.Proofs.Ytlihkdbbcnmbmaa
open Go.RowKit
set_option linter.unusedVariables false

namespace Tu
def P6 : List Int := [1, 2, 3, 4, 5, 6]
set_option maxRecDepth 100000 in
theorem probe_one {t k : Nat} (ht : t < 8) (hk : k < 8) : (decide (((sw t 3 2 : Nat) : Int) = (sw k 3 2 : Nat)) && (decide (((sw t 2 3 : Nat) : Int) = (sw k 2 3 : Nat)) && decide (layL t 3 2 P6 = layL k 3 2 P6))) = decide (t = k) := by
  have h : ∀ t, t < 8 → ∀ k, k < 8 → (decide (((sw t 3 2 : Nat) : Int) = (sw k 3 2 : Nat)) && (decide (((sw t 2 3 : Nat) : Int) = (sw k 2 3 : Nat)) && decide (layL t 3 2 P6 = layL k 3 2 P6))) = decide (t = k) := by decide
  exact h t ht k hk
end Tu
set_option maxHeartbeats 2000000 in
theorem probe_any (w : World) :
    Calls Try.prog 78 #[] w fun e w' => ∃ b, e = .returned (.agg #[.int .i64 (3 : Nat), .int .i64 (2 : Nat), .slice (some ⟨b, 0, none⟩) 6 6]) ∧ SlK .u64 w' (some ⟨b, 0, none⟩) 6 Tu.P6 ∧ Below w.heap.size w w' := by
  have R : Sb ((w.alloc (.cells #[.int .i64 3, .int .i64 2, .slice (some ⟨w.heap.size + 1, 0, none⟩) 6 6] 25)).alloc (.cells #[.int .u64 1, .int .u64 2, .int .u64 3, .int .u64 4, .int .u64 5, .int .u64 6] 51)) w.heap.size 25 (.int .i64 3) (.int .i64 2) (.slice (some ⟨w.heap.size + 1, 0, none⟩) 6 6) := (Sb.new _ _ _ _ _).alloc _
  go_enter Try.func78, Try.ntmps78
  go_wp2
  refine bodyPost_ret (ret_cell1 Try.results78 _ _ _ _ rfl (load_m R)) rfl ?_
  refine ⟨_, rfl, ⟨rfl, .inr ⟨_, _, rfl, fun i hi => ?_⟩⟩, by go_grown⟩
  have : i = 0 ∨ i = 1 ∨ i = 2 ∨ i = 3 ∨ i = 4 ∨ i = 5 := by omega
  rcases this with rfl | rfl | rfl | rfl | rfl | rfl <;> simp [go_sem, Tu.P6]
set_option maxRecDepth 100000 in
set_option maxHeartbeats 4000000 in
theorem refThen_yes (g h : Nat) (hg : g < 8) (hh : h < 8) (w : World) :
    Calls Try.prog 50 #[.int .i64 g, .int .i64 h] w fun e w' => e = .returned (.int .i64 (Tu.thenN g h : Nat)) ∧ Below w.heap.size w w' := by
  have hL6 : Tu.P6.length = 3 * 2 := rfl
  have hA := Lib.hid (fun (k : Nat) (hk : k < 8) (b : Nat) W2 hs => refLay_any 3 2 k (some ⟨b, 0, none⟩) 6 Tu.P6 hk (by omega) (by omega) (by omega) (by omega) hL6 (by decide) (by omega) W2 hs)
  have hB := Lib.hid (fun (ad : Option Addr) (cap : Nat) W2 hc hc2 hs => refLay_any (Tu.sw g 3 2) (Tu.sw g 2 3) h ad cap (Tu.layL g 3 2 Tu.P6) hh (by unfold Tu.sw; split <;> omega) (by unfold Tu.sw; split <;> omega) (by unfold Tu.sw; split <;> omega) (by unfold Tu.sw; split <;> omega) (by rw [Tu.layL_len]; unfold Tu.sw; split <;> rfl) hc hc2 W2 hs)
  rw [Tu.sw_sw hg hh, Tu.sw_sw hg hh, Tu.lay_lay hg hh, Tu.layL_len, show Tu.sw g 3 2 * Tu.sw g 2 3 = 6 by unfold Tu.sw; split <;> rfl] at hB
  have ht := Tu.thenN_lt hg hh
  obtain ⟨t, hT⟩ : ∃ t, Tu.thenN g h = t := ⟨_, rfl⟩
  rw [hT] at hB ht ⊢
  have HT8 := Lib.hid ht
  have HG8 := Lib.hid hg
  have g0 : ¬ (g : Int) < 0 := by omega
  have g7 : ¬ (7 : Int) < (g : Int) := by omega
  have h0 : ¬ (h : Int) < 0 := by omega
  have h7 : ¬ (7 : Int) < (h : Int) := by omega
  clear hT ht hg hh hL6
  go_enter Try.func50, Try.ntmps50
  go_wp2_with fail
  refine (probe_any _).mono ?_
  rintro e w1 ⟨b1, rfl, hs1, hb1⟩
  go_wp2_with fail
  refine (hA.out g HG8.out b1 _ hs1).mono ?_
  rintro e w2 ⟨a2, c2, rfl, hs2, hc2, hd2, hb2⟩
  have B2 := bel_step hb1 hb2
  have D2 := Sb.new w2 25 (.int .i64 (Tu.sw g 3 2 : Nat)) (.int .i64 (Tu.sw g 2 3 : Nat)) (.slice a2 (3 * 2) c2)
  have hs2' := hs2.below (box1 w2 (.cells #[.int .i64 (Tu.sw g 3 2 : Nat), .int .i64 (Tu.sw g 2 3 : Nat), .slice a2 (3 * 2) c2] 25))
  go_wp2_with fail
  refine (hB.out a2 c2 _ hc2 hd2 hs2').mono ?_
  rintro e w4 ⟨a4, c4, rfl, hs4, hc4, hd4, hb4⟩
  have B4 := bel_step (B2.alloc B2.size (.cells #[.int .i64 (Tu.sw g 3 2 : Nat), .int .i64 (Tu.sw g 2 3 : Nat), .slice a2 (3 * 2) c2] 25)) hb4
  have HD4 := Lib.hid (Sb.new w4 25 (.int .i64 (Tu.sw t 3 2 : Nat)) (.int .i64 (Tu.sw t 2 3 : Nat)) (.slice a4 6 c4))
  have HS4 := Lib.hid (hs4.below (box1 w4 (.cells #[.int .i64 (Tu.sw t 3 2 : Nat), .int .i64 (Tu.sw t 2 3 : Nat), .slice a4 6 c4] 25)))
  have HB5 := Lib.hid (B4.alloc B4.size (.cells #[.int .i64 (Tu.sw t 3 2 : Nat), .int .i64 (Tu.sw t 2 3 : Nat), .slice a4 6 c4] 25))
  have HC4 := Lib.hid hc4
  clear hs4 hs2' D2 hs2 hb4 hb2 hb1 B4 B2 hs1
  go_wp2_with fail
  obtain ⟨W5, hW5⟩ : ∃ W5, w4.alloc (.cells #[.int .i64 (Tu.sw t 3 2 : Nat), .int .i64 (Tu.sw t 2 3 : Nat), .slice a4 6 c4] 25) = W5 := ⟨_, rfl⟩
  have hz5 : w4.heap.size < W5.heap.size := by rw [← hW5]; simp
  rw [hW5] at HD4 HS4 HB5 ⊢
  clear hW5
  go_loopg [9] 8 (fun gg s9 wr => ∃ k : Nat, k + gg = 8 ∧ s9 = .int .i64 k ∧ k ≤ t ∧ Below W5.heap.size W5 wr)
  case atStart => exact ⟨0, by omega, rfl, Nat.zero_le _, Below.refl _ _⟩
  case round =>
    obtain ⟨k, hk, rfl, hkt, hBr⟩ := hrel
    cases gk with
    | zero => exfalso; have := HT8.out; omega
    | succ gg =>
      have hk8 : k < 8 := by omega
      have hltI : (k : Int) < 8 := by omega
      have hzr : w4.heap.size < wr.heap.size := Nat.lt_of_lt_of_le hz5 hBr.size
      have HKT := Lib.hid hkt
      have HKK := Lib.hid hk
      have HBr := Lib.hid hBr
      clear hk hkt hBr
      go_wp2_with fail
      refine (probe_any _).mono ?_
      rintro e w6 ⟨b6, rfl, hs6, hb6⟩
      go_wp2_with fail
      refine (hA.out k hk8 b6 _ hs6).mono ?_
      rintro e w7 ⟨a7, c7, rfl, hs7, hc7, hd7, hb7⟩
      have B7 := (HBr.out.trans (hb6.mono HBr.out.size)).trans (hb7.mono (Nat.le_trans HBr.out.size hb6.size))
      have hz7 : w4.heap.size < w7.heap.size := Nat.lt_of_lt_of_le hz5 B7.size
      have HS7 := Lib.hid (hs7.below (box1 w7 (.cells #[.int .i64 (Tu.sw k 3 2 : Nat), .int .i64 (Tu.sw k 2 3 : Nat), .slice a7 (3 * 2) c7] 25)))
      have HB8 := Lib.hid (B7.alloc B7.size (.cells #[.int .i64 (Tu.sw k 3 2 : Nat), .int .i64 (Tu.sw k 2 3 : Nat), .slice a7 (3 * 2) c7] 25))
      obtain ⟨d0, d1, d2⟩ := (HD4.out.below HB8.out hz5).cells
      have hP := Tu.probe_one HT8.out hk8
      clear hs6 hs7 hb6 hb7 B7
      go_wp2_with fail
      refine (refSame_any _ _ _ _ a4 a7 6 (3 * 2) c4 c7 (Tu.layL t 3 2 Tu.P6) (Tu.layL k 3 2 Tu.P6) _ (by omega) (HS4.out.below HB8.out) HS7.out).mono ?_
      rw [hP]
      have hbase := HB5.out
      by_cases htk : t = k
      · have hdt : decide (t = k) = true := decide_eq_true htk
        rw [hdt]
        rintro e w9 ⟨rfl, hb9⟩
        have HE := Lib.hid (bel_step hbase (bel_step HB8.out hb9))
        have HR := Lib.hid htk
        clear htk hdt hb9 hbase
        go_wp2
        go_ret
        exact ⟨Ar.ret_i (by rw [HR.out]), HE.out⟩
      · have hdt : decide (t = k) = false := decide_eq_false htk
        rw [hdt]
        rintro e w9 ⟨rfl, hb9⟩
        have HE := Lib.hid (bel_step HB8.out hb9)
        have HR := Lib.hid htk
        clear htk hdt hb9 hbase
        go_wp2
        go_roundg gg
        case measure => omega
        case rel => exact ⟨k + 1, (by have := HKK.out; omega), by go_num, (by have := HR.out; have := HKT.out; omega), HE.out⟩
set_option maxHeartbeats 1000000 in
theorem refThen_no (g h : Int) (hn : Tu.isT g = false ∨ Tu.isT h = false) (w : World) :
    Calls Try.prog 50 #[.int .i64 g, .int .i64 h] w fun e w' => e = .returned (.int .i64 (-1)) ∧ w = w' := by
  rw [Tu.isT_no, Tu.isT_no] at hn
  by_cases h1 : g < 0 <;> by_cases h2 : 7 < g <;> by_cases h3 : h < 0 <;> by_cases h4 : 7 < h
  all_goals first
    | (exfalso; omega)
    | (
      clear hn
      go_enter Try.func50, Try.ntmps50
      go_wp2
      go_ret
      exact ⟨rfl, rfl⟩)
theorem refThen_any (g h : Int) (w : World) :
    Calls Try.prog 50 #[.int .i64 g, .int .i64 h] w fun e w' => e = .returned (.int .i64 (Tu.thenI g h)) ∧ Below w.heap.size w w' := by
  cases hg : Tu.isT g with
  | false => rw [Tu.thenI_no1 hg]; exact (refThen_no g h (.inl hg) w).mono (fun _ _ ⟨a, b⟩ => ⟨a, b ▸ Below.refl _ _⟩)
  | true =>
    cases hh : Tu.isT h with
    | false => rw [Tu.thenI_no2 hh]; exact (refThen_no g h (.inr hh) w).mono (fun _ _ ⟨a, b⟩ => ⟨a, b ▸ Below.refl _ _⟩)
    | true =>
      obtain ⟨m, hm, rfl⟩ := Tu.isT_nat hg
      obtain ⟨n, hn, rfl⟩ := Tu.isT_nat hh
      rw [Tu.thenI_nat hm hn]
      exact refThen_yes m n hm hn w
set_option maxHeartbeats 2000000 in
theorem refBack_any (g : Int) (w : World) :
    Calls Try.prog 51 #[.int .i64 g] w fun e w' => e = .returned (.int .i64 (Tu.backI g)) ∧ Below w.heap.size w w' := by
  go_enter Try.func51, Try.ntmps51
  go_wp2
  go_loopg [3] 8 (fun gg s3 wr => ∃ k : Nat, k + gg = 8 ∧ s3 = .int .i64 k ∧ Below w.heap.size w wr ∧ Hid (∀ j, j < k → Tu.thenI g (j : Nat) ≠ 0))
  case atStart => exact ⟨0, by omega, rfl, Below.refl _ _, fun j hj => absurd hj (Nat.not_lt_zero _)⟩
  case round =>
    obtain ⟨k, hk, rfl, hB, hA⟩ := hrel
    cases gk with
    | succ gg =>
      have hlt : k < 8 := by omega
      have hltI : (k : Int) < 8 := by omega
      by_cases hq : Tu.thenI g (k : Nat) = 0
      · have HQ := Lib.hid hq
        have HR := Lib.hid (Tu.backI_hit hlt hq)
        clear hq
        go_wp2_with (go_at_call 50; refine (refThen_any _ _ _).mono ?_; rw [HQ.out]; rintro e w1 ⟨rfl, hb1⟩; have hB1 := hB.trans (hb1.mono hB.size))
        go_ret
        exact ⟨Ar.ret_i HR.out.symm, hB1⟩
      · obtain ⟨t, ht⟩ : ∃ t, Tu.thenI g (k : Nat) = t := ⟨_, rfl⟩
        rw [ht] at hq
        have HQ := Lib.hid ht
        clear ht
        go_wp2_with (go_at_call 50; refine (refThen_any _ _ _).mono ?_; rw [HQ.out]; rintro e w1 ⟨rfl, hb1⟩; have hB1 := hB.trans (hb1.mono hB.size))
        go_roundg gg
        case measure => omega
        case rel =>
          refine ⟨k + 1, by omega, by go_num, hB1, fun j hj => ?_⟩
          by_cases e : j = k
          · subst e; rw [HQ.out]; exact hq
          · exact hA.out j (by omega)
    | zero =>
      have hltI : ¬ (k : Int) < 8 := by omega
      obtain rfl : k = 8 := by omega
      have HR := Lib.hid (Tu.backI_miss hA.out)
      go_wp2
      go_ret
      exact ⟨Ar.ret_i HR.out.symm, hB⟩
end Go.Proofs.Ytlihkdbbcnmbmaa
