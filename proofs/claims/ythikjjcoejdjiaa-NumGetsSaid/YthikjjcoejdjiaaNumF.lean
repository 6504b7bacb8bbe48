/- The number that bytes begin with, over any memory, by the document. Condition: bytes are bytes. -/
import Derived.Test.YthikjjcoejdjiaaNumE
namespace Go.Proofs.Ythikjjcoejdjiaa
open Go.RowKit Go.Shelf
set_option linter.unusedVariables false

theorem Nu.unit_le (i : Nat) (h : i ≤ 8) : (1 : Int) ≤ 2 ^ (7 * i) ∧ (2 : Int) ^ (7 * i) ≤ 72057594037927936 := by
  have := Nu.pow_le h
  have h1 : (2 : Nat) ^ (7 * i) ≥ 1 := Nat.one_le_two_pow
  have hcast : ((2 : Int) ^ (7 * i)) = ((2 ^ (7 * i) : Nat) : Int) := by simp
  rw [hcast]; omega
theorem Nu.unit_next (i : Nat) : (2 : Int) ^ (7 * i) * 128 = 2 ^ (7 * (i + 1)) := by
  rw [show 7 * (i + 1) = 7 * i + 7 by omega, Int.pow_add]; rfl
theorem Nu.mul_le (i : Nat) (d : Int) (hi : i < 8) (d0 : 0 ≤ d) (d1 : d < 128) : 0 ≤ d * 2 ^ (7 * i) ∧ d * 2 ^ (7 * i) ≤ 72057594037927936 := by
  obtain ⟨h1, h2⟩ := Nu.unit_le (i + 1) (by omega)
  have := Nu.unit_next i
  generalize (2 : Int) ^ (7 * i) = p at *
  have a : 0 ≤ d * p := Int.mul_nonneg d0 (by omega)
  have b : d * p ≤ 127 * p := Int.mul_le_mul_of_nonneg_right (by omega) (by omega)
  omega

set_option maxRecDepth 100000 in
set_option maxHeartbeats 2000000 in
theorem refGet_any (a : Option Addr) (len cap : Nat) (zs : List Int) (w : World) (hlen : len ≤ 9223372036854775807) (hs : SlK .u8 w a len zs) (hz : ∀ x ∈ zs, 0 ≤ x ∧ x ≤ 255) :
    Calls Try.prog 23 #[.slice a len cap] w (GetR zs w) := by
  obtain ⟨hzl, hc⟩ := hs
  have HZ := Lib.hid hzl
  have HC : Hid (∀ i, i < len → ∃ blk off, a = some ⟨blk, off, none⟩ ∧ w.cell? ⟨blk, off + i, none⟩ = some (.int .u8 (zs.getD i 0))) := by
    intro i hi
    rcases hc with h | ⟨blk, off, h1, h2⟩
    · omega
    · exact ⟨blk, off, h1, h2 i hi⟩
  have HB := Lib.hid hz
  clear hzl hc hz
  go_enter Try.func23, Try.ntmps23
  go_wp2
  go_loop [5, 6, 7] (fun u5 u6 u7 => ∃ (i : Nat) (n p : Int), i ≤ len ∧ i ≤ 8 ∧ u5 = .int .i64 n ∧ u6 = .int .i64 p ∧ u7 = .int .i64 i ∧ 0 ≤ n ∧ n < 2 ^ (7 * i) ∧ 2 ^ (7 * i) = p ∧ Nu.getV zs = Nu.getF i n (zs.drop i)) (fun _ _ u7 => len - (intOf u7).toNat)
  case atStart => exact ⟨0, 0, 1, by omega, by omega, rfl, rfl, rfl, by omega, by simp, rfl, rfl⟩
  case round =>
    obtain ⟨i, n, p, hi, hi8, rfl, rfl, rfl, n0, n1, hp, hx⟩ := hrel
    have hu := Nu.unit_le i hi8
    by_cases hlt : i < len
    · obtain ⟨blk, off, rfl, hcell⟩ := HC.out i hlt
      have hd : zs.drop i = zs.getD i 0 :: zs.drop (i + 1) := by
        rw [List.drop_eq_getElem_cons (by rw [HZ.out]; exact hlt), List.getD_eq_getElem?_getD, List.getElem?_eq_getElem (by rw [HZ.out]; exact hlt)]; rfl
      obtain ⟨b0, b1⟩ := HB.out (zs.getD i 0) (by rw [List.getD_eq_getElem?_getD, List.getElem?_eq_getElem (by rw [HZ.out]; exact hlt)]; exact List.getElem_mem _)
      rw [hd] at hx
      obtain ⟨c, hce⟩ : ∃ c, Hid (zs.getD i 0 = c) := ⟨_, rfl⟩
      rw [hce.out] at hx hcell b0 b1
      have HX := Lib.hid hx
      have N1 := Lib.hid n1
      have HP := Lib.hid hp
      have hm0 : 0 ≤ c % 128 := by omega
      have hm1 : c % 128 < 128 := by omega
      have hn2 : n < 72057594037927936 := by omega
      clear hx hd n1 hp hu
      by_cases h8 : i = 8
      · have k8 : ((i : Int) == 8) = true := by simp [h8]
        by_cases hz : c = 0
        · have HG := Lib.hid (Nu.getF_a (i := i) (n := n) (cs := zs.drop (i + 1)) ⟨hz, by omega⟩)
          subst hz
          clear h8
          go_wp2
          go_ret3
          exact ⟨ret_get (by rw [HX.out, HG.out]), rfl⟩
        · have k0 : (c == 0) = false := by simp; omega
          by_cases hB : 63 < c
          · have HG := Lib.hid (Nu.getF_b (i := i) (n := n) (c := c) (cs := zs.drop (i + 1)) (by omega) ⟨h8, hB⟩)
            clear h8 hz
            by_cases hC : 128 ≤ c
            all_goals
              go_wp2
              go_ret3
              exact ⟨ret_get (by rw [HX.out, HG.out]), rfl⟩
          · have HG := Lib.hid (Nu.getF_c (i := i) (n := n) (c := c) (cs := zs.drop (i + 1)) (by omega) (by omega) (by omega))
            have kd : decide (63 < c) = false := by simp; omega
            have kc : decide (128 ≤ c) = false := by simp; omega
            have H8 := Lib.hid h8
            clear h8 hz
            go_wp2
            go_ret3
            exact ⟨ret_get (by rw [HX.out, HG.out, H8.out]; refine Prod.ext ?_ rfl; simp only []; omega), rfl⟩
      · have k8 : ((i : Int) == 8) = false := by simp; omega
        have hi7 : i < 8 := by omega
        obtain ⟨m0, m1⟩ := Nu.mul_le i (c % 128) hi7 hm0 hm1
        obtain ⟨u1, u2⟩ := Nu.unit_le i (by omega)
        rw [HP.out] at m0 m1 u1 u2
        have HN := Lib.hid (Nu.next_lt i n (c % 128) n0 N1.out hm0 hm1)
        clear h8
        by_cases hC : c < 128
        · by_cases hA : c = 0 ∧ 0 < i
          · have HG := Lib.hid (Nu.getF_a (n := n) (cs := zs.drop (i + 1)) hA)
            have k0 : (c == 0) = true := by simp [hA.1]
            have hi0 := hA.2
            clear hA
            go_wp2
            go_ret3
            exact ⟨ret_get (by rw [HX.out, HG.out]), rfl⟩
          · have HG := Lib.hid (Nu.getF_c (n := n) (cs := zs.drop (i + 1)) hA (by omega) hC)
            by_cases hz : c = 0
            · obtain rfl : i = 0 := by omega
              have k0 : (c == 0) = true := by simp [hz]
              have hcell' : w.cell? ⟨blk, off, none⟩ = some (.int .u8 c) := by simpa using hcell
              clear hA hz hcell
              rw [show ((0 : Nat) : Int) = 0 from rfl]
              go_wp2
              go_ret3
              exact ⟨ret_get (by rw [HX.out, HG.out, HP.out]; rfl), rfl⟩
            · have k0 : (c == 0) = false := by simp; omega
              clear hA hz
              go_wp2
              go_ret3
              exact ⟨ret_get (by rw [HX.out, HG.out, HP.out]), rfl⟩
        · have HG := Lib.hid (Nu.getF_d (n := n) (cs := zs.drop (i + 1)) (c := c) (i := i) (by omega) (by omega) hC)
          have u3 : p * 128 ≤ 72057594037927936 := by rw [← HP.out, Nu.unit_next]; exact (Nu.unit_le (i + 1) (by omega)).2
          go_wp2
          go_round
          case rel => exact ⟨i + 1, n + c % 128 * p, p * 128, by omega, by omega, rfl, rfl, by go_num, by rw [← HP.out]; exact HN.out.1, by rw [← HP.out]; exact HN.out.2, by rw [← HP.out]; exact (Nu.unit_next i).symm, by rw [HX.out, HG.out, HP.out]⟩
          case measure => simp [intOf]; omega
    · have HX := Lib.hid hx
      have hd : zs.drop i = [] := List.drop_eq_nil_of_le (by rw [HZ.out]; omega)
      have HD := Lib.hid hd
      clear hx n1 hd hp hu
      go_wp2
      go_ret3
      exact ⟨ret_get (by rw [HX.out, HD.out]; rfl), rfl⟩
end Go.Proofs.Ythikjjcoejdjiaa
