/- The number that bytes begin with, over any memory, of num. Condition: bytes are bytes. -/
import Derived.Test.YthikjjcoejdjiaaNumC
namespace Go.Proofs.Ythikjjcoejdjiaa
open Go.RowKit Go.Shelf
set_option linter.unusedVariables false

/-- what is told behind i bytes, of which n is told -/
def Nu.getF : Nat → Int → List Int → Int × Int × Int
  | _, _, [] => (0, 0, 6)
  | i, n, c :: cs => if c = 0 ∧ 0 < i then (0, 0, 10) else if i = 8 ∧ 63 < c then (0, 0, 4) else if c < 128 then (n + c % 128 * 2 ^ (7 * i), i + 1, 0) else Nu.getF (i + 1) (n + c % 128 * 2 ^ (7 * i)) cs
def Nu.getV (l : List Int) : Int × Int × Int := Nu.getF 0 0 l

theorem i64_or_nat (a b : Nat) (ha : a < 9223372036854775808) (hb : b < 9223372036854775808) : bits .or .i64 (a : Int) (b : Int) = ((a ||| b : Nat) : Int) := by
  have hx : a ||| b < 2 ^ 63 := Nat.or_lt_two_pow (by omega) (by omega)
  show IntKind.i64.wrap ((BitVec.ofInt 64 (a : Int) ||| BitVec.ofInt 64 (b : Int)).toNat : Int) = _
  rw [BitVec.toNat_or, ofInt_u64 a (by omega), ofInt_u64 b (by omega)]
  exact IntWalk.i64_in _ (by constructor <;> omega)
theorem Nu.pow_le {i : Nat} (h : i ≤ 8) : (2 : Nat) ^ (7 * i) ≤ 72057594037927936 := by
  have : (2 : Nat) ^ (7 * i) ≤ 2 ^ 56 := Nat.pow_le_pow_right (by omega) (by omega)
  have e : (2 : Nat) ^ 56 = 72057594037927936 := by decide
  omega
/-- a digit is laid behind those that are there -/
theorem Nu.or_digit (i : Nat) (n d : Int) (hi : i ≤ 8) (n0 : 0 ≤ n) (n1 : n < 2 ^ (7 * i)) (d0 : 0 ≤ d) (d1 : d < 128) (d8 : i = 8 → d ≤ 63) :
    bits .or .i64 n (wrap64 (d * 2 ^ (7 * (i : Int)).toNat)) = n + d * 2 ^ (7 * i) := by
  have e7 : (7 * (i : Int)).toNat = 7 * i := by omega
  rw [e7]
  obtain ⟨N, rfl⟩ := Int.eq_ofNat_of_zero_le n0
  obtain ⟨D, rfl⟩ := Int.eq_ofNat_of_zero_le d0
  have hp := Nu.pow_le hi
  have hcast : ((2 : Int) ^ (7 * i)) = ((2 ^ (7 * i) : Nat) : Int) := by simp
  rw [hcast] at n1 ⊢
  generalize hP : (2 : Nat) ^ (7 * i) = p at *
  have hDP : D * p < 9223372036854775808 := by
    by_cases h8 : i = 8
    · have := d8 h8
      have : D * p ≤ 63 * 72057594037927936 := Nat.mul_le_mul (by omega) hp
      omega
    · have hp2 : p ≤ 562949953421312 := by
        have : (2 : Nat) ^ (7 * i) ≤ 2 ^ 49 := Nat.pow_le_pow_right (by omega) (by omega)
        have e : (2 : Nat) ^ 49 = 562949953421312 := by decide
        omega
      have : D * p ≤ 127 * 562949953421312 := Nat.mul_le_mul (by omega) hp2
      omega
  have e2 : wrap64 ((D : Int) * (p : Int)) = ((D * p : Nat) : Int) := by
    rw [← Int.natCast_mul]; exact IntWalk.wrap64_in _ (by constructor <;> omega)
  rw [e2, i64_or_nat N (D * p) (by omega) hDP, Nat.or_comm, nat_join (7 * i) (D * p) N (by rw [hP]; exact Nat.mul_mod_left _ _) (by rw [hP]; omega)]
  push_cast
  omega
theorem Nu.next_lt (i : Nat) (n d : Int) (n0 : 0 ≤ n) (n1 : n < 2 ^ (7 * i)) (d0 : 0 ≤ d) (d1 : d < 128) : 0 ≤ n + d * 2 ^ (7 * i) ∧ n + d * 2 ^ (7 * i) < 2 ^ (7 * (i + 1)) := by
  have hp : (0 : Int) < 2 ^ (7 * i) := Int.pow_pos (by omega)
  have e : (2 : Int) ^ (7 * (i + 1)) = 2 ^ (7 * i) * 128 := by rw [show 7 * (i + 1) = 7 * i + 7 by omega, Int.pow_add]; rfl
  rw [e]
  generalize (2 : Int) ^ (7 * i) = p at *
  have h1 : 0 ≤ d * p := Int.mul_nonneg d0 (by omega)
  have h2 : d * p ≤ 127 * p := Int.mul_le_mul_of_nonneg_right (by omega) (by omega)
  omega

def GetR (zs : List Int) (w : World) (e : Ending) (w' : World) : Prop :=
  e = .returned (.tuple #[.int .i64 (Nu.getV zs).1, .int .i64 (Nu.getV zs).2.1, .int .i64 (Nu.getV zs).2.2]) ∧ w = w'
theorem ret_get {a b c : Int} {t : Int × Int × Int} (h : t = (a, b, c)) : Ending.returned (.tuple #[.int .i64 a, .int .i64 b, .int .i64 c]) = .returned (.tuple #[.int .i64 t.1, .int .i64 t.2.1, .int .i64 t.2.2]) := by rw [h]

theorem Nu.getF_a {i : Nat} {n c : Int} {cs : List Int} (h : c = 0 ∧ 0 < i) : Nu.getF i n (c :: cs) = (0, 0, 10) := by rw [Nu.getF, if_pos h]
theorem Nu.getF_b {i : Nat} {n c : Int} {cs : List Int} (h : ¬ (c = 0 ∧ 0 < i)) (h' : i = 8 ∧ 63 < c) : Nu.getF i n (c :: cs) = (0, 0, 4) := by rw [Nu.getF, if_neg h, if_pos h']
theorem Nu.getF_c {i : Nat} {n c : Int} {cs : List Int} (h : ¬ (c = 0 ∧ 0 < i)) (h' : ¬ (i = 8 ∧ 63 < c)) (h3 : c < 128) : Nu.getF i n (c :: cs) = (n + c % 128 * 2 ^ (7 * i), (i : Int) + 1, 0) := by rw [Nu.getF, if_neg h, if_neg h', if_pos h3]
theorem Nu.getF_d {i : Nat} {n c : Int} {cs : List Int} (h : ¬ (c = 0 ∧ 0 < i)) (h' : ¬ (i = 8 ∧ 63 < c)) (h3 : ¬ c < 128) : Nu.getF i n (c :: cs) = Nu.getF (i + 1) (n + c % 128 * 2 ^ (7 * i)) cs := by rw [Nu.getF, if_neg h, if_neg h', if_neg h3]

set_option maxRecDepth 100000 in
set_option maxHeartbeats 2000000 in
theorem get_any (a : Option Addr) (len cap : Nat) (zs : List Int) (w : World) (hlen : len ≤ 9223372036854775807) (hs : SlK .u8 w a len zs) (hz : ∀ x ∈ zs, 0 ≤ x ∧ x ≤ 255) :
    Calls Try.prog 22 #[.slice a len cap] w (GetR zs w) := by
  obtain ⟨hzl, hc⟩ := hs
  have HZ := Lib.hid hzl
  have HC : Hid (∀ i, i < len → ∃ blk off, a = some ⟨blk, off, none⟩ ∧ w.cell? ⟨blk, off + i, none⟩ = some (.int .u8 (zs.getD i 0))) := by
    intro i hi
    rcases hc with h | ⟨blk, off, h1, h2⟩
    · omega
    · exact ⟨blk, off, h1, h2 i hi⟩
  have HB := Lib.hid hz
  clear hzl hc hz
  go_enter Try.func22, Try.ntmps22
  go_wp2
  go_loop [5, 10] (fun u5 u10 => ∃ (i : Nat) (n : Int), i ≤ len ∧ i ≤ 8 ∧ u5 = .int .i64 n ∧ u10 = .int .i64 i ∧ 0 ≤ n ∧ n < 2 ^ (7 * i) ∧ Nu.getV zs = Nu.getF i n (zs.drop i)) (fun _ u10 => len - (intOf u10).toNat)
  case atStart => exact ⟨0, 0, by omega, by omega, rfl, rfl, by omega, by simp, rfl⟩
  case round =>
    obtain ⟨i, n, hi, hi8, rfl, rfl, n0, n1, hx⟩ := hrel
    by_cases hlt : i < len
    · obtain ⟨blk, off, rfl, hcell⟩ := HC.out i hlt
      have hd : zs.drop i = zs.getD i 0 :: zs.drop (i + 1) := by
        rw [List.drop_eq_getElem_cons (by rw [HZ.out]; exact hlt), List.getD_eq_getElem?_getD, List.getElem?_eq_getElem (by rw [HZ.out]; exact hlt)]; rfl
      obtain ⟨b0, b1⟩ := HB.out (zs.getD i 0) (by rw [List.getD_eq_getElem?_getD, List.getElem?_eq_getElem (by rw [HZ.out]; exact hlt)]; exact List.getElem_mem _)
      rw [hd] at hx
      obtain ⟨c, hce⟩ : ∃ c, Hid (zs.getD i 0 = c) := ⟨_, rfl⟩
      rw [hce.out] at hx hcell b0 b1
      have HX := Lib.hid hx
      have N1 := Lib.hid n1
      have hm0 : 0 ≤ c % 128 := by omega
      have hm1 : c % 128 < 128 := by omega
      clear hx hd n1
      by_cases hA : c = 0 ∧ 0 < i
      · have HG := Lib.hid (Nu.getF_a (n := n) (cs := zs.drop (i + 1)) hA)
        obtain ⟨hc0, hi0⟩ := hA
        have k0 : (c == 0) = true := by simp [hc0]
        clear hc0
        go_wp2
        go_ret3
        exact ⟨ret_get (by rw [HX.out, HG.out]), rfl⟩
      by_cases hB : i = 8 ∧ 63 < c
      · have HG := Lib.hid (Nu.getF_b (n := n) (cs := zs.drop (i + 1)) hA hB)
        obtain ⟨h8, h63⟩ := hB
        have k0 : (c == 0) = false := by simp; omega
        have k8 : ((i : Int) == 8) = true := by simp [h8]
        clear hA h8
        go_wp2
        go_ret3
        exact ⟨ret_get (by rw [HX.out, HG.out]), rfl⟩
      have HOR := Lib.hid (Nu.or_digit i n (c % 128) hi8 n0 N1.out hm0 hm1 (by omega))
      have HOR2 : Hid (bits .or .i64 n (wrap64 (c % 128 * 2 ^ (7 * i))) = n + c % 128 * 2 ^ (7 * i)) := by
        have := HOR.out
        rwa [show (7 * (i : Int)).toNat = 7 * i by omega] at this
      have HN := Lib.hid (Nu.next_lt i n (c % 128) n0 N1.out hm0 hm1)
      have HT : Hid (i = 8 → c ≤ 63) := fun h8 => by omega
      by_cases hC : c < 128
      · have HG := Lib.hid (Nu.getF_c (n := n) (cs := zs.drop (i + 1)) hA hB hC)
        by_cases hz : c = 0
        · obtain rfl : i = 0 := by omega
          subst hz
          obtain rfl : n = 0 := by have := N1.out; simp at this; omega
          clear hA hB
          have hcell' : w.cell? ⟨blk, off, none⟩ = some (.int .u8 0) := by simpa using hcell
          clear hcell
          rw [show ((0 : Nat) : Int) = 0 from rfl]
          go_wp2
          go_ret3
          exact ⟨ret_get (by rw [HX.out, HG.out]; decide), rfl⟩
        · by_cases h8 : i = 8
          · have kd : decide (63 < c) = false := by simp; omega
            have k0 : (c == 0) = false := by simp; omega
            have k8 : ((i : Int) == 8) = true := by simp [h8]
            clear hA hB h8 hz
            go_wp2
            go_ret3
            exact ⟨ret_get (by rw [HX.out, HG.out]; first | (rw [← HOR2.out]; done) | (rw [← HOR.out]; done)), rfl⟩
          · have k0 : (c == 0) = false := by simp; omega
            have k8 : ((i : Int) == 8) = false := by simp; omega
            clear hA hB h8 hz
            go_wp2
            go_ret3
            exact ⟨ret_get (by rw [HX.out, HG.out]; first | (rw [← HOR2.out]; done) | (rw [← HOR.out]; done)), rfl⟩
      · have HG := Lib.hid (Nu.getF_d (n := n) (cs := zs.drop (i + 1)) hA hB hC)
        have h8 : i < 8 := by omega
        have k0 : (c == 0) = false := by simp; omega
        have k8 : ((i : Int) == 8) = false := by simp; omega
        clear hA hB
        go_wp2
        go_round
        case rel => exact ⟨i + 1, n + c % 128 * 2 ^ (7 * i), by omega, by omega, by first | (rw [← HOR2.out]; done) | (rw [← HOR.out]; done), by go_num, HN.out.1, HN.out.2, by rw [HX.out, HG.out]⟩
        case measure => simp [intOf]; omega
    · have HX := Lib.hid hx
      have hd : zs.drop i = [] := List.drop_eq_nil_of_le (by rw [HZ.out]; omega)
      have HD := Lib.hid hd
      clear hx n1 hd
      go_wp2
      go_ret3
      exact ⟨ret_get (by rw [HX.out, HD.out]; rfl), rfl⟩
end Go.Proofs.Ythikjjcoejdjiaa
