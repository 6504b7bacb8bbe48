/- Plain facts on pixels as numbers: which numbers are pixels, which samples they have, and what is made of them. No condition. -/
import Derived.WalkKit
import Derived.Laws.BitsAllLaws
namespace Go.Proofs.Ytldhhhmihfcalaa
open Go.RowKit
namespace Pq
namespace Px

def hiP (p : Int) : Int := p / 281474976710656
def loP (p : Int) : Int := p % 281474976710656
/-- a pixel's samples -/
def smp (p : Int) : List Int :=
  if hiP p = 3 then [loP p / 4294967296, loP p / 65536 % 65536, loP p % 65536]
  else if hiP p = 1 ∧ loP p < 65536 then [loP p] else []
def Is3 (p a b c : Int) : Prop := p = 844424930131968 + a * 4294967296 + b * 65536 + c ∧ 0 ≤ a ∧ a ≤ 65535 ∧ 0 ≤ b ∧ b ≤ 65535 ∧ 0 ≤ c ∧ c ≤ 65535
def Is1 (p a : Int) : Prop := p = 281474976710656 + a ∧ 0 ≤ a ∧ a ≤ 65535
def Is0 (p : Int) : Prop := ¬ hiP p = 3 ∧ ¬ (hiP p = 1 ∧ loP p < 65536)
/-- a number fits a pixel's kind -/
def U (p : Int) : Prop := 0 ≤ p ∧ p ≤ 18446744073709551615
def I (n : Int) : Prop := -9223372036854775808 ≤ n ∧ n ≤ 9223372036854775807

theorem tri {p : Int} (h : U p) : (∃ a b c, Is3 p a b c) ∨ (∃ a, Is1 p a) ∨ Is0 p := by
  obtain ⟨h0, h1⟩ := h
  by_cases h3 : hiP p = 3
  · refine .inl ⟨loP p / 4294967296, loP p / 65536 % 65536, loP p % 65536, ?_⟩
    unfold hiP at h3; unfold Is3 loP; omega
  · by_cases h2 : hiP p = 1 ∧ loP p < 65536
    · refine .inr (.inl ⟨loP p, ?_⟩)
      unfold hiP loP at h2; unfold Is1 loP; omega
    · exact .inr (.inr ⟨h3, h2⟩)
theorem smp3 {p a b c : Int} (h : Is3 p a b c) : smp p = [a, b, c] := by
  obtain ⟨h0, h⟩ := h
  have e : hiP p = 3 := by unfold hiP; omega
  have e1 : loP p / 4294967296 = a := by unfold loP; omega
  have e2 : loP p / 65536 % 65536 = b := by unfold loP; omega
  have e3 : loP p % 65536 = c := by unfold loP; omega
  unfold smp; rw [if_pos e, e1, e2, e3]
theorem smp1 {p a : Int} (h : Is1 p a) : smp p = [a] := by
  obtain ⟨h0, h⟩ := h
  have e : ¬ hiP p = 3 := by unfold hiP; omega
  have e1 : loP p = a := by unfold loP; omega
  have e2 : hiP p = 1 ∧ loP p < 65536 := by unfold hiP loP; omega
  unfold smp; rw [if_neg e, if_pos e2, e1]
theorem smp0 {p : Int} (h : Is0 p) : smp p = [] := by
  unfold smp; rw [if_neg h.1, if_neg h.2]

theorem and16 (x : Int) (h0 : 0 ≤ x) (h1 : x ≤ 18446744073709551615) : bits .and .u64 x 65535 = x % 65536 := by
  rw [u64_and x 65535 h0 (by omega) (by omega) (by omega)]
  have e : (65535 : Int).toNat = 2 ^ 16 - 1 := by decide
  rw [e, Nat.and_two_pow_sub_one_eq_mod]
  omega
theorem or16 (x s : Int) (h0 : 0 ≤ x) (h1 : x < 281474976710656) (h2 : 0 ≤ s) (h3 : s < 65536) : bits .or .u64 (x * 65536) s = x * 65536 + s := by
  rw [u64_or (x * 65536) s (by omega) (by omega) h2 (by omega)]
  obtain ⟨X, rfl⟩ := Int.eq_ofNat_of_zero_le h0
  obtain ⟨S, rfl⟩ := Int.eq_ofNat_of_zero_le h2
  have e1 : ((X : Int) * 65536).toNat = 2 ^ 16 * X := by omega
  rw [e1, Int.toNat_natCast, ← Nat.two_pow_add_eq_or_of_lt (by omega : S < 2 ^ 16)]
  omega
theorem or48 (n s : Int) (h0 : 0 ≤ n) (h1 : n < 65536) (h2 : 0 ≤ s) (h3 : s < 281474976710656) : bits .or .u64 (n * 281474976710656) s = n * 281474976710656 + s := by
  rw [u64_or (n * 281474976710656) s (by omega) (by omega) h2 (by omega)]
  obtain ⟨X, rfl⟩ := Int.eq_ofNat_of_zero_le h0
  obtain ⟨S, rfl⟩ := Int.eq_ofNat_of_zero_le h2
  have e1 : ((X : Int) * 281474976710656).toNat = 2 ^ 48 * X := by omega
  rw [e1, Int.toNat_natCast, ← Nat.two_pow_add_eq_or_of_lt (by omega : S < 2 ^ 48)]
  omega
theorem or0 (s : Int) (h2 : 0 ≤ s) (h3 : s < 65536) : bits .or .u64 0 s = s := by
  have := or16 0 s (by omega) (by omega) h2 h3; simpa using this

theorem u64w (n : Int) (h0 : 0 ≤ n) (h1 : n ≤ 18446744073709551615) : IntKind.u64.wrap n = n := IntWalk.u64_in n ⟨h0, h1⟩
theorem join3v (a b c : Int) (ha0 : 0 ≤ a) (ha1 : a ≤ 65535) (hb0 : 0 ≤ b) (hb1 : b ≤ 65535) (hc0 : 0 ≤ c) (hc1 : c ≤ 65535) :
    bits .or .u64 844424930131968 (bits .or .u64 (IntKind.u64.wrap (bits .or .u64 (IntKind.u64.wrap (bits .or .u64 0 a * 65536)) b * 65536)) c) = 844424930131968 + a * 4294967296 + b * 65536 + c := by
  have e1 := or0 a ha0 (by omega)
  have e2 := u64w (a * 65536) (by omega) (by omega)
  have e3 := or16 a b ha0 (by omega) hb0 (by omega)
  have e4 := u64w ((a * 65536 + b) * 65536) (by omega) (by omega)
  have e5 := or16 (a * 65536 + b) c (by omega) (by omega) hc0 (by omega)
  have e6 := or48 3 ((a * 65536 + b) * 65536 + c) (by omega) (by omega) (by omega) (by omega)
  have e7 : (3 : Int) * 281474976710656 = 844424930131968 := rfl
  rw [e1, e2, e3, e4, e5, ← e7, e6]; omega
theorem join1v (a : Int) (ha0 : 0 ≤ a) (ha1 : a ≤ 65535) : bits .or .u64 281474976710656 (bits .or .u64 0 a) = 281474976710656 + a := by
  have e1 := or0 a ha0 (by omega)
  have e6 := or48 1 a (by omega) (by omega) (by omega) (by omega)
  have e7 : (1 : Int) * 281474976710656 = 281474976710656 := rfl
  rw [e1, ← e7, e6]

/-- what the document makes of samples -/
def okS (s : Int) : Bool := decide (0 ≤ s) && decide (s ≤ 65535)
def packV : List Int → Int × Int
  | [a] => if okS a then (281474976710656 + a, 0) else (0, 4)
  | [a, b, c] => if okS a && okS b && okS c then (844424930131968 + a * 4294967296 + b * 65536 + c, 0) else (0, 4)
  | _ => (0, 1)
theorem packV3_bad {x y z : Int} (h : x < 0 ∨ 65535 < x ∨ y < 0 ∨ 65535 < y ∨ z < 0 ∨ 65535 < z) : packV [x, y, z] = (0, 4) := by
  show (if (okS x && okS y && okS z) = true then _ else _) = _
  rw [if_neg]; simp [okS]; omega
theorem packV3 {x y z : Int} (hx0 : 0 ≤ x) (hx1 : x ≤ 65535) (hy0 : 0 ≤ y) (hy1 : y ≤ 65535) (hz0 : 0 ≤ z) (hz1 : z ≤ 65535) : packV [x, y, z] = (844424930131968 + x * 4294967296 + y * 65536 + z, 0) := by
  simp [packV, okS, hx0, hx1, hy0, hy1, hz0, hz1]
theorem packV3_badS {x y z : Int} (h : okS x = false ∨ okS y = false ∨ okS z = false) : packV [x, y, z] = (0, 4) := by
  show (if (okS x && okS y && okS z) = true then _ else _) = _
  rw [if_neg]; rcases h with h | h | h <;> simp [h]
theorem packV1_badS {x : Int} (h : okS x = false) : packV [x] = (0, 4) := by
  show (if okS x = true then _ else _) = _
  rw [if_neg]; simp [h]
theorem okS_of {x : Int} (h : okS x = true) : 0 ≤ x ∧ x ≤ 65535 := by simpa [okS] using h
theorem packV1_bad {x : Int} (h : x < 0 ∨ 65535 < x) : packV [x] = (0, 4) := by
  show (if okS x = true then _ else _) = _
  rw [if_neg]; simp [okS]; omega
theorem packV1 {x : Int} (hx0 : 0 ≤ x) (hx1 : x ≤ 65535) : packV [x] = (281474976710656 + x, 0) := by
  simp [packV, okS, hx0, hx1]
theorem packV_len {zs : List Int} (h1 : ¬ zs.length = 1) (h3 : ¬ zs.length = 3) : packV zs = (0, 1) := by
  match zs with
  | [] => rfl
  | [_] => simp at h1
  | [_, _] => rfl
  | [_, _, _] => simp at h3
  | _ :: _ :: _ :: _ :: _ => rfl
def mayV (p : Int) : Bool := !(smp p).isEmpty
def formatV (c m : Int) : Bool := (c == 1 || c == 3) && (decide (1 ≤ m) && decide (m ≤ 65535))
def fitsV (p c m : Int) : Bool := formatV c m && ((smp p).length == c.toNat && (smp p).all fun s => decide (s ≤ m))
def grayV (p : Int) : Int × Int := match smp p with
  | [_] => (p, 0)
  | [a, b, c] => (281474976710656 + (299 * a + 587 * b + 114 * c + 500) / 1000, 0)
  | _ => (0, 1)
def turnedV (p c m : Int) : Int × Int := if fitsV p c m then packV ((smp p).map fun s => m - s) else (0, 1)
def okM (m : Int) : Bool := decide (1 ≤ m) && decide (m ≤ 65535)
def scaledV (p a b : Int) : Int × Int :=
  if okM a && okM b && (!(smp p).isEmpty && (smp p).all fun s => decide (s ≤ a)) then packV ((smp p).map fun s => (s * b + a / 2) / a) else (0, 1)
def aroundV (n most : Int) : Int := (if n < 0 then -(n + 1) else n) % most
def formC (c : Int) : Int := if c % 2 = 0 then 1 else 3
def formM (m : Int) : Int := 1 + aroundV m 65535
def goodL (zs : List Int) (m : Int) : Nat → List Int
  | 0 => []
  | k + 1 => (match zs with | [] => 0 | z :: _ => aroundV z (m + 1)) :: goodL zs.tail m k
def goodV (zs : List Int) (c m : Int) : Int := (packV (goodL zs m c.toNat)).1

theorem fitsV3 {p a b d : Int} (h : Is3 p a b d) (m : Int) : fitsV p 3 m = (formatV 3 m && decide (max (max a b) d ≤ m)) := by
  unfold fitsV; rw [smp3 h]
  by_cases h1 : a ≤ m <;> by_cases h2 : b ≤ m <;> by_cases h3 : d ≤ m <;> simp [h1, h2, h3] <;> omega
theorem fitsV1 {p a : Int} (h : Is1 p a) (m : Int) : fitsV p 1 m = (formatV 1 m && decide (a ≤ m)) := by
  unfold fitsV; rw [smp1 h]
  by_cases h1 : a ≤ m <;> simp [h1]
theorem fitsV_bad {p c m : Int} (h : formatV c m = false) : fitsV p c m = false := by unfold fitsV; rw [h]; rfl
theorem formatC {c m : Int} (h : formatV c m = true) : c = 1 ∨ c = 3 := by
  simp [formatV] at h; exact h.1
theorem formatM {c m : Int} (h : formatV c m = true) : 1 ≤ m ∧ m ≤ 65535 := by
  simp [formatV] at h; exact h.2
theorem fitsV_len {p c m : Int} (h : ((smp p).length : Int) ≠ c) : fitsV p c m = false := by
  cases hf : formatV c m
  · exact fitsV_bad hf
  · unfold fitsV
    have := formatC hf
    rw [show ((smp p).length == c.toNat) = false by rw [beq_eq_false_iff_ne]; omega]; simp
theorem around_lt (n most : Int) (h : 0 < most) : 0 ≤ aroundV n most ∧ aroundV n most < most := by
  unfold aroundV; exact ⟨Int.emod_nonneg _ (by omega), Int.emod_lt_of_pos _ h⟩
end Px
end Pq
end Go.Proofs.Ytldhhhmihfcalaa
