/- Rows of bits, as lists of numbers: bytes told as bits, bits told as bytes, what runs. Plain facts; no memory. No condition. -/
import Derived.Test.YtjjpnipcpnkakaaProg
namespace Go.Proofs.Ytjjpnipcpnkakaa
set_option linter.unusedVariables false
namespace Bt
/-- how many bytes a row has -/
def bytesV (w : Int) : Int := if w < 1 ∨ 4096 < w then 0 else (w + 7) / 8
/-- a byte's bits, the highest first -/
def eight (c : Int) : List Int := [c / 128 % 2, c / 64 % 2, c / 32 % 2, c / 16 % 2, c / 8 % 2, c / 4 % 2, c / 2 % 2, c % 2]
theorem eight_len (c : Int) : (eight c).length = 8 := rfl
theorem eight_01 (c : Int) : ∀ x ∈ eight c, x = 0 ∨ x = 1 := by
  intro x hx; simp only [eight, List.mem_cons, List.not_mem_nil, or_false] at hx; omega
def bitsOf : List Int → List Int
  | [] => []
  | c :: l => eight c ++ bitsOf l
theorem bitsOf_len : ∀ l : List Int, (bitsOf l).length = 8 * l.length
  | [] => rfl
  | c :: l => by simp [bitsOf, bitsOf_len l, eight_len]; omega
theorem bitsOf_01 : ∀ (l : List Int), ∀ x ∈ bitsOf l, x = 0 ∨ x = 1
  | [], x, hx => by simp [bitsOf] at hx
  | c :: l, x, hx => by
    rcases List.mem_append.1 hx with h | h
    · exact eight_01 c x h
    · exact bitsOf_01 l x h
theorem bitsOf_append : ∀ a b : List Int, bitsOf (a ++ b) = bitsOf a ++ bitsOf b
  | [], b => rfl
  | c :: a, b => by simp [bitsOf, bitsOf_append a b]
/-- the number of bits, the highest first -/
def num : List Int → Int → Int
  | [], n => n
  | x :: l, n => num l (n * 2 + x)
theorem num_append : ∀ (a b : List Int) (n : Int), num (a ++ b) n = num b (num a n)
  | [], b, n => rfl
  | x :: a, b, n => by simp [num, num_append a b]
/-- a part of at most eight, with noughts behind it -/
def pad (l : List Int) : List Int := l ++ List.replicate (8 - l.length) 0
theorem pad_len (l : List Int) (h : l.length ≤ 8) : (pad l).length = 8 := by simp [pad]; omega
def packB (l : List Int) : List Int :=
  if h : l = [] then [] else num (pad (l.take 8)) 0 :: packB (l.drop 8)
termination_by l.length
decreasing_by have : l.length ≠ 0 := fun e => h (List.eq_nil_of_length_eq_zero e); simp; omega
theorem packB_nil : packB [] = [] := by rw [packB]; simp
theorem packB_more {l : List Int} (h : l ≠ []) : packB l = num (pad (l.take 8)) 0 :: packB (l.drop 8) := by rw [packB, dif_neg h]
def Ones (l : List Int) : Prop := ∀ x ∈ l, x = 0 ∨ x = 1
instance (l : List Int) : Decidable (Ones l) := by unfold Ones; exact inferInstance
def packOk (l : List Int) : Bool := decide (1 ≤ l.length) && decide (l.length ≤ 4096) && decide (Ones l)
def packV (l : List Int) : List Int := if packOk l then packB l else []
def packE (l : List Int) : Int := if packOk l then 0 else 1
/-- the error of a row that is unpacked -/
def rowE (n : Nat) (w : Int) : Int := if bytesV w = 0 then 1 else if (n : Int) < bytesV w then 6 else 0
def unpackV (zs : List Int) (w : Int) : List Int := if rowE zs.length w = 0 then (bitsOf zs).take w.toNat else []
end Bt
end Go.Proofs.Ytjjpnipcpnkakaa
