/- The head that a text begins with, by the document, over any memory. Condition: the text is short. -/
import Derived.Test.YtkphfpckkmendaaHedIT
import Derived.Test.YtkphfpckkmendaaHedIF
namespace Go.Proofs.Ytkphfpckkmendaa
open Go.RowKit
theorem refParse_go (s : ByteArray) (hs : s.size ≤ 100000) (a b c : Int) (w : World) (h : 2 < s.size) (z1 : (s[0].toNat : Int) = 80) (z3 : 49 ≤ (s[1].toNat : Int) ∧ (s[1].toNat : Int) ≤ 54) (z5 : Tk.blank (s[2].toNat : Int) = true ∨ (s[2].toNat : Int) = 35) :
    Calls Try.prog 12 #[.string s, .agg #[.int .i64 a, .int .i64 b, .int .i64 c]] w (RParR s (Hd.limits a b c) w) := by
  cases hb : Hd.bits ((s[1].toNat : Int) - 48)
  · exact refParse_F s hs a b c w h z1 z3 z5 hb
  · exact refParse_T s hs a b c w h z1 z3 z5 hb
/-- the document's Parse, of any short text -/
theorem refParse_any (s : ByteArray) (hs : s.size ≤ 100000) (a b c : Int) (w : World) :
    Calls Try.prog 12 #[.string s, .agg #[.int .i64 a, .int .i64 b, .int .i64 c]] w (RParR s (Hd.limits a b c) w) := by
  by_cases h2 : 2 < s.size
  · by_cases hz : (s[0].toNat : Int) = 80 ∧ (49 ≤ (s[1].toNat : Int) ∧ (s[1].toNat : Int) ≤ 54) ∧ (Tk.blank (s[2].toNat : Int) = true ∨ (s[2].toNat : Int) = 35)
    · exact refParse_go s hs a b c w h2 hz.1 hz.2.1 hz.2.2
    · exact refParse_early s hs a b c w (.inl (fun hh => hz (hh h2)))
  · exact refParse_early s hs a b c w (.inr (by omega))
end Go.Proofs.Ytkphfpckkmendaa
