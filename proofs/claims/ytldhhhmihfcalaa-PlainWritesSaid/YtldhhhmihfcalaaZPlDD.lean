/- What a reader of digits makes of a sample, over any memory. Condition: its head may be, its numbers are samples. -/
import Derived.Test.YtldhhhmihfcalaaZPlD
namespace Go.Proofs.Ytldhhhmihfcalaa
open Go.RowKit
set_option linter.unusedVariables false

/-- what take comes to -/
theorem plTake_any {s : Pl.S} (hG : Pl.Good s) (h0 : s.last = 0) (n : Int) {b : Nat} {sv rv x : Value} {w : World} (T : PlT w b s.h sv rv n sv rv s.one s.row s.rows 0 x w) :
    Calls Try.prog 82 #[.pointer (some ⟨b, 0, none⟩)] w (TakeR w b s.h sv rv x (Pl.sample s n).1.one (Pl.sample s n).1.row (Pl.sample s n).1.rows (Pl.sample s n).1.last (Pl.sample s n).2) := by
  have hm := hG.may.m
  have hc := Hj.chan_at s.h
  have ho := hG.one
  have hr := hG.row
  have l1 : s.one.length ≤ 3 := by omega
  have l2 : s.row.length ≤ 4096 := by omega
  unfold Pl.sample
  by_cases h1 : (s.one.length : Int) + 1 < Hj.chan s.h
  · rw [if_pos h1]
    exact take_more hG.may T l1 l2 hG.rows0 (hG.rows1 h0) h1
  rw [if_neg h1]
  by_cases h2 : (s.row.length : Int) + 1 < s.h.w
  · rw [if_pos h2]
    exact take_pixel hG.may T l1 l2 hG.rows0 (hG.rows1 h0) h1 ho h2
  rw [if_neg h2]
  by_cases h3 : s.rows + 1 = s.h.h
  · have e : (Pl.line s n).last = 1 := if_pos h3
    show Calls _ _ _ _ (TakeR w b s.h sv rv x [] [] (s.rows + 1) (Pl.line s n).last (s.row ++ [Pl.pix s n]))
    rw [e]
    exact take_over hG.may T l1 l2 hG.rows0 (hG.rows1 h0) h1 ho h2 hr h3
  · have e : (Pl.line s n).last = 0 := if_neg h3
    show Calls _ _ _ _ (TakeR w b s.h sv rv x [] [] (s.rows + 1) (Pl.line s n).last (s.row ++ [Pl.pix s n]))
    rw [e]
    exact take_row hG.may T l1 l2 hG.rows0 (hG.rows1 h0) h1 ho h2 hr h3
end Go.Proofs.Ytldhhhmihfcalaa
