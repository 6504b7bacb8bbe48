/- A matrix that Good made, laid by the document, over any memory. Condition: the turn is one. -/
import Derived.Test.YtlihkdbbcnmbmaaTurN
namespace Go.Proofs.Ytlihkdbbcnmbmaa
open Go.RowKit
set_option linter.unusedVariables false

theorem refLayG {most W H g : Nat} {L : List Int} {n : Nat} (h : Mk most W H L) (hm : most ≤ 8) (hg : g < 8) (hn : W * H = n) (a : Option Addr) (c : Nat) (hc : n ≤ c) (hc2 : c ≤ 9223372036854775807) (w : World) (hs : SlK .u64 w a n L) :
    Calls Try.prog 40 #[.agg #[.int .i64 W, .int .i64 H, .slice a n c], .int .i64 g] w fun e w' => ∃ ad cap, e = .returned (.tuple #[.agg #[.int .i64 (Tu.sw g W H : Nat), .int .i64 (Tu.sw g H W : Nat), .slice ad n cap], .int .i64 0]) ∧ SlK .u64 w' ad n (Tu.layL g W H L) ∧ n ≤ cap ∧ cap ≤ 9223372036854775807 ∧ Below w.heap.size w w' := by
  obtain ⟨a1, a2, a3, a4, a5⟩ := h
  have hl : L.length = n := a5.trans hn
  have := refLay_any W H g a c L hg a1 (by omega) a3 (by omega) a5 (by rw [hl]; exact hc) hc2 w (by rw [hl]; exact hs)
  rw [hl, hn] at this
  exact this
end Go.Proofs.Ytlihkdbbcnmbmaa
