/- How far a word is known: by the document's tree. No condition but that lengths fit. -/
import Derived.Test.YtehmbnloplamaaaTrO
import Derived.Test.YtehmbnloplamaaaTrD
namespace Go.Proofs.Ytehmbnloplamaaa
open Go.RowKit
set_option linter.unusedVariables false
open Tr
theorem Tr.known_from {L : LL} (hI : Inv L) {l : List Int} {k : Nat} (hk : k ≤ l.length) (hm : l.take k ∈ L) (ha : ∀ j, k < j → j ≤ l.length → l.take j ∉ L) : known L l = k :=
  known_eq hI hk hm (by
    rcases Nat.lt_or_ge k l.length with h | h
    · exact .inr (ha (k + 1) (by omega) h)
    · exact .inl (by omega))
end Go.Proofs.Ytehmbnloplamaaa
