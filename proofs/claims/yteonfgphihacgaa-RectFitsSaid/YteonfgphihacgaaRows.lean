/-
  No cell of these rows narrows 'for every input' (looked for: loops, veiled, ifaces, maps, wideKeys, modest, calm, conditions, laid).
  DERIVED. THE GIVEN ROWS OF THIS SEAT. 9 by the template 'for every input the law returns true; each argument reads behind the call as it read before'; 0 by the template 'total and deterministic' (their statements: YteonfgphihacgaaTotals.lean).
  GIVEN WITH THE SEED: the statements are not yours to turn. If you find one false, say at which input.
  Laid BY PROGRAM, IN A SANDBOX (cutbox-rows.mjs): the forced cells as the released guide's own fill.sh prints them over the translation 9145703d6f962897… (all of the seat's roots in one cut). By AI agents, Wed Nov 11 2026. No macro, syntax, notation, axiom, sorry.
-/
import Derived.Test.YteonfgphihacgaaChecked
import GoSem.Claim
import GoSem.ClaimJoined
import GoSem.ClaimMapViews
import Derived.JoinedTies
import Derived.KernelRfl
namespace Go.Proofs.Yteonfgphihacgaa
/- THE CELL 'sum', in the pinned program and in every row, IS THE sha256 OF THE DUMP (.gsa) THAT YteonfgphihacgaaProg.lean LOADS. Nothing in Lean hashes anything: it is a label: what it is worth is what the hold of that sum in a sandbox is worth. -/
noncomputable def Try.pinned : Pinned := { name := "yteonfgphihacgaa", sum := "9145703d6f962897daf279639b6b378d1780e311c76c28a58cf23fb15665deac", checked := Try.checked }
namespace Rows
def none {H : Type} : Left H := { results := [], args := [] }

/-- 'chequerlaw05.TokenReads': WHATEVER THE INPUT: true; the input reads as it did. -/
def tokenReadsSpec : ChangeSpec := { name := "tokenReads", fn := fun _ => fun
  | [d1, d2] => { results := [.lit (.bool true)], args := [d1, d2] }
  | _ => none }
def tokenReadsRow : OpenClaim := { program := "yteonfgphihacgaa", sum := "9145703d6f962897daf279639b6b378d1780e311c76c28a58cf23fb15665deac", func := "chequer/chequerlaw05.TokenReads", spec := "tokenReads", unfollowed := true, recurses := true, apart := false }
def TokenReadsSaid : Prop := tokenReadsRow.holds Try.pinned (OpenSpec.ofChange tokenReadsSpec)

/-- ITS FALSE NEIGHBOUR: 'it returns false'. Refute it at one input. -/
def tokenReadsWrong : ChangeSpec := { name := "tokenReads", fn := fun _ => fun
  | [d1, d2] => { results := [.lit (.bool false)], args := [d1, d2] }
  | _ => none }
def TokenReadsWrongFalsely : Prop := tokenReadsRow.holds Try.pinned (OpenSpec.ofChange tokenReadsWrong)

/-- 'chequerlaw05.TokenAll': WHATEVER THE INPUT: true; the input reads as it did. -/
def tokenAllSpec : ChangeSpec := { name := "tokenAll", fn := fun _ => fun
  | [d1, d2] => { results := [.lit (.bool true)], args := [d1, d2] }
  | _ => none }
def tokenAllRow : OpenClaim := { program := "yteonfgphihacgaa", sum := "9145703d6f962897daf279639b6b378d1780e311c76c28a58cf23fb15665deac", func := "chequer/chequerlaw05.TokenAll", spec := "tokenAll", unfollowed := true, recurses := true, apart := false }
def TokenAllSaid : Prop := tokenAllRow.holds Try.pinned (OpenSpec.ofChange tokenAllSpec)

/-- ITS FALSE NEIGHBOUR: 'it returns false'. Refute it at one input. -/
def tokenAllWrong : ChangeSpec := { name := "tokenAll", fn := fun _ => fun
  | [d1, d2] => { results := [.lit (.bool false)], args := [d1, d2] }
  | _ => none }
def TokenAllWrongFalsely : Prop := tokenAllRow.holds Try.pinned (OpenSpec.ofChange tokenAllWrong)

/-- 'chequerlaw05.TokenRemarks': WHATEVER THE INPUT: true; the input reads as it did. -/
def tokenRemarksSpec : ChangeSpec := { name := "tokenRemarks", fn := fun _ => fun
  | [d1, d2, d3] => { results := [.lit (.bool true)], args := [d1, d2, d3] }
  | _ => none }
def tokenRemarksRow : OpenClaim := { program := "yteonfgphihacgaa", sum := "9145703d6f962897daf279639b6b378d1780e311c76c28a58cf23fb15665deac", func := "chequer/chequerlaw05.TokenRemarks", spec := "tokenRemarks", unfollowed := true, recurses := true, apart := false }
def TokenRemarksSaid : Prop := tokenRemarksRow.holds Try.pinned (OpenSpec.ofChange tokenRemarksSpec)

/-- ITS FALSE NEIGHBOUR: 'it returns false'. Refute it at one input. -/
def tokenRemarksWrong : ChangeSpec := { name := "tokenRemarks", fn := fun _ => fun
  | [d1, d2, d3] => { results := [.lit (.bool false)], args := [d1, d2, d3] }
  | _ => none }
def TokenRemarksWrongFalsely : Prop := tokenRemarksRow.holds Try.pinned (OpenSpec.ofChange tokenRemarksWrong)

/-- 'chequerlaw05.TokenRound': WHATEVER THE INPUT: true; the input reads as it did. -/
def tokenRoundSpec : ChangeSpec := { name := "tokenRound", fn := fun _ => fun
  | [d1, d2] => { results := [.lit (.bool true)], args := [d1, d2] }
  | _ => none }
def tokenRoundRow : OpenClaim := { program := "yteonfgphihacgaa", sum := "9145703d6f962897daf279639b6b378d1780e311c76c28a58cf23fb15665deac", func := "chequer/chequerlaw05.TokenRound", spec := "tokenRound", unfollowed := true, recurses := true, apart := false }
def TokenRoundSaid : Prop := tokenRoundRow.holds Try.pinned (OpenSpec.ofChange tokenRoundSpec)

/-- ITS FALSE NEIGHBOUR: 'it returns false'. Refute it at one input. -/
def tokenRoundWrong : ChangeSpec := { name := "tokenRound", fn := fun _ => fun
  | [d1, d2] => { results := [.lit (.bool false)], args := [d1, d2] }
  | _ => none }
def TokenRoundWrongFalsely : Prop := tokenRoundRow.holds Try.pinned (OpenSpec.ofChange tokenRoundWrong)

/-- 'chequerlaw05.TokenParts': WHATEVER THE INPUT: true; the input reads as it did. -/
def tokenPartsSpec : ChangeSpec := { name := "tokenParts", fn := fun _ => fun
  | [d1, d2, d3, d4] => { results := [.lit (.bool true)], args := [d1, d2, d3, d4] }
  | _ => none }
def tokenPartsRow : OpenClaim := { program := "yteonfgphihacgaa", sum := "9145703d6f962897daf279639b6b378d1780e311c76c28a58cf23fb15665deac", func := "chequer/chequerlaw05.TokenParts", spec := "tokenParts", unfollowed := true, recurses := true, apart := false }
def TokenPartsSaid : Prop := tokenPartsRow.holds Try.pinned (OpenSpec.ofChange tokenPartsSpec)

/-- ITS FALSE NEIGHBOUR: 'it returns false'. Refute it at one input. -/
def tokenPartsWrong : ChangeSpec := { name := "tokenParts", fn := fun _ => fun
  | [d1, d2, d3, d4] => { results := [.lit (.bool false)], args := [d1, d2, d3, d4] }
  | _ => none }
def TokenPartsWrongFalsely : Prop := tokenPartsRow.holds Try.pinned (OpenSpec.ofChange tokenPartsWrong)

/-- 'chequerlaw03.RectOf': WHATEVER THE INPUT: true; the input reads as it did. -/
def rectOfSpec : ChangeSpec := { name := "rectOf", fn := fun _ => fun
  | [d1, d2] => { results := [.lit (.bool true)], args := [d1, d2] }
  | _ => none }
def rectOfRow : OpenClaim := { program := "yteonfgphihacgaa", sum := "9145703d6f962897daf279639b6b378d1780e311c76c28a58cf23fb15665deac", func := "chequer/chequerlaw03.RectOf", spec := "rectOf", apart := false }
def RectOfSaid : Prop := rectOfRow.holds Try.pinned (OpenSpec.ofChange rectOfSpec)

/-- ITS FALSE NEIGHBOUR: 'it returns false'. Refute it at one input. -/
def rectOfWrong : ChangeSpec := { name := "rectOf", fn := fun _ => fun
  | [d1, d2] => { results := [.lit (.bool false)], args := [d1, d2] }
  | _ => none }
def RectOfWrongFalsely : Prop := rectOfRow.holds Try.pinned (OpenSpec.ofChange rectOfWrong)

/-- 'chequerlaw03.RectJoins': WHATEVER THE INPUT: true; the input reads as it did. -/
def rectJoinsSpec : ChangeSpec := { name := "rectJoins", fn := fun _ => fun
  | [d1, d2] => { results := [.lit (.bool true)], args := [d1, d2] }
  | _ => none }
def rectJoinsRow : OpenClaim := { program := "yteonfgphihacgaa", sum := "9145703d6f962897daf279639b6b378d1780e311c76c28a58cf23fb15665deac", func := "chequer/chequerlaw03.RectJoins", spec := "rectJoins", apart := false }
def RectJoinsSaid : Prop := rectJoinsRow.holds Try.pinned (OpenSpec.ofChange rectJoinsSpec)

/-- ITS FALSE NEIGHBOUR: 'it returns false'. Refute it at one input. -/
def rectJoinsWrong : ChangeSpec := { name := "rectJoins", fn := fun _ => fun
  | [d1, d2] => { results := [.lit (.bool false)], args := [d1, d2] }
  | _ => none }
def RectJoinsWrongFalsely : Prop := rectJoinsRow.holds Try.pinned (OpenSpec.ofChange rectJoinsWrong)

/-- 'chequerlaw03.RectFits': WHATEVER THE INPUT: true; the input reads as it did. -/
def rectFitsSpec : ChangeSpec := { name := "rectFits", fn := fun _ => fun
  | [d1, d2, d3, d4] => { results := [.lit (.bool true)], args := [d1, d2, d3, d4] }
  | _ => none }
def rectFitsRow : OpenClaim := { program := "yteonfgphihacgaa", sum := "9145703d6f962897daf279639b6b378d1780e311c76c28a58cf23fb15665deac", func := "chequer/chequerlaw03.RectFits", spec := "rectFits", unfollowed := true, recurses := true, apart := false }
def RectFitsSaid : Prop := rectFitsRow.holds Try.pinned (OpenSpec.ofChange rectFitsSpec)

/-- ITS FALSE NEIGHBOUR: 'it returns false'. Refute it at one input. -/
def rectFitsWrong : ChangeSpec := { name := "rectFits", fn := fun _ => fun
  | [d1, d2, d3, d4] => { results := [.lit (.bool false)], args := [d1, d2, d3, d4] }
  | _ => none }
def RectFitsWrongFalsely : Prop := rectFitsRow.holds Try.pinned (OpenSpec.ofChange rectFitsWrong)

/-- 'chequerlaw04.TurnOrbits': WHATEVER THE INPUT: true; the input reads as it did. -/
def turnOrbitsSpec : ChangeSpec := { name := "turnOrbits", fn := fun _ => fun
  | [d1, d2] => { results := [.lit (.bool true)], args := [d1, d2] }
  | _ => none }
def turnOrbitsRow : OpenClaim := { program := "yteonfgphihacgaa", sum := "9145703d6f962897daf279639b6b378d1780e311c76c28a58cf23fb15665deac", func := "chequer/chequerlaw04.TurnOrbits", spec := "turnOrbits", unfollowed := true, recurses := true, apart := false }
def TurnOrbitsSaid : Prop := turnOrbitsRow.holds Try.pinned (OpenSpec.ofChange turnOrbitsSpec)

/-- ITS FALSE NEIGHBOUR: 'it returns false'. Refute it at one input. -/
def turnOrbitsWrong : ChangeSpec := { name := "turnOrbits", fn := fun _ => fun
  | [d1, d2] => { results := [.lit (.bool false)], args := [d1, d2] }
  | _ => none }
def TurnOrbitsWrongFalsely : Prop := turnOrbitsRow.holds Try.pinned (OpenSpec.ofChange turnOrbitsWrong)

/- THE SECOND FORM. 'bulk': how many values and letters a reading holds, each counted each time it is reached (what is shared counts as often as it is met; a slice's spare places count too). A statement '..UptoSaid' is the law's where the arguments, and the package variables that the reading takes, are together of bulk at most 1048576: NARROWER than '..Said'. Prove '..Said' where nothing that the law and all that it calls make is longer than what came in: it says more and counts as full. Else prove '..UptoSaid'. A law counts once. -/
mutual
def uptoBulk {H : Type} : DataW H → Nat
  | .lit (.string bytes) => bytes.length + 1
  | .lit _ => 1
  | .nil => 1
  | .ptr d => uptoBulk d + 1
  | .slice elems spare => uptoBulkAll elems + uptoBulkAll spare + 1
  | .agg parts => uptoBulkAll parts + 1
  | .iface _ d => uptoBulk d + 1
  | .map entries => uptoBulkEntries entries + 1
  | .held _ => 1
def uptoBulkAll {H : Type} : List (DataW H) → Nat
  | [] => 0
  | d :: r => uptoBulk d + uptoBulkAll r
def uptoBulkEntries {H : Type} : List (Lit × DataW H) → Nat
  | [] => 0
  | x :: r => uptoBulkEntry x + uptoBulkEntries r
def uptoBulkEntry {H : Type} : Lit × DataW H → Nat
  | (.string bytes, d) => bytes.length + uptoBulk d + 1
  | (_, d) => uptoBulk d + 1
 end
def uptoSmall : (H : Type) → List (DataW H) → Bool := fun _ ds => decide (uptoBulkAll ds ≤ 1048576)
def OpenSpec.upto (s : _root_.Go.ChangeSpec) : _root_.Go.OpenSpec := { _root_.Go.OpenSpec.ofChange s with cond := some uptoSmall }

/-- 'chequerlaw05.TokenReads', WHERE WHAT IT READS IS OF BULK AT MOST 1048576: true; the input reads as it did. -/
def tokenReadsUptoRow : OpenClaim := { program := "yteonfgphihacgaa", sum := "9145703d6f962897daf279639b6b378d1780e311c76c28a58cf23fb15665deac", func := "chequer/chequerlaw05.TokenReads", spec := "tokenReads", unfollowed := true, recurses := true, apart := false, narrowed := true }
def TokenReadsUptoSaid : Prop := tokenReadsUptoRow.holds Try.pinned (OpenSpec.upto tokenReadsSpec)

/-- 'chequerlaw05.TokenAll', WHERE WHAT IT READS IS OF BULK AT MOST 1048576: true; the input reads as it did. -/
def tokenAllUptoRow : OpenClaim := { program := "yteonfgphihacgaa", sum := "9145703d6f962897daf279639b6b378d1780e311c76c28a58cf23fb15665deac", func := "chequer/chequerlaw05.TokenAll", spec := "tokenAll", unfollowed := true, recurses := true, apart := false, narrowed := true }
def TokenAllUptoSaid : Prop := tokenAllUptoRow.holds Try.pinned (OpenSpec.upto tokenAllSpec)

/-- 'chequerlaw05.TokenRemarks', WHERE WHAT IT READS IS OF BULK AT MOST 1048576: true; the input reads as it did. -/
def tokenRemarksUptoRow : OpenClaim := { program := "yteonfgphihacgaa", sum := "9145703d6f962897daf279639b6b378d1780e311c76c28a58cf23fb15665deac", func := "chequer/chequerlaw05.TokenRemarks", spec := "tokenRemarks", unfollowed := true, recurses := true, apart := false, narrowed := true }
def TokenRemarksUptoSaid : Prop := tokenRemarksUptoRow.holds Try.pinned (OpenSpec.upto tokenRemarksSpec)

/-- 'chequerlaw05.TokenRound', WHERE WHAT IT READS IS OF BULK AT MOST 1048576: true; the input reads as it did. -/
def tokenRoundUptoRow : OpenClaim := { program := "yteonfgphihacgaa", sum := "9145703d6f962897daf279639b6b378d1780e311c76c28a58cf23fb15665deac", func := "chequer/chequerlaw05.TokenRound", spec := "tokenRound", unfollowed := true, recurses := true, apart := false, narrowed := true }
def TokenRoundUptoSaid : Prop := tokenRoundUptoRow.holds Try.pinned (OpenSpec.upto tokenRoundSpec)

/-- 'chequerlaw05.TokenParts', WHERE WHAT IT READS IS OF BULK AT MOST 1048576: true; the input reads as it did. -/
def tokenPartsUptoRow : OpenClaim := { program := "yteonfgphihacgaa", sum := "9145703d6f962897daf279639b6b378d1780e311c76c28a58cf23fb15665deac", func := "chequer/chequerlaw05.TokenParts", spec := "tokenParts", unfollowed := true, recurses := true, apart := false, narrowed := true }
def TokenPartsUptoSaid : Prop := tokenPartsUptoRow.holds Try.pinned (OpenSpec.upto tokenPartsSpec)

/-- 'chequerlaw03.RectOf', WHERE WHAT IT READS IS OF BULK AT MOST 1048576: true; the input reads as it did. -/
def rectOfUptoRow : OpenClaim := { program := "yteonfgphihacgaa", sum := "9145703d6f962897daf279639b6b378d1780e311c76c28a58cf23fb15665deac", func := "chequer/chequerlaw03.RectOf", spec := "rectOf", apart := false, narrowed := true }
def RectOfUptoSaid : Prop := rectOfUptoRow.holds Try.pinned (OpenSpec.upto rectOfSpec)

/-- 'chequerlaw03.RectJoins', WHERE WHAT IT READS IS OF BULK AT MOST 1048576: true; the input reads as it did. -/
def rectJoinsUptoRow : OpenClaim := { program := "yteonfgphihacgaa", sum := "9145703d6f962897daf279639b6b378d1780e311c76c28a58cf23fb15665deac", func := "chequer/chequerlaw03.RectJoins", spec := "rectJoins", apart := false, narrowed := true }
def RectJoinsUptoSaid : Prop := rectJoinsUptoRow.holds Try.pinned (OpenSpec.upto rectJoinsSpec)

/-- 'chequerlaw03.RectFits', WHERE WHAT IT READS IS OF BULK AT MOST 1048576: true; the input reads as it did. -/
def rectFitsUptoRow : OpenClaim := { program := "yteonfgphihacgaa", sum := "9145703d6f962897daf279639b6b378d1780e311c76c28a58cf23fb15665deac", func := "chequer/chequerlaw03.RectFits", spec := "rectFits", unfollowed := true, recurses := true, apart := false, narrowed := true }
def RectFitsUptoSaid : Prop := rectFitsUptoRow.holds Try.pinned (OpenSpec.upto rectFitsSpec)

/-- 'chequerlaw04.TurnOrbits', WHERE WHAT IT READS IS OF BULK AT MOST 1048576: true; the input reads as it did. -/
def turnOrbitsUptoRow : OpenClaim := { program := "yteonfgphihacgaa", sum := "9145703d6f962897daf279639b6b378d1780e311c76c28a58cf23fb15665deac", func := "chequer/chequerlaw04.TurnOrbits", spec := "turnOrbits", unfollowed := true, recurses := true, apart := false, narrowed := true }
def TurnOrbitsUptoSaid : Prop := turnOrbitsUptoRow.holds Try.pinned (OpenSpec.upto turnOrbitsSpec)

end Rows
end Go.Proofs.Yteonfgphihacgaa
