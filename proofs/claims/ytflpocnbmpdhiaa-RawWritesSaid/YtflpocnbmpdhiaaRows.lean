/-
  No cell of these rows narrows 'for every input' (looked for: loops, veiled, ifaces, maps, wideKeys, modest, calm, conditions, laid).
  DERIVED. THE GIVEN ROWS OF THIS SEAT. 8 by the template 'for every input the law returns true; each argument reads behind the call as it read before'; 0 by the template 'total and deterministic' (their statements: YtflpocnbmpdhiaaTotals.lean).
  GIVEN WITH THE SEED: the statements are not yours to turn. If you find one false, say at which input.
  Laid BY PROGRAM, IN A SANDBOX (cutbox-rows.mjs): the forced cells as the released guide's own fill.sh prints them over the translation f004894d43961875… (all of the seat's roots in one cut). By AI agents, Wed Nov 11 2026. No macro, syntax, notation, axiom, sorry.
-/
import Derived.Test.YtflpocnbmpdhiaaChecked
import GoSem.Claim
import GoSem.ClaimJoined
import GoSem.ClaimMapViews
import Derived.JoinedTies
import Derived.KernelRfl
namespace Go.Proofs.Ytflpocnbmpdhiaa
/- THE CELL 'sum', in the pinned program and in every row, IS THE sha256 OF THE DUMP (.gsa) THAT YtflpocnbmpdhiaaProg.lean LOADS. Nothing in Lean hashes anything: it is a label: what it is worth is what the hold of that sum in a sandbox is worth. -/
noncomputable def Try.pinned : Pinned := { name := "ytflpocnbmpdhiaa", sum := "f004894d43961875c17f7f41f5f4fae2161aea3d1191ce954f9ddc7959757d85", checked := Try.checked }
namespace Rows
def none {H : Type} : Left H := { results := [], args := [] }

/-- 'chequerlaw06.HeadParses': WHATEVER THE INPUT: true; the input reads as it did. -/
def headParsesSpec : ChangeSpec := { name := "headParses", fn := fun _ => fun
  | [d1, d2, d3, d4, d5] => { results := [.lit (.bool true)], args := [d1, d2, d3, d4, d5] }
  | _ => none }
def headParsesRow : OpenClaim := { program := "ytflpocnbmpdhiaa", sum := "f004894d43961875c17f7f41f5f4fae2161aea3d1191ce954f9ddc7959757d85", func := "chequer/chequerlaw06.HeadParses", spec := "headParses", unfollowed := true, recurses := true, apart := false }
def HeadParsesSaid : Prop := headParsesRow.holds Try.pinned (OpenSpec.ofChange headParsesSpec)

/-- ITS FALSE NEIGHBOUR: 'it returns false'. Refute it at one input. -/
def headParsesWrong : ChangeSpec := { name := "headParses", fn := fun _ => fun
  | [d1, d2, d3, d4, d5] => { results := [.lit (.bool false)], args := [d1, d2, d3, d4, d5] }
  | _ => none }
def HeadParsesWrongFalsely : Prop := headParsesRow.holds Try.pinned (OpenSpec.ofChange headParsesWrong)

/-- 'chequerlaw06.HeadReads': WHATEVER THE INPUT: true; the input reads as it did. -/
def headReadsSpec : ChangeSpec := { name := "headReads", fn := fun _ => fun
  | [d1, d2, d3, d4] => { results := [.lit (.bool true)], args := [d1, d2, d3, d4] }
  | _ => none }
def headReadsRow : OpenClaim := { program := "ytflpocnbmpdhiaa", sum := "f004894d43961875c17f7f41f5f4fae2161aea3d1191ce954f9ddc7959757d85", func := "chequer/chequerlaw06.HeadReads", spec := "headReads", unfollowed := true, recurses := true, apart := false }
def HeadReadsSaid : Prop := headReadsRow.holds Try.pinned (OpenSpec.ofChange headReadsSpec)

/-- ITS FALSE NEIGHBOUR: 'it returns false'. Refute it at one input. -/
def headReadsWrong : ChangeSpec := { name := "headReads", fn := fun _ => fun
  | [d1, d2, d3, d4] => { results := [.lit (.bool false)], args := [d1, d2, d3, d4] }
  | _ => none }
def HeadReadsWrongFalsely : Prop := headReadsRow.holds Try.pinned (OpenSpec.ofChange headReadsWrong)

/-- 'chequerlaw09.RawReads': WHATEVER THE INPUT: true; the input reads as it did. -/
def rawReadsSpec : ChangeSpec := { name := "rawReads", fn := fun _ => fun
  | [d1, d2] => { results := [.lit (.bool true)], args := [d1, d2] }
  | _ => none }
def rawReadsRow : OpenClaim := { program := "ytflpocnbmpdhiaa", sum := "f004894d43961875c17f7f41f5f4fae2161aea3d1191ce954f9ddc7959757d85", func := "chequer/chequerlaw09.RawReads", spec := "rawReads", unfollowed := true, recurses := true, apart := false }
def RawReadsSaid : Prop := rawReadsRow.holds Try.pinned (OpenSpec.ofChange rawReadsSpec)

/-- ITS FALSE NEIGHBOUR: 'it returns false'. Refute it at one input. -/
def rawReadsWrong : ChangeSpec := { name := "rawReads", fn := fun _ => fun
  | [d1, d2] => { results := [.lit (.bool false)], args := [d1, d2] }
  | _ => none }
def RawReadsWrongFalsely : Prop := rawReadsRow.holds Try.pinned (OpenSpec.ofChange rawReadsWrong)

/-- 'chequerlaw09.RawSteps': WHATEVER THE INPUT: true; the input reads as it did. -/
def rawStepsSpec : ChangeSpec := { name := "rawSteps", fn := fun _ => fun
  | [d1, d2] => { results := [.lit (.bool true)], args := [d1, d2] }
  | _ => none }
def rawStepsRow : OpenClaim := { program := "ytflpocnbmpdhiaa", sum := "f004894d43961875c17f7f41f5f4fae2161aea3d1191ce954f9ddc7959757d85", func := "chequer/chequerlaw09.RawSteps", spec := "rawSteps", unfollowed := true, recurses := true, apart := false }
def RawStepsSaid : Prop := rawStepsRow.holds Try.pinned (OpenSpec.ofChange rawStepsSpec)

/-- ITS FALSE NEIGHBOUR: 'it returns false'. Refute it at one input. -/
def rawStepsWrong : ChangeSpec := { name := "rawSteps", fn := fun _ => fun
  | [d1, d2] => { results := [.lit (.bool false)], args := [d1, d2] }
  | _ => none }
def RawStepsWrongFalsely : Prop := rawStepsRow.holds Try.pinned (OpenSpec.ofChange rawStepsWrong)

/-- 'chequerlaw09.RawWrites': WHATEVER THE INPUT: true; the input reads as it did. -/
def rawWritesSpec : ChangeSpec := { name := "rawWrites", fn := fun _ => fun
  | [d1, d2, d3, d4, d5] => { results := [.lit (.bool true)], args := [d1, d2, d3, d4, d5] }
  | _ => none }
def rawWritesRow : OpenClaim := { program := "ytflpocnbmpdhiaa", sum := "f004894d43961875c17f7f41f5f4fae2161aea3d1191ce954f9ddc7959757d85", func := "chequer/chequerlaw09.RawWrites", spec := "rawWrites", unfollowed := true, recurses := true, apart := false }
def RawWritesSaid : Prop := rawWritesRow.holds Try.pinned (OpenSpec.ofChange rawWritesSpec)

/-- ITS FALSE NEIGHBOUR: 'it returns false'. Refute it at one input. -/
def rawWritesWrong : ChangeSpec := { name := "rawWrites", fn := fun _ => fun
  | [d1, d2, d3, d4, d5] => { results := [.lit (.bool false)], args := [d1, d2, d3, d4, d5] }
  | _ => none }
def RawWritesWrongFalsely : Prop := rawWritesRow.holds Try.pinned (OpenSpec.ofChange rawWritesWrong)

/-- 'chequerlaw09.RawNew': WHATEVER THE INPUT: true; the input reads as it did. -/
def rawNewSpec : ChangeSpec := { name := "rawNew", fn := fun _ => fun
  | [d] => { results := [.lit (.bool true)], args := [d] }
  | _ => none }
def rawNewRow : OpenClaim := { program := "ytflpocnbmpdhiaa", sum := "f004894d43961875c17f7f41f5f4fae2161aea3d1191ce954f9ddc7959757d85", func := "chequer/chequerlaw09.RawNew", spec := "rawNew", unfollowed := true, recurses := true, apart := false }
def RawNewSaid : Prop := rawNewRow.holds Try.pinned (OpenSpec.ofChange rawNewSpec)

/-- ITS FALSE NEIGHBOUR: 'it returns false'. Refute it at one input. -/
def rawNewWrong : ChangeSpec := { name := "rawNew", fn := fun _ => fun
  | [d] => { results := [.lit (.bool false)], args := [d] }
  | _ => none }
def RawNewWrongFalsely : Prop := rawNewRow.holds Try.pinned (OpenSpec.ofChange rawNewWrong)

/-- 'chequerlaw09.RawPlain': WHATEVER THE INPUT: true; the input reads as it did. -/
def rawPlainSpec : ChangeSpec := { name := "rawPlain", fn := fun _ => fun
  | [d1, d2] => { results := [.lit (.bool true)], args := [d1, d2] }
  | _ => none }
def rawPlainRow : OpenClaim := { program := "ytflpocnbmpdhiaa", sum := "f004894d43961875c17f7f41f5f4fae2161aea3d1191ce954f9ddc7959757d85", func := "chequer/chequerlaw09.RawPlain", spec := "rawPlain", inPlace := ["internal/abi.NoEscape", "internal/bytealg.MakeNoZero"], unfollowed := true, recurses := true, apart := false }
def RawPlainSaid : Prop := rawPlainRow.holds Try.pinned (OpenSpec.ofChange rawPlainSpec)

/-- ITS FALSE NEIGHBOUR: 'it returns false'. Refute it at one input. -/
def rawPlainWrong : ChangeSpec := { name := "rawPlain", fn := fun _ => fun
  | [d1, d2] => { results := [.lit (.bool false)], args := [d1, d2] }
  | _ => none }
def RawPlainWrongFalsely : Prop := rawPlainRow.holds Try.pinned (OpenSpec.ofChange rawPlainWrong)

/-- 'chequerlaw09.RawCuts': WHATEVER THE INPUT: true; the input reads as it did. -/
def rawCutsSpec : ChangeSpec := { name := "rawCuts", fn := fun _ => fun
  | [d1, d2, d3] => { results := [.lit (.bool true)], args := [d1, d2, d3] }
  | _ => none }
def rawCutsRow : OpenClaim := { program := "ytflpocnbmpdhiaa", sum := "f004894d43961875c17f7f41f5f4fae2161aea3d1191ce954f9ddc7959757d85", func := "chequer/chequerlaw09.RawCuts", spec := "rawCuts", unfollowed := true, recurses := true, apart := false }
def RawCutsSaid : Prop := rawCutsRow.holds Try.pinned (OpenSpec.ofChange rawCutsSpec)

/-- ITS FALSE NEIGHBOUR: 'it returns false'. Refute it at one input. -/
def rawCutsWrong : ChangeSpec := { name := "rawCuts", fn := fun _ => fun
  | [d1, d2, d3] => { results := [.lit (.bool false)], args := [d1, d2, d3] }
  | _ => none }
def RawCutsWrongFalsely : Prop := rawCutsRow.holds Try.pinned (OpenSpec.ofChange rawCutsWrong)

/- THE SECOND FORM. 'bulk': how many values and letters a reading holds, each counted each time it is reached (what is shared counts as often as it is met; a slice's spare places count too). A statement '..UptoSaid' is the law's where the arguments, and the package variables that the reading takes, are together of bulk at most 1048576: NARROWER than '..Said'. Prove '..Said' where nothing that the law and all that it calls make is longer than what came in: it says more and counts as full. Else prove '..UptoSaid'. A law counts once. -/
mutual
def uptoBulk {H : Type} : DataW H → Nat
  | .lit (.string bytes) => bytes.length + 1
  | .lit _ => 1
  | .nil => 1
  | .ptr d => uptoBulk d + 1
  | .slice elems spare => uptoBulkAll elems + uptoBulkAll spare + 1
  | .agg parts => uptoBulkAll parts + 1
  | .iface _ d => uptoBulk d + 1
  | .map entries => uptoBulkEntries entries + 1
  | .held _ => 1
def uptoBulkAll {H : Type} : List (DataW H) → Nat
  | [] => 0
  | d :: r => uptoBulk d + uptoBulkAll r
def uptoBulkEntries {H : Type} : List (Lit × DataW H) → Nat
  | [] => 0
  | x :: r => uptoBulkEntry x + uptoBulkEntries r
def uptoBulkEntry {H : Type} : Lit × DataW H → Nat
  | (.string bytes, d) => bytes.length + uptoBulk d + 1
  | (_, d) => uptoBulk d + 1
 end
def uptoSmall : (H : Type) → List (DataW H) → Bool := fun _ ds => decide (uptoBulkAll ds ≤ 1048576)
def OpenSpec.upto (s : _root_.Go.ChangeSpec) : _root_.Go.OpenSpec := { _root_.Go.OpenSpec.ofChange s with cond := some uptoSmall }

/-- 'chequerlaw06.HeadParses', WHERE WHAT IT READS IS OF BULK AT MOST 1048576: true; the input reads as it did. -/
def headParsesUptoRow : OpenClaim := { program := "ytflpocnbmpdhiaa", sum := "f004894d43961875c17f7f41f5f4fae2161aea3d1191ce954f9ddc7959757d85", func := "chequer/chequerlaw06.HeadParses", spec := "headParses", unfollowed := true, recurses := true, apart := false, narrowed := true }
def HeadParsesUptoSaid : Prop := headParsesUptoRow.holds Try.pinned (OpenSpec.upto headParsesSpec)

/-- 'chequerlaw06.HeadReads', WHERE WHAT IT READS IS OF BULK AT MOST 1048576: true; the input reads as it did. -/
def headReadsUptoRow : OpenClaim := { program := "ytflpocnbmpdhiaa", sum := "f004894d43961875c17f7f41f5f4fae2161aea3d1191ce954f9ddc7959757d85", func := "chequer/chequerlaw06.HeadReads", spec := "headReads", unfollowed := true, recurses := true, apart := false, narrowed := true }
def HeadReadsUptoSaid : Prop := headReadsUptoRow.holds Try.pinned (OpenSpec.upto headReadsSpec)

/-- 'chequerlaw09.RawReads', WHERE WHAT IT READS IS OF BULK AT MOST 1048576: true; the input reads as it did. -/
def rawReadsUptoRow : OpenClaim := { program := "ytflpocnbmpdhiaa", sum := "f004894d43961875c17f7f41f5f4fae2161aea3d1191ce954f9ddc7959757d85", func := "chequer/chequerlaw09.RawReads", spec := "rawReads", unfollowed := true, recurses := true, apart := false, narrowed := true }
def RawReadsUptoSaid : Prop := rawReadsUptoRow.holds Try.pinned (OpenSpec.upto rawReadsSpec)

/-- 'chequerlaw09.RawSteps', WHERE WHAT IT READS IS OF BULK AT MOST 1048576: true; the input reads as it did. -/
def rawStepsUptoRow : OpenClaim := { program := "ytflpocnbmpdhiaa", sum := "f004894d43961875c17f7f41f5f4fae2161aea3d1191ce954f9ddc7959757d85", func := "chequer/chequerlaw09.RawSteps", spec := "rawSteps", unfollowed := true, recurses := true, apart := false, narrowed := true }
def RawStepsUptoSaid : Prop := rawStepsUptoRow.holds Try.pinned (OpenSpec.upto rawStepsSpec)

/-- 'chequerlaw09.RawWrites', WHERE WHAT IT READS IS OF BULK AT MOST 1048576: true; the input reads as it did. -/
def rawWritesUptoRow : OpenClaim := { program := "ytflpocnbmpdhiaa", sum := "f004894d43961875c17f7f41f5f4fae2161aea3d1191ce954f9ddc7959757d85", func := "chequer/chequerlaw09.RawWrites", spec := "rawWrites", unfollowed := true, recurses := true, apart := false, narrowed := true }
def RawWritesUptoSaid : Prop := rawWritesUptoRow.holds Try.pinned (OpenSpec.upto rawWritesSpec)

/-- 'chequerlaw09.RawNew', WHERE WHAT IT READS IS OF BULK AT MOST 1048576: true; the input reads as it did. -/
def rawNewUptoRow : OpenClaim := { program := "ytflpocnbmpdhiaa", sum := "f004894d43961875c17f7f41f5f4fae2161aea3d1191ce954f9ddc7959757d85", func := "chequer/chequerlaw09.RawNew", spec := "rawNew", unfollowed := true, recurses := true, apart := false, narrowed := true }
def RawNewUptoSaid : Prop := rawNewUptoRow.holds Try.pinned (OpenSpec.upto rawNewSpec)

/-- 'chequerlaw09.RawPlain', WHERE WHAT IT READS IS OF BULK AT MOST 1048576: true; the input reads as it did. -/
def rawPlainUptoRow : OpenClaim := { program := "ytflpocnbmpdhiaa", sum := "f004894d43961875c17f7f41f5f4fae2161aea3d1191ce954f9ddc7959757d85", func := "chequer/chequerlaw09.RawPlain", spec := "rawPlain", inPlace := ["internal/abi.NoEscape", "internal/bytealg.MakeNoZero"], unfollowed := true, recurses := true, apart := false, narrowed := true }
def RawPlainUptoSaid : Prop := rawPlainUptoRow.holds Try.pinned (OpenSpec.upto rawPlainSpec)

/-- 'chequerlaw09.RawCuts', WHERE WHAT IT READS IS OF BULK AT MOST 1048576: true; the input reads as it did. -/
def rawCutsUptoRow : OpenClaim := { program := "ytflpocnbmpdhiaa", sum := "f004894d43961875c17f7f41f5f4fae2161aea3d1191ce954f9ddc7959757d85", func := "chequer/chequerlaw09.RawCuts", spec := "rawCuts", unfollowed := true, recurses := true, apart := false, narrowed := true }
def RawCutsUptoSaid : Prop := rawCutsUptoRow.holds Try.pinned (OpenSpec.upto rawCutsSpec)

end Rows
end Go.Proofs.Ytflpocnbmpdhiaa
