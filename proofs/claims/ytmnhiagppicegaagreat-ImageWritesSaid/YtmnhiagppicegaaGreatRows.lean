/-
  No cell of these rows narrows 'for every input' (looked for: loops, veiled, ifaces, maps, wideKeys, modest, calm, conditions, laid).
  DERIVED. THE GIVEN ROWS OF THIS SEAT. 7 by the template 'for every input the law returns true; each argument reads behind the call as it read before'; 0 by the template 'total and deterministic' (their statements: YtmnhiagppicegaaGreatTotals.lean).
  GIVEN WITH THE SEED: the statements are not yours to turn. If you find one false, say at which input.
  Laid BY PROGRAM, IN A SANDBOX (cutbox-rows.mjs): the forced cells as the released guide's own fill.sh prints them over the translation 10180daf518f39d2… (all of the seat's roots in one cut). By AI agents, Wed Nov 11 2026. No macro, syntax, notation, axiom, sorry.
-/
import Derived.Test.YtmnhiagppicegaaGreatChecked
import GoSem.Claim
import GoSem.ClaimJoined
import GoSem.ClaimMapViews
import Derived.JoinedTies
import Derived.KernelRfl
namespace Go.Proofs.YtmnhiagppicegaaGreat
/- THE CELL 'sum', in the pinned program and in every row, IS THE sha256 OF THE DUMP (.gsa) THAT YtmnhiagppicegaaGreatProg.lean LOADS. Nothing in Lean hashes anything: it is a label: what it is worth is what the hold of that sum in a sandbox is worth. -/
noncomputable def Tryz.pinned : Pinned := { name := "ytmnhiagppicegaagreat", sum := "10180daf518f39d2da08cb835d774c735e2f9016fd491dadafa73093aec96083", checked := Tryz.checked }
namespace Rows
def none {H : Type} : Left H := { results := [], args := [] }

/-- 'chequerlaw10.ImageWrites': WHATEVER THE INPUT: true; the input reads as it did. -/
def imageWritesSpec : ChangeSpec := { name := "imageWrites", fn := fun _ => fun
  | [d1, d2, d3, d4] => { results := [.lit (.bool true)], args := [d1, d2, d3, d4] }
  | _ => none }
def imageWritesRow : OpenClaim := { program := "ytmnhiagppicegaagreat", sum := "10180daf518f39d2da08cb835d774c735e2f9016fd491dadafa73093aec96083", func := "chequer/chequerlaw10.ImageWrites", spec := "imageWrites", inPlace := ["internal/abi.NoEscape", "internal/bytealg.MakeNoZero"], unfollowed := true, recurses := true, apart := false }
def ImageWritesSaid : Prop := imageWritesRow.holds Tryz.pinned (OpenSpec.ofChange imageWritesSpec)

/-- ITS FALSE NEIGHBOUR: 'it returns false'. Refute it at one input. -/
def imageWritesWrong : ChangeSpec := { name := "imageWrites", fn := fun _ => fun
  | [d1, d2, d3, d4] => { results := [.lit (.bool false)], args := [d1, d2, d3, d4] }
  | _ => none }
def ImageWritesWrongFalsely : Prop := imageWritesRow.holds Tryz.pinned (OpenSpec.ofChange imageWritesWrong)

/-- 'chequerlaw10.ImageTurns': WHATEVER THE INPUT: true; the input reads as it did. -/
def imageTurnsSpec : ChangeSpec := { name := "imageTurns", fn := fun _ => fun
  | [d1, d2] => { results := [.lit (.bool true)], args := [d1, d2] }
  | _ => none }
def imageTurnsRow : OpenClaim := { program := "ytmnhiagppicegaagreat", sum := "10180daf518f39d2da08cb835d774c735e2f9016fd491dadafa73093aec96083", func := "chequer/chequerlaw10.ImageTurns", spec := "imageTurns", inPlace := ["internal/abi.NoEscape", "internal/bytealg.MakeNoZero"], unfollowed := true, recurses := true, apart := false }
def ImageTurnsSaid : Prop := imageTurnsRow.holds Tryz.pinned (OpenSpec.ofChange imageTurnsSpec)

/-- ITS FALSE NEIGHBOUR: 'it returns false'. Refute it at one input. -/
def imageTurnsWrong : ChangeSpec := { name := "imageTurns", fn := fun _ => fun
  | [d1, d2] => { results := [.lit (.bool false)], args := [d1, d2] }
  | _ => none }
def ImageTurnsWrongFalsely : Prop := imageTurnsRow.holds Tryz.pinned (OpenSpec.ofChange imageTurnsWrong)

/-- 'chequerlaw11.PnmReads': WHATEVER THE INPUT: true; the input reads as it did. -/
def pnmReadsSpec : ChangeSpec := { name := "pnmReads", fn := fun _ => fun
  | [d1, d2, d3, d4, d5, d6, d7] => { results := [.lit (.bool true)], args := [d1, d2, d3, d4, d5, d6, d7] }
  | _ => none }
def pnmReadsRow : OpenClaim := { program := "ytmnhiagppicegaagreat", sum := "10180daf518f39d2da08cb835d774c735e2f9016fd491dadafa73093aec96083", func := "chequer/chequerlaw11.PnmReads", spec := "pnmReads", unfollowed := true, recurses := true, apart := false }
def PnmReadsSaid : Prop := pnmReadsRow.holds Tryz.pinned (OpenSpec.ofChange pnmReadsSpec)

/-- ITS FALSE NEIGHBOUR: 'it returns false'. Refute it at one input. -/
def pnmReadsWrong : ChangeSpec := { name := "pnmReads", fn := fun _ => fun
  | [d1, d2, d3, d4, d5, d6, d7] => { results := [.lit (.bool false)], args := [d1, d2, d3, d4, d5, d6, d7] }
  | _ => none }
def PnmReadsWrongFalsely : Prop := pnmReadsRow.holds Tryz.pinned (OpenSpec.ofChange pnmReadsWrong)

/-- 'chequerlaw11.PnmOpen': WHATEVER THE INPUT: true; the input reads as it did. -/
def pnmOpenSpec : ChangeSpec := { name := "pnmOpen", fn := fun _ => fun
  | [d1, d2, d3, d4, d5, d6, d7] => { results := [.lit (.bool true)], args := [d1, d2, d3, d4, d5, d6, d7] }
  | _ => none }
def pnmOpenRow : OpenClaim := { program := "ytmnhiagppicegaagreat", sum := "10180daf518f39d2da08cb835d774c735e2f9016fd491dadafa73093aec96083", func := "chequer/chequerlaw11.PnmOpen", spec := "pnmOpen", unfollowed := true, recurses := true, apart := false }
def PnmOpenSaid : Prop := pnmOpenRow.holds Tryz.pinned (OpenSpec.ofChange pnmOpenSpec)

/-- ITS FALSE NEIGHBOUR: 'it returns false'. Refute it at one input. -/
def pnmOpenWrong : ChangeSpec := { name := "pnmOpen", fn := fun _ => fun
  | [d1, d2, d3, d4, d5, d6, d7] => { results := [.lit (.bool false)], args := [d1, d2, d3, d4, d5, d6, d7] }
  | _ => none }
def PnmOpenWrongFalsely : Prop := pnmOpenRow.holds Tryz.pinned (OpenSpec.ofChange pnmOpenWrong)

/-- 'chequerlaw11.PnmAll': WHATEVER THE INPUT: true; the input reads as it did. -/
def pnmAllSpec : ChangeSpec := { name := "pnmAll", fn := fun _ => fun
  | [d1, d2, d3, d4, d5, d6, d7] => { results := [.lit (.bool true)], args := [d1, d2, d3, d4, d5, d6, d7] }
  | _ => none }
def pnmAllRow : OpenClaim := { program := "ytmnhiagppicegaagreat", sum := "10180daf518f39d2da08cb835d774c735e2f9016fd491dadafa73093aec96083", func := "chequer/chequerlaw11.PnmAll", spec := "pnmAll", unfollowed := true, recurses := true, apart := false }
def PnmAllSaid : Prop := pnmAllRow.holds Tryz.pinned (OpenSpec.ofChange pnmAllSpec)

/-- ITS FALSE NEIGHBOUR: 'it returns false'. Refute it at one input. -/
def pnmAllWrong : ChangeSpec := { name := "pnmAll", fn := fun _ => fun
  | [d1, d2, d3, d4, d5, d6, d7] => { results := [.lit (.bool false)], args := [d1, d2, d3, d4, d5, d6, d7] }
  | _ => none }
def PnmAllWrongFalsely : Prop := pnmAllRow.holds Tryz.pinned (OpenSpec.ofChange pnmAllWrong)

/-- 'chequerlaw11.PnmJoins': WHATEVER THE INPUT: true; the input reads as it did. -/
def pnmJoinsSpec : ChangeSpec := { name := "pnmJoins", fn := fun _ => fun
  | [d1, d2, d3] => { results := [.lit (.bool true)], args := [d1, d2, d3] }
  | _ => none }
def pnmJoinsRow : OpenClaim := { program := "ytmnhiagppicegaagreat", sum := "10180daf518f39d2da08cb835d774c735e2f9016fd491dadafa73093aec96083", func := "chequer/chequerlaw11.PnmJoins", spec := "pnmJoins", inPlace := ["internal/abi.NoEscape", "internal/bytealg.MakeNoZero"], unfollowed := true, recurses := true, apart := false }
def PnmJoinsSaid : Prop := pnmJoinsRow.holds Tryz.pinned (OpenSpec.ofChange pnmJoinsSpec)

/-- ITS FALSE NEIGHBOUR: 'it returns false'. Refute it at one input. -/
def pnmJoinsWrong : ChangeSpec := { name := "pnmJoins", fn := fun _ => fun
  | [d1, d2, d3] => { results := [.lit (.bool false)], args := [d1, d2, d3] }
  | _ => none }
def PnmJoinsWrongFalsely : Prop := pnmJoinsRow.holds Tryz.pinned (OpenSpec.ofChange pnmJoinsWrong)

/-- 'chequerlaw11.PnmTwice': WHATEVER THE INPUT: true; the input reads as it did. -/
def pnmTwiceSpec : ChangeSpec := { name := "pnmTwice", fn := fun _ => fun
  | [d1, d2] => { results := [.lit (.bool true)], args := [d1, d2] }
  | _ => none }
def pnmTwiceRow : OpenClaim := { program := "ytmnhiagppicegaagreat", sum := "10180daf518f39d2da08cb835d774c735e2f9016fd491dadafa73093aec96083", func := "chequer/chequerlaw11.PnmTwice", spec := "pnmTwice", unfollowed := true, recurses := true, apart := false }
def PnmTwiceSaid : Prop := pnmTwiceRow.holds Tryz.pinned (OpenSpec.ofChange pnmTwiceSpec)

/-- ITS FALSE NEIGHBOUR: 'it returns false'. Refute it at one input. -/
def pnmTwiceWrong : ChangeSpec := { name := "pnmTwice", fn := fun _ => fun
  | [d1, d2] => { results := [.lit (.bool false)], args := [d1, d2] }
  | _ => none }
def PnmTwiceWrongFalsely : Prop := pnmTwiceRow.holds Tryz.pinned (OpenSpec.ofChange pnmTwiceWrong)

/- THE SECOND FORM. 'bulk': how many values and letters a reading holds, each counted each time it is reached (what is shared counts as often as it is met; a slice's spare places count too). A statement '..UptoSaid' is the law's where the arguments, and the package variables that the reading takes, are together of bulk at most 1048576: NARROWER than '..Said'. Prove '..Said' where nothing that the law and all that it calls make is longer than what came in: it says more and counts as full. Else prove '..UptoSaid'. A law counts once. -/
mutual
def uptoBulk {H : Type} : DataW H → Nat
  | .lit (.string bytes) => bytes.length + 1
  | .lit _ => 1
  | .nil => 1
  | .ptr d => uptoBulk d + 1
  | .slice elems spare => uptoBulkAll elems + uptoBulkAll spare + 1
  | .agg parts => uptoBulkAll parts + 1
  | .iface _ d => uptoBulk d + 1
  | .map entries => uptoBulkEntries entries + 1
  | .held _ => 1
def uptoBulkAll {H : Type} : List (DataW H) → Nat
  | [] => 0
  | d :: r => uptoBulk d + uptoBulkAll r
def uptoBulkEntries {H : Type} : List (Lit × DataW H) → Nat
  | [] => 0
  | x :: r => uptoBulkEntry x + uptoBulkEntries r
def uptoBulkEntry {H : Type} : Lit × DataW H → Nat
  | (.string bytes, d) => bytes.length + uptoBulk d + 1
  | (_, d) => uptoBulk d + 1
 end
def uptoSmall : (H : Type) → List (DataW H) → Bool := fun _ ds => decide (uptoBulkAll ds ≤ 1048576)
def OpenSpec.upto (s : _root_.Go.ChangeSpec) : _root_.Go.OpenSpec := { _root_.Go.OpenSpec.ofChange s with cond := some uptoSmall }

/-- 'chequerlaw10.ImageWrites', WHERE WHAT IT READS IS OF BULK AT MOST 1048576: true; the input reads as it did. -/
def imageWritesUptoRow : OpenClaim := { program := "ytmnhiagppicegaagreat", sum := "10180daf518f39d2da08cb835d774c735e2f9016fd491dadafa73093aec96083", func := "chequer/chequerlaw10.ImageWrites", spec := "imageWrites", inPlace := ["internal/abi.NoEscape", "internal/bytealg.MakeNoZero"], unfollowed := true, recurses := true, apart := false, narrowed := true }
def ImageWritesUptoSaid : Prop := imageWritesUptoRow.holds Tryz.pinned (OpenSpec.upto imageWritesSpec)

/-- 'chequerlaw10.ImageTurns', WHERE WHAT IT READS IS OF BULK AT MOST 1048576: true; the input reads as it did. -/
def imageTurnsUptoRow : OpenClaim := { program := "ytmnhiagppicegaagreat", sum := "10180daf518f39d2da08cb835d774c735e2f9016fd491dadafa73093aec96083", func := "chequer/chequerlaw10.ImageTurns", spec := "imageTurns", inPlace := ["internal/abi.NoEscape", "internal/bytealg.MakeNoZero"], unfollowed := true, recurses := true, apart := false, narrowed := true }
def ImageTurnsUptoSaid : Prop := imageTurnsUptoRow.holds Tryz.pinned (OpenSpec.upto imageTurnsSpec)

/-- 'chequerlaw11.PnmReads', WHERE WHAT IT READS IS OF BULK AT MOST 1048576: true; the input reads as it did. -/
def pnmReadsUptoRow : OpenClaim := { program := "ytmnhiagppicegaagreat", sum := "10180daf518f39d2da08cb835d774c735e2f9016fd491dadafa73093aec96083", func := "chequer/chequerlaw11.PnmReads", spec := "pnmReads", unfollowed := true, recurses := true, apart := false, narrowed := true }
def PnmReadsUptoSaid : Prop := pnmReadsUptoRow.holds Tryz.pinned (OpenSpec.upto pnmReadsSpec)

/-- 'chequerlaw11.PnmOpen', WHERE WHAT IT READS IS OF BULK AT MOST 1048576: true; the input reads as it did. -/
def pnmOpenUptoRow : OpenClaim := { program := "ytmnhiagppicegaagreat", sum := "10180daf518f39d2da08cb835d774c735e2f9016fd491dadafa73093aec96083", func := "chequer/chequerlaw11.PnmOpen", spec := "pnmOpen", unfollowed := true, recurses := true, apart := false, narrowed := true }
def PnmOpenUptoSaid : Prop := pnmOpenUptoRow.holds Tryz.pinned (OpenSpec.upto pnmOpenSpec)

/-- 'chequerlaw11.PnmAll', WHERE WHAT IT READS IS OF BULK AT MOST 1048576: true; the input reads as it did. -/
def pnmAllUptoRow : OpenClaim := { program := "ytmnhiagppicegaagreat", sum := "10180daf518f39d2da08cb835d774c735e2f9016fd491dadafa73093aec96083", func := "chequer/chequerlaw11.PnmAll", spec := "pnmAll", unfollowed := true, recurses := true, apart := false, narrowed := true }
def PnmAllUptoSaid : Prop := pnmAllUptoRow.holds Tryz.pinned (OpenSpec.upto pnmAllSpec)

/-- 'chequerlaw11.PnmJoins', WHERE WHAT IT READS IS OF BULK AT MOST 1048576: true; the input reads as it did. -/
def pnmJoinsUptoRow : OpenClaim := { program := "ytmnhiagppicegaagreat", sum := "10180daf518f39d2da08cb835d774c735e2f9016fd491dadafa73093aec96083", func := "chequer/chequerlaw11.PnmJoins", spec := "pnmJoins", inPlace := ["internal/abi.NoEscape", "internal/bytealg.MakeNoZero"], unfollowed := true, recurses := true, apart := false, narrowed := true }
def PnmJoinsUptoSaid : Prop := pnmJoinsUptoRow.holds Tryz.pinned (OpenSpec.upto pnmJoinsSpec)

/-- 'chequerlaw11.PnmTwice', WHERE WHAT IT READS IS OF BULK AT MOST 1048576: true; the input reads as it did. -/
def pnmTwiceUptoRow : OpenClaim := { program := "ytmnhiagppicegaagreat", sum := "10180daf518f39d2da08cb835d774c735e2f9016fd491dadafa73093aec96083", func := "chequer/chequerlaw11.PnmTwice", spec := "pnmTwice", unfollowed := true, recurses := true, apart := false, narrowed := true }
def PnmTwiceUptoSaid : Prop := pnmTwiceUptoRow.holds Tryz.pinned (OpenSpec.upto pnmTwiceSpec)

end Rows
end Go.Proofs.YtmnhiagppicegaaGreat
