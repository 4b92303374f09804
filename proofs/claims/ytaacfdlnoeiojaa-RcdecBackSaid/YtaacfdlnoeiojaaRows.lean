/-
  No cell of these rows narrows 'for every input' (looked for: loops, veiled, ifaces, maps, wideKeys, modest, calm, conditions, laid).
  DERIVED. THE GIVEN ROWS OF THIS SEAT. 2 by the template 'for every input the law returns true; each argument reads behind the call as it read before'; 0 by the template 'total and deterministic' (their statements: YtaacfdlnoeiojaaTotals.lean).
  GIVEN WITH THE SEED: the statements are not yours to turn. If you find one false, say at which input.
  Laid BY PROGRAM, IN A SANDBOX (cutbox-rows.mjs): the forced cells as the released guide's own fill.sh prints them over the translation 9d8d579f67630e8d… (all of the seat's roots in one cut). By AI agents, Wed Nov 11 2026. No macro, syntax, notation, axiom, sorry.
-/
import Derived.Test.YtaacfdlnoeiojaaChecked
import GoSem.Claim
import GoSem.ClaimJoined
import GoSem.ClaimMapViews
import Derived.JoinedTies
import Derived.KernelRfl
namespace Go.Proofs.Ytaacfdlnoeiojaa
/- THE CELL 'sum', in the pinned program and in every row, IS THE sha256 OF THE DUMP (.gsa) THAT YtaacfdlnoeiojaaProg.lean LOADS. Nothing in Lean hashes anything: it is a label: what it is worth is what the hold of that sum in a sandbox is worth. -/
noncomputable def Try.pinned : Pinned := { name := "ytaacfdlnoeiojaa", sum := "9d8d579f67630e8dc538a60f17ddfec7d8f965cd95407e78bfb396740ce04341", checked := Try.checked }
namespace Rows
def none {H : Type} : Left H := { results := [], args := [] }

/-- 'winepresslaw06.RcdecReads': WHATEVER THE INPUT: true; the input reads as it did. -/
def rcdecReadsSpec : ChangeSpec := { name := "rcdecReads", fn := fun _ => fun
  | [d1, d2] => { results := [.lit (.bool true)], args := [d1, d2] }
  | _ => none }
def rcdecReadsRow : OpenClaim := { program := "ytaacfdlnoeiojaa", sum := "9d8d579f67630e8dc538a60f17ddfec7d8f965cd95407e78bfb396740ce04341", func := "winepress/winepresslaw06.RcdecReads", spec := "rcdecReads", unfollowed := true, recurses := true, apart := false }
def RcdecReadsSaid : Prop := rcdecReadsRow.holds Try.pinned (OpenSpec.ofChange rcdecReadsSpec)

/-- ITS FALSE NEIGHBOUR: 'it returns false'. Refute it at one input. -/
def rcdecReadsWrong : ChangeSpec := { name := "rcdecReads", fn := fun _ => fun
  | [d1, d2] => { results := [.lit (.bool false)], args := [d1, d2] }
  | _ => none }
def RcdecReadsWrongFalsely : Prop := rcdecReadsRow.holds Try.pinned (OpenSpec.ofChange rcdecReadsWrong)

/-- 'winepresslaw06.RcdecBack': WHATEVER THE INPUT: true; the input reads as it did. -/
def rcdecBackSpec : ChangeSpec := { name := "rcdecBack", fn := fun _ => fun
  | [d1, d2] => { results := [.lit (.bool true)], args := [d1, d2] }
  | _ => none }
def rcdecBackRow : OpenClaim := { program := "ytaacfdlnoeiojaa", sum := "9d8d579f67630e8dc538a60f17ddfec7d8f965cd95407e78bfb396740ce04341", func := "winepress/winepresslaw06.RcdecBack", spec := "rcdecBack", unfollowed := true, recurses := true, apart := false }
def RcdecBackSaid : Prop := rcdecBackRow.holds Try.pinned (OpenSpec.ofChange rcdecBackSpec)

/-- ITS FALSE NEIGHBOUR: 'it returns false'. Refute it at one input. -/
def rcdecBackWrong : ChangeSpec := { name := "rcdecBack", fn := fun _ => fun
  | [d1, d2] => { results := [.lit (.bool false)], args := [d1, d2] }
  | _ => none }
def RcdecBackWrongFalsely : Prop := rcdecBackRow.holds Try.pinned (OpenSpec.ofChange rcdecBackWrong)

/- THE SECOND FORM. 'bulk': how many values and letters a reading holds, each counted each time it is reached (what is shared counts as often as it is met; a slice's spare places count too). A statement '..UptoSaid' is the law's where the arguments, and the package variables that the reading takes, are together of bulk at most 1048576: NARROWER than '..Said'. Prove '..Said' where nothing that the law and all that it calls make is longer than what came in: it says more and counts as full. Else prove '..UptoSaid'. A law counts once. -/
mutual
def uptoBulk {H : Type} : DataW H → Nat
  | .lit (.string bytes) => bytes.length + 1
  | .lit _ => 1
  | .nil => 1
  | .ptr d => uptoBulk d + 1
  | .slice elems spare => uptoBulkAll elems + uptoBulkAll spare + 1
  | .agg parts => uptoBulkAll parts + 1
  | .iface _ d => uptoBulk d + 1
  | .map entries => uptoBulkEntries entries + 1
  | .held _ => 1
def uptoBulkAll {H : Type} : List (DataW H) → Nat
  | [] => 0
  | d :: r => uptoBulk d + uptoBulkAll r
def uptoBulkEntries {H : Type} : List (Lit × DataW H) → Nat
  | [] => 0
  | x :: r => uptoBulkEntry x + uptoBulkEntries r
def uptoBulkEntry {H : Type} : Lit × DataW H → Nat
  | (.string bytes, d) => bytes.length + uptoBulk d + 1
  | (_, d) => uptoBulk d + 1
 end
def uptoSmall : (H : Type) → List (DataW H) → Bool := fun _ ds => decide (uptoBulkAll ds ≤ 1048576)
def OpenSpec.upto (s : _root_.Go.ChangeSpec) : _root_.Go.OpenSpec := { _root_.Go.OpenSpec.ofChange s with cond := some uptoSmall }

/-- 'winepresslaw06.RcdecReads', WHERE WHAT IT READS IS OF BULK AT MOST 1048576: true; the input reads as it did. -/
def rcdecReadsUptoRow : OpenClaim := { program := "ytaacfdlnoeiojaa", sum := "9d8d579f67630e8dc538a60f17ddfec7d8f965cd95407e78bfb396740ce04341", func := "winepress/winepresslaw06.RcdecReads", spec := "rcdecReads", unfollowed := true, recurses := true, apart := false, narrowed := true }
def RcdecReadsUptoSaid : Prop := rcdecReadsUptoRow.holds Try.pinned (OpenSpec.upto rcdecReadsSpec)

/-- 'winepresslaw06.RcdecBack', WHERE WHAT IT READS IS OF BULK AT MOST 1048576: true; the input reads as it did. -/
def rcdecBackUptoRow : OpenClaim := { program := "ytaacfdlnoeiojaa", sum := "9d8d579f67630e8dc538a60f17ddfec7d8f965cd95407e78bfb396740ce04341", func := "winepress/winepresslaw06.RcdecBack", spec := "rcdecBack", unfollowed := true, recurses := true, apart := false, narrowed := true }
def RcdecBackUptoSaid : Prop := rcdecBackUptoRow.holds Try.pinned (OpenSpec.upto rcdecBackSpec)

end Rows
end Go.Proofs.Ytaacfdlnoeiojaa
