/-
  No cell of these rows narrows 'for every input' (looked for: loops, veiled, ifaces, maps, wideKeys, modest, calm, conditions, laid).
  DERIVED. THE GIVEN ROWS OF THIS SEAT. 2 by the template 'for every input the law returns true; each argument reads behind the call as it read before'; 0 by the template 'total and deterministic' (their statements: YtkckjjchfccdjaaTotals.lean).
  GIVEN WITH THE SEED: the statements are not yours to turn. If you find one false, say at which input.
  Laid BY PROGRAM, IN A SANDBOX (cutbox-rows.mjs): the forced cells as the released guide's own fill.sh prints them over the translation e0b65e39fb7000eb… (all of the seat's roots in one cut). By AI agents, Wed Nov 11 2026. No macro, syntax, notation, axiom, sorry.
-/
import Derived.Test.YtkckjjchfccdjaaChecked
import GoSem.Claim
import GoSem.ClaimJoined
import GoSem.ClaimMapViews
import Derived.JoinedTies
import Derived.KernelRfl
namespace Go.Proofs.Ytkckjjchfccdjaa
/- THE CELL 'sum', in the pinned program and in every row, IS THE sha256 OF THE DUMP (.gsa) THAT YtkckjjchfccdjaaProg.lean LOADS. Nothing in Lean hashes anything: it is a label: what it is worth is what the hold of that sum in a sandbox is worth. -/
noncomputable def Try.pinned : Pinned := { name := "ytkckjjchfccdjaa", sum := "e0b65e39fb7000eb8955a31acea36589840518618de7a4384852d7c7188c28a0", checked := Try.checked }
namespace Rows
def none {H : Type} : Left H := { results := [], args := [] }

/-- 'winepresslaw12.UnchunkReads': WHATEVER THE INPUT: true; the input reads as it did. -/
def unchunkReadsSpec : ChangeSpec := { name := "unchunkReads", fn := fun _ => fun
  | [d1, d2] => { results := [.lit (.bool true)], args := [d1, d2] }
  | _ => none }
def unchunkReadsRow : OpenClaim := { program := "ytkckjjchfccdjaa", sum := "e0b65e39fb7000eb8955a31acea36589840518618de7a4384852d7c7188c28a0", func := "winepress/winepresslaw12.UnchunkReads", spec := "unchunkReads", unfollowed := true, recurses := true, plainKeys := false, apart := false }
def UnchunkReadsSaid : Prop := unchunkReadsRow.holds Try.pinned (OpenSpec.ofChange unchunkReadsSpec)

/-- ITS FALSE NEIGHBOUR: 'it returns false'. Refute it at one input. -/
def unchunkReadsWrong : ChangeSpec := { name := "unchunkReads", fn := fun _ => fun
  | [d1, d2] => { results := [.lit (.bool false)], args := [d1, d2] }
  | _ => none }
def UnchunkReadsWrongFalsely : Prop := unchunkReadsRow.holds Try.pinned (OpenSpec.ofChange unchunkReadsWrong)

/-- 'winepresslaw12.UnchunkBack': WHATEVER THE INPUT: true; the input reads as it did. -/
def unchunkBackSpec : ChangeSpec := { name := "unchunkBack", fn := fun _ => fun
  | [d1, d2, d3, d4] => { results := [.lit (.bool true)], args := [d1, d2, d3, d4] }
  | _ => none }
def unchunkBackRow : OpenClaim := { program := "ytkckjjchfccdjaa", sum := "e0b65e39fb7000eb8955a31acea36589840518618de7a4384852d7c7188c28a0", func := "winepress/winepresslaw12.UnchunkBack", spec := "unchunkBack", unfollowed := true, recurses := true, plainKeys := false, apart := false }
def UnchunkBackSaid : Prop := unchunkBackRow.holds Try.pinned (OpenSpec.ofChange unchunkBackSpec)

/-- ITS FALSE NEIGHBOUR: 'it returns false'. Refute it at one input. -/
def unchunkBackWrong : ChangeSpec := { name := "unchunkBack", fn := fun _ => fun
  | [d1, d2, d3, d4] => { results := [.lit (.bool false)], args := [d1, d2, d3, d4] }
  | _ => none }
def UnchunkBackWrongFalsely : Prop := unchunkBackRow.holds Try.pinned (OpenSpec.ofChange unchunkBackWrong)

/- THE SECOND FORM. 'bulk': how many values and letters a reading holds, each counted each time it is reached (what is shared counts as often as it is met; a slice's spare places count too). A statement '..UptoSaid' is the law's where the arguments, and the package variables that the reading takes, are together of bulk at most 1048576: NARROWER than '..Said'. Prove '..Said' where nothing that the law and all that it calls make is longer than what came in: it says more and counts as full. Else prove '..UptoSaid'. A law counts once. -/
mutual
def uptoBulk {H : Type} : DataW H → Nat
  | .lit (.string bytes) => bytes.length + 1
  | .lit _ => 1
  | .nil => 1
  | .ptr d => uptoBulk d + 1
  | .slice elems spare => uptoBulkAll elems + uptoBulkAll spare + 1
  | .agg parts => uptoBulkAll parts + 1
  | .iface _ d => uptoBulk d + 1
  | .map entries => uptoBulkEntries entries + 1
  | .held _ => 1
def uptoBulkAll {H : Type} : List (DataW H) → Nat
  | [] => 0
  | d :: r => uptoBulk d + uptoBulkAll r
def uptoBulkEntries {H : Type} : List (Lit × DataW H) → Nat
  | [] => 0
  | x :: r => uptoBulkEntry x + uptoBulkEntries r
def uptoBulkEntry {H : Type} : Lit × DataW H → Nat
  | (.string bytes, d) => bytes.length + uptoBulk d + 1
  | (_, d) => uptoBulk d + 1
 end
def uptoSmall : (H : Type) → List (DataW H) → Bool := fun _ ds => decide (uptoBulkAll ds ≤ 1048576)
def OpenSpec.upto (s : _root_.Go.ChangeSpec) : _root_.Go.OpenSpec := { _root_.Go.OpenSpec.ofChange s with cond := some uptoSmall }

/-- 'winepresslaw12.UnchunkReads', WHERE WHAT IT READS IS OF BULK AT MOST 1048576: true; the input reads as it did. -/
def unchunkReadsUptoRow : OpenClaim := { program := "ytkckjjchfccdjaa", sum := "e0b65e39fb7000eb8955a31acea36589840518618de7a4384852d7c7188c28a0", func := "winepress/winepresslaw12.UnchunkReads", spec := "unchunkReads", unfollowed := true, recurses := true, plainKeys := false, apart := false, narrowed := true }
def UnchunkReadsUptoSaid : Prop := unchunkReadsUptoRow.holds Try.pinned (OpenSpec.upto unchunkReadsSpec)

/-- 'winepresslaw12.UnchunkBack', WHERE WHAT IT READS IS OF BULK AT MOST 1048576: true; the input reads as it did. -/
def unchunkBackUptoRow : OpenClaim := { program := "ytkckjjchfccdjaa", sum := "e0b65e39fb7000eb8955a31acea36589840518618de7a4384852d7c7188c28a0", func := "winepress/winepresslaw12.UnchunkBack", spec := "unchunkBack", unfollowed := true, recurses := true, plainKeys := false, apart := false, narrowed := true }
def UnchunkBackUptoSaid : Prop := unchunkBackUptoRow.holds Try.pinned (OpenSpec.upto unchunkBackSpec)

end Rows
end Go.Proofs.Ytkckjjchfccdjaa
