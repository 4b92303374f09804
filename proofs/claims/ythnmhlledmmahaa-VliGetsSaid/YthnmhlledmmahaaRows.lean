/-
  No cell of these rows narrows 'for every input' (looked for: loops, veiled, ifaces, maps, wideKeys, modest, calm, conditions, laid).
  DERIVED. THE GIVEN ROWS OF THIS SEAT. 2 by the template 'for every input the law returns true; each argument reads behind the call as it read before'; 0 by the template 'total and deterministic' (their statements: YthnmhlledmmahaaTotals.lean).
  GIVEN WITH THE SEED: the statements are not yours to turn. If you find one false, say at which input.
  Laid BY PROGRAM, IN A SANDBOX (cutbox-rows.mjs): the forced cells as the released guide's own fill.sh prints them over the translation 30920c1af083525a… (all of the seat's roots in one cut). By AI agents, Wed Nov 11 2026. No macro, syntax, notation, axiom, sorry.
-/
import Derived.Test.YthnmhlledmmahaaChecked
import GoSem.Claim
import GoSem.ClaimJoined
import GoSem.ClaimMapViews
import Derived.JoinedTies
import Derived.KernelRfl
namespace Go.Proofs.Ythnmhlledmmahaa
/- THE CELL 'sum', in the pinned program and in every row, IS THE sha256 OF THE DUMP (.gsa) THAT YthnmhlledmmahaaProg.lean LOADS. Nothing in Lean hashes anything: it is a label: what it is worth is what the hold of that sum in a sandbox is worth. -/
noncomputable def Try.pinned : Pinned := { name := "ythnmhlledmmahaa", sum := "30920c1af083525af0f64cec0c6066c0a104ef57247d5f0f98e2ac44a5d95b2e", checked := Try.checked }
namespace Rows
def none {H : Type} : Left H := { results := [], args := [] }

/-- 'winepresslaw04.VliPuts': WHATEVER THE INPUT: true; the input reads as it did. -/
def vliPutsSpec : ChangeSpec := { name := "vliPuts", fn := fun _ => fun
  | [d1, d2] => { results := [.lit (.bool true)], args := [d1, d2] }
  | _ => none }
def vliPutsRow : OpenClaim := { program := "ythnmhlledmmahaa", sum := "30920c1af083525af0f64cec0c6066c0a104ef57247d5f0f98e2ac44a5d95b2e", func := "winepress/winepresslaw04.VliPuts", spec := "vliPuts", unfollowed := true, recurses := true, apart := false }
def VliPutsSaid : Prop := vliPutsRow.holds Try.pinned (OpenSpec.ofChange vliPutsSpec)

/-- ITS FALSE NEIGHBOUR: 'it returns false'. Refute it at one input. -/
def vliPutsWrong : ChangeSpec := { name := "vliPuts", fn := fun _ => fun
  | [d1, d2] => { results := [.lit (.bool false)], args := [d1, d2] }
  | _ => none }
def VliPutsWrongFalsely : Prop := vliPutsRow.holds Try.pinned (OpenSpec.ofChange vliPutsWrong)

/-- 'winepresslaw04.VliGets': WHATEVER THE INPUT: true; the input reads as it did. -/
def vliGetsSpec : ChangeSpec := { name := "vliGets", fn := fun _ => fun
  | [d] => { results := [.lit (.bool true)], args := [d] }
  | _ => none }
def vliGetsRow : OpenClaim := { program := "ythnmhlledmmahaa", sum := "30920c1af083525af0f64cec0c6066c0a104ef57247d5f0f98e2ac44a5d95b2e", func := "winepress/winepresslaw04.VliGets", spec := "vliGets", unfollowed := true, recurses := true, apart := false }
def VliGetsSaid : Prop := vliGetsRow.holds Try.pinned (OpenSpec.ofChange vliGetsSpec)

/-- ITS FALSE NEIGHBOUR: 'it returns false'. Refute it at one input. -/
def vliGetsWrong : ChangeSpec := { name := "vliGets", fn := fun _ => fun
  | [d] => { results := [.lit (.bool false)], args := [d] }
  | _ => none }
def VliGetsWrongFalsely : Prop := vliGetsRow.holds Try.pinned (OpenSpec.ofChange vliGetsWrong)

/- THE SECOND FORM. 'bulk': how many values and letters a reading holds, each counted each time it is reached (what is shared counts as often as it is met; a slice's spare places count too). A statement '..UptoSaid' is the law's where the arguments, and the package variables that the reading takes, are together of bulk at most 1048576: NARROWER than '..Said'. Prove '..Said' where nothing that the law and all that it calls make is longer than what came in: it says more and counts as full. Else prove '..UptoSaid'. A law counts once. -/
mutual
def uptoBulk {H : Type} : DataW H → Nat
  | .lit (.string bytes) => bytes.length + 1
  | .lit _ => 1
  | .nil => 1
  | .ptr d => uptoBulk d + 1
  | .slice elems spare => uptoBulkAll elems + uptoBulkAll spare + 1
  | .agg parts => uptoBulkAll parts + 1
  | .iface _ d => uptoBulk d + 1
  | .map entries => uptoBulkEntries entries + 1
  | .held _ => 1
def uptoBulkAll {H : Type} : List (DataW H) → Nat
  | [] => 0
  | d :: r => uptoBulk d + uptoBulkAll r
def uptoBulkEntries {H : Type} : List (Lit × DataW H) → Nat
  | [] => 0
  | x :: r => uptoBulkEntry x + uptoBulkEntries r
def uptoBulkEntry {H : Type} : Lit × DataW H → Nat
  | (.string bytes, d) => bytes.length + uptoBulk d + 1
  | (_, d) => uptoBulk d + 1
 end
def uptoSmall : (H : Type) → List (DataW H) → Bool := fun _ ds => decide (uptoBulkAll ds ≤ 1048576)
def OpenSpec.upto (s : _root_.Go.ChangeSpec) : _root_.Go.OpenSpec := { _root_.Go.OpenSpec.ofChange s with cond := some uptoSmall }

/-- 'winepresslaw04.VliPuts', WHERE WHAT IT READS IS OF BULK AT MOST 1048576: true; the input reads as it did. -/
def vliPutsUptoRow : OpenClaim := { program := "ythnmhlledmmahaa", sum := "30920c1af083525af0f64cec0c6066c0a104ef57247d5f0f98e2ac44a5d95b2e", func := "winepress/winepresslaw04.VliPuts", spec := "vliPuts", unfollowed := true, recurses := true, apart := false, narrowed := true }
def VliPutsUptoSaid : Prop := vliPutsUptoRow.holds Try.pinned (OpenSpec.upto vliPutsSpec)

/-- 'winepresslaw04.VliGets', WHERE WHAT IT READS IS OF BULK AT MOST 1048576: true; the input reads as it did. -/
def vliGetsUptoRow : OpenClaim := { program := "ythnmhlledmmahaa", sum := "30920c1af083525af0f64cec0c6066c0a104ef57247d5f0f98e2ac44a5d95b2e", func := "winepress/winepresslaw04.VliGets", spec := "vliGets", unfollowed := true, recurses := true, apart := false, narrowed := true }
def VliGetsUptoSaid : Prop := vliGetsUptoRow.holds Try.pinned (OpenSpec.upto vliGetsSpec)

end Rows
end Go.Proofs.Ythnmhlledmmahaa
