/-
  No cell of these rows narrows 'for every input' (looked for: loops, veiled, ifaces, maps, wideKeys, modest, calm, conditions, laid).
  DERIVED. THE GIVEN ROWS OF THIS SEAT. 2 by the template 'for every input the law returns true; each argument reads behind the call as it read before'; 0 by the template 'total and deterministic' (their statements: YteiglcgkhcmkeaaTotals.lean).
  GIVEN WITH THE SEED: the statements are not yours to turn. If you find one false, say at which input.
  Laid BY PROGRAM, IN A SANDBOX (cutbox-rows.mjs): the forced cells as the released guide's own fill.sh prints them over the translation 2f0e1c3302319e24… (all of the seat's roots in one cut). By AI agents, Wed Nov 11 2026. No macro, syntax, notation, axiom, sorry.
-/
import Derived.Test.YteiglcgkhcmkeaaChecked
import GoSem.Claim
import GoSem.ClaimJoined
import GoSem.ClaimMapViews
import Derived.JoinedTies
import Derived.KernelRfl
namespace Go.Proofs.Yteiglcgkhcmkeaa
/- THE CELL 'sum', in the pinned program and in every row, IS THE sha256 OF THE DUMP (.gsa) THAT YteiglcgkhcmkeaaProg.lean LOADS. Nothing in Lean hashes anything: it is a label: what it is worth is what the hold of that sum in a sandbox is worth. -/
noncomputable def Try.pinned : Pinned := { name := "yteiglcgkhcmkeaa", sum := "2f0e1c3302319e242b1df7f84d461d5e77cd40dc7c2cff908f65882f7f8d2674", checked := Try.checked }
namespace Rows
def none {H : Type} : Left H := { results := [], args := [] }

/-- 'winepresslaw05.RcencCodes': WHATEVER THE INPUT: true; the input reads as it did. -/
def rcencCodesSpec : ChangeSpec := { name := "rcencCodes", fn := fun _ => fun
  | [d] => { results := [.lit (.bool true)], args := [d] }
  | _ => none }
def rcencCodesRow : OpenClaim := { program := "yteiglcgkhcmkeaa", sum := "2f0e1c3302319e242b1df7f84d461d5e77cd40dc7c2cff908f65882f7f8d2674", func := "winepress/winepresslaw05.RcencCodes", spec := "rcencCodes", unfollowed := true, recurses := true, apart := false }
def RcencCodesSaid : Prop := rcencCodesRow.holds Try.pinned (OpenSpec.ofChange rcencCodesSpec)

/-- ITS FALSE NEIGHBOUR: 'it returns false'. Refute it at one input. -/
def rcencCodesWrong : ChangeSpec := { name := "rcencCodes", fn := fun _ => fun
  | [d] => { results := [.lit (.bool false)], args := [d] }
  | _ => none }
def RcencCodesWrongFalsely : Prop := rcencCodesRow.holds Try.pinned (OpenSpec.ofChange rcencCodesWrong)

/-- 'winepresslaw05.RcencSame': WHATEVER THE INPUT: true; the input reads as it did. -/
def rcencSameSpec : ChangeSpec := { name := "rcencSame", fn := fun _ => fun
  | [d1, d2] => { results := [.lit (.bool true)], args := [d1, d2] }
  | _ => none }
def rcencSameRow : OpenClaim := { program := "yteiglcgkhcmkeaa", sum := "2f0e1c3302319e242b1df7f84d461d5e77cd40dc7c2cff908f65882f7f8d2674", func := "winepress/winepresslaw05.RcencSame", spec := "rcencSame", unfollowed := true, recurses := true, apart := false }
def RcencSameSaid : Prop := rcencSameRow.holds Try.pinned (OpenSpec.ofChange rcencSameSpec)

/-- ITS FALSE NEIGHBOUR: 'it returns false'. Refute it at one input. -/
def rcencSameWrong : ChangeSpec := { name := "rcencSame", fn := fun _ => fun
  | [d1, d2] => { results := [.lit (.bool false)], args := [d1, d2] }
  | _ => none }
def RcencSameWrongFalsely : Prop := rcencSameRow.holds Try.pinned (OpenSpec.ofChange rcencSameWrong)

/- THE SECOND FORM. 'bulk': how many values and letters a reading holds, each counted each time it is reached (what is shared counts as often as it is met; a slice's spare places count too). A statement '..UptoSaid' is the law's where the arguments, and the package variables that the reading takes, are together of bulk at most 1048576: NARROWER than '..Said'. Prove '..Said' where nothing that the law and all that it calls make is longer than what came in: it says more and counts as full. Else prove '..UptoSaid'. A law counts once. -/
mutual
def uptoBulk {H : Type} : DataW H → Nat
  | .lit (.string bytes) => bytes.length + 1
  | .lit _ => 1
  | .nil => 1
  | .ptr d => uptoBulk d + 1
  | .slice elems spare => uptoBulkAll elems + uptoBulkAll spare + 1
  | .agg parts => uptoBulkAll parts + 1
  | .iface _ d => uptoBulk d + 1
  | .map entries => uptoBulkEntries entries + 1
  | .held _ => 1
def uptoBulkAll {H : Type} : List (DataW H) → Nat
  | [] => 0
  | d :: r => uptoBulk d + uptoBulkAll r
def uptoBulkEntries {H : Type} : List (Lit × DataW H) → Nat
  | [] => 0
  | x :: r => uptoBulkEntry x + uptoBulkEntries r
def uptoBulkEntry {H : Type} : Lit × DataW H → Nat
  | (.string bytes, d) => bytes.length + uptoBulk d + 1
  | (_, d) => uptoBulk d + 1
 end
def uptoSmall : (H : Type) → List (DataW H) → Bool := fun _ ds => decide (uptoBulkAll ds ≤ 1048576)
def OpenSpec.upto (s : _root_.Go.ChangeSpec) : _root_.Go.OpenSpec := { _root_.Go.OpenSpec.ofChange s with cond := some uptoSmall }

/-- 'winepresslaw05.RcencCodes', WHERE WHAT IT READS IS OF BULK AT MOST 1048576: true; the input reads as it did. -/
def rcencCodesUptoRow : OpenClaim := { program := "yteiglcgkhcmkeaa", sum := "2f0e1c3302319e242b1df7f84d461d5e77cd40dc7c2cff908f65882f7f8d2674", func := "winepress/winepresslaw05.RcencCodes", spec := "rcencCodes", unfollowed := true, recurses := true, apart := false, narrowed := true }
def RcencCodesUptoSaid : Prop := rcencCodesUptoRow.holds Try.pinned (OpenSpec.upto rcencCodesSpec)

/-- 'winepresslaw05.RcencSame', WHERE WHAT IT READS IS OF BULK AT MOST 1048576: true; the input reads as it did. -/
def rcencSameUptoRow : OpenClaim := { program := "yteiglcgkhcmkeaa", sum := "2f0e1c3302319e242b1df7f84d461d5e77cd40dc7c2cff908f65882f7f8d2674", func := "winepress/winepresslaw05.RcencSame", spec := "rcencSame", unfollowed := true, recurses := true, apart := false, narrowed := true }
def RcencSameUptoSaid : Prop := rcencSameUptoRow.holds Try.pinned (OpenSpec.upto rcencSameSpec)

end Rows
end Go.Proofs.Yteiglcgkhcmkeaa
