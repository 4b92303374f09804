/-
  DERIVED. GIVEN WITH THE SEED: THE CARDS: each row of YtibkhajhmncgkaaDoorRows.lean that lists a variable, with what it lists TIED to the program's text (the seventh form; the later family's looks); each row that meets fmt, with fmt's text TOLD by the authors' own Lean function (tested against real Go, not proved from fmt's source: count such statements apart). THE CARD IS WHAT COUNTS. Prove the row's statement (the work); the ties are given (YtibkhajhmncgkaaDoorTie.lean); close each card by the builder's one call (the guide's Derived/Test/ToyasCard.lean, 'card_holds'). Laid BY PROGRAM, IN A SANDBOX (cutbox-door.mjs). By AI agents, Wed Nov 11 2026. No macro, syntax, notation, axiom, sorry.
-/
import Derived.Test.YtibkhajhmncgkaaDoorRows
import GoSem.ClaimSeven
namespace Go.Proofs.YtibkhajhmncgkaaDoor
namespace Rows

/-- THE TIED CARD OF 'winepresslaw16.FlagsWrite'. -/
def flagsWriteCard : Claim7 := { stood := { row := flagsWriteRow, standIns := [], harness := (true, "734acf668a7deac494d0c399051b35a2ec928b40b107171b45dc9c09972c0d11"), looks := false }, kinds := [], alts := [], laidByText := true, laidKinds := [.data, .data], laidTests := true, laidLooks := .later }
def FlagsWriteCardSaid : Prop := Claim7.holds Tryd.pinned (.plain (OpenSpec.ofChange flagsWriteSpec)) flagsWriteCard

/-- THE TIED CARD OF 'winepresslaw16.FlagsRead'. -/
def flagsReadCard : Claim7 := { stood := { row := flagsReadRow, standIns := [], harness := (true, "734acf668a7deac494d0c399051b35a2ec928b40b107171b45dc9c09972c0d11"), looks := false }, kinds := [], alts := [], laidByText := true, laidKinds := [.data, .data], laidTests := true, laidLooks := .later }
def FlagsReadCardSaid : Prop := Claim7.holds Tryd.pinned (.plain (OpenSpec.ofChange flagsReadSpec)) flagsReadCard

/-- THE TIED CARD OF 'winepresslaw16.FlagsBack'. -/
def flagsBackCard : Claim7 := { stood := { row := flagsBackRow, standIns := [], harness := (true, "734acf668a7deac494d0c399051b35a2ec928b40b107171b45dc9c09972c0d11"), looks := false }, kinds := [], alts := [], laidByText := true, laidKinds := [.data, .data], laidTests := true, laidLooks := .later }
def FlagsBackCardSaid : Prop := Claim7.holds Tryd.pinned (.plain (OpenSpec.ofChange flagsBackSpec)) flagsBackCard

/-- THE SECOND FORM's CARD OF 'winepresslaw16.FlagsWrite'. -/
def flagsWriteUptoCard : Claim7 := { stood := { row := flagsWriteUptoRow, standIns := [], harness := (true, "734acf668a7deac494d0c399051b35a2ec928b40b107171b45dc9c09972c0d11"), looks := false }, kinds := [], alts := [], laidByText := true, laidKinds := [.data, .data], laidTests := true, laidLooks := .later }
def FlagsWriteUptoCardSaid : Prop := Claim7.holds Tryd.pinned (.plain (OpenSpec.upto flagsWriteSpec)) flagsWriteUptoCard

/-- THE SECOND FORM's CARD OF 'winepresslaw16.FlagsRead'. -/
def flagsReadUptoCard : Claim7 := { stood := { row := flagsReadUptoRow, standIns := [], harness := (true, "734acf668a7deac494d0c399051b35a2ec928b40b107171b45dc9c09972c0d11"), looks := false }, kinds := [], alts := [], laidByText := true, laidKinds := [.data, .data], laidTests := true, laidLooks := .later }
def FlagsReadUptoCardSaid : Prop := Claim7.holds Tryd.pinned (.plain (OpenSpec.upto flagsReadSpec)) flagsReadUptoCard

/-- THE SECOND FORM's CARD OF 'winepresslaw16.FlagsBack'. -/
def flagsBackUptoCard : Claim7 := { stood := { row := flagsBackUptoRow, standIns := [], harness := (true, "734acf668a7deac494d0c399051b35a2ec928b40b107171b45dc9c09972c0d11"), looks := false }, kinds := [], alts := [], laidByText := true, laidKinds := [.data, .data], laidTests := true, laidLooks := .later }
def FlagsBackUptoCardSaid : Prop := Claim7.holds Tryd.pinned (.plain (OpenSpec.upto flagsBackSpec)) flagsBackUptoCard
end Rows
end Go.Proofs.YtibkhajhmncgkaaDoor
