/-
  DERIVED. GIVEN WITH THE SEED: THE CARDS: each row of YtfcaoggfnkhfiaaGreatDoorRows.lean that lists a variable, with what it lists TIED to the program's text (the seventh form; the later family's looks); each row that meets fmt, with fmt's text TOLD by the authors' own Lean function (tested against real Go, not proved from fmt's source: count such statements apart). THE CARD IS WHAT COUNTS. Prove the row's statement (the work); the ties are given (YtfcaoggfnkhfiaaGreatDoorTie.lean); close each card by the builder's one call (the guide's Derived/Test/ToyasCard.lean, 'card_holds'). Laid BY PROGRAM, IN A SANDBOX (cutbox-door.mjs). By AI agents, Wed Nov 11 2026. No macro, syntax, notation, axiom, sorry.
-/
import Derived.Test.YtfcaoggfnkhfiaaGreatDoorRows
import GoSem.ClaimSeven
namespace Go.Proofs.YtfcaoggfnkhfiaaGreatDoor
namespace Rows

/-- THE TIED CARD OF 'winepresslaw20.StreamPacks'. -/
def streamPacksCard : Claim7 := { stood := { row := streamPacksRow, standIns := [], harness := (true, "2ab95aeabe96a4bb10aec38571e76a177f0f88cf0c5ebe1fa0e29f14a5814a27"), looks := false }, kinds := [], alts := [], laidByText := true, laidKinds := [.data, .data], laidTests := true, laidLooks := .later }
def StreamPacksCardSaid : Prop := Claim7.holds Tryz.pinned (.plain (OpenSpec.ofChange streamPacksSpec)) streamPacksCard

/-- THE TIED CARD OF 'winepresslaw20.StreamBack'. -/
def streamBackCard : Claim7 := { stood := { row := streamBackRow, standIns := [], harness := (true, "2ab95aeabe96a4bb10aec38571e76a177f0f88cf0c5ebe1fa0e29f14a5814a27"), looks := false }, kinds := [], alts := [], laidByText := true, laidKinds := [.data, .data], laidTests := true, laidLooks := .later }
def StreamBackCardSaid : Prop := Claim7.holds Tryz.pinned (.plain (OpenSpec.ofChange streamBackSpec)) streamBackCard

/-- THE SECOND FORM's CARD OF 'winepresslaw20.StreamPacks'. -/
def streamPacksUptoCard : Claim7 := { stood := { row := streamPacksUptoRow, standIns := [], harness := (true, "2ab95aeabe96a4bb10aec38571e76a177f0f88cf0c5ebe1fa0e29f14a5814a27"), looks := false }, kinds := [], alts := [], laidByText := true, laidKinds := [.data, .data], laidTests := true, laidLooks := .later }
def StreamPacksUptoCardSaid : Prop := Claim7.holds Tryz.pinned (.plain (OpenSpec.upto streamPacksSpec)) streamPacksUptoCard

/-- THE SECOND FORM's CARD OF 'winepresslaw20.StreamBack'. -/
def streamBackUptoCard : Claim7 := { stood := { row := streamBackUptoRow, standIns := [], harness := (true, "2ab95aeabe96a4bb10aec38571e76a177f0f88cf0c5ebe1fa0e29f14a5814a27"), looks := false }, kinds := [], alts := [], laidByText := true, laidKinds := [.data, .data], laidTests := true, laidLooks := .later }
def StreamBackUptoCardSaid : Prop := Claim7.holds Tryz.pinned (.plain (OpenSpec.upto streamBackSpec)) streamBackUptoCard
end Rows
end Go.Proofs.YtfcaoggfnkhfiaaGreatDoor
