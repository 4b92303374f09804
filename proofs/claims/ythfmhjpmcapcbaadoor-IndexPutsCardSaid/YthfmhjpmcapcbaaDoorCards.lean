/-
  DERIVED. GIVEN WITH THE SEED: THE CARDS: each row of YthfmhjpmcapcbaaDoorRows.lean that lists a variable, with what it lists TIED to the program's text (the seventh form; the later family's looks); each row that meets fmt, with fmt's text TOLD by the authors' own Lean function (tested against real Go, not proved from fmt's source: count such statements apart). THE CARD IS WHAT COUNTS. Prove the row's statement (the work); the ties are given (YthfmhjpmcapcbaaDoorTie.lean); close each card by the builder's one call (the guide's Derived/Test/ToyasCard.lean, 'card_holds'). Laid BY PROGRAM, IN A SANDBOX (cutbox-door.mjs). By AI agents, Wed Nov 11 2026. No macro, syntax, notation, axiom, sorry.
-/
import Derived.Test.YthfmhjpmcapcbaaDoorRows
import GoSem.ClaimSeven
namespace Go.Proofs.YthfmhjpmcapcbaaDoor
namespace Rows

/-- THE TIED CARD OF 'winepresslaw18.IndexPuts'. -/
def indexPutsCard : Claim7 := { stood := { row := indexPutsRow, standIns := [], harness := (true, "f02dda5dc0089b403b6548079410a3e64feb64a11637d2e9ee493bf2f791cb9d"), looks := false }, kinds := [], alts := [], laidByText := true, laidKinds := [.data, .data], laidTests := true, laidLooks := .later }
def IndexPutsCardSaid : Prop := Claim7.holds Tryd.pinned (.plain (OpenSpec.ofChange indexPutsSpec)) indexPutsCard

/-- THE TIED CARD OF 'winepresslaw18.IndexGets'. -/
def indexGetsCard : Claim7 := { stood := { row := indexGetsRow, standIns := [], harness := (true, "f02dda5dc0089b403b6548079410a3e64feb64a11637d2e9ee493bf2f791cb9d"), looks := false }, kinds := [], alts := [], laidByText := true, laidKinds := [.data, .data], laidTests := true, laidLooks := .later }
def IndexGetsCardSaid : Prop := Claim7.holds Tryd.pinned (.plain (OpenSpec.ofChange indexGetsSpec)) indexGetsCard

/-- THE SECOND FORM's CARD OF 'winepresslaw18.IndexPuts'. -/
def indexPutsUptoCard : Claim7 := { stood := { row := indexPutsUptoRow, standIns := [], harness := (true, "f02dda5dc0089b403b6548079410a3e64feb64a11637d2e9ee493bf2f791cb9d"), looks := false }, kinds := [], alts := [], laidByText := true, laidKinds := [.data, .data], laidTests := true, laidLooks := .later }
def IndexPutsUptoCardSaid : Prop := Claim7.holds Tryd.pinned (.plain (OpenSpec.upto indexPutsSpec)) indexPutsUptoCard

/-- THE SECOND FORM's CARD OF 'winepresslaw18.IndexGets'. -/
def indexGetsUptoCard : Claim7 := { stood := { row := indexGetsUptoRow, standIns := [], harness := (true, "f02dda5dc0089b403b6548079410a3e64feb64a11637d2e9ee493bf2f791cb9d"), looks := false }, kinds := [], alts := [], laidByText := true, laidKinds := [.data, .data], laidTests := true, laidLooks := .later }
def IndexGetsUptoCardSaid : Prop := Claim7.holds Tryd.pinned (.plain (OpenSpec.upto indexGetsSpec)) indexGetsUptoCard
end Rows
end Go.Proofs.YthfmhjpmcapcbaaDoor
