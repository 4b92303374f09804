/- A law's statement out of its contract, where two tables of the program's text are listed that no walk needs: a world that holds them. -/
import Derived.Test.YtaggkcgeddoogaaDoorLift
import Derived.OpenShut
import Derived.LaidMore
namespace Go.Proofs.YtaggkcgeddoogaaDoor
open Go.ChangeShapes Go.WideShapes Go.ChangeAt Go.RowKit

abbrev laid2 : List (String × DataW Unit) := [("winepress/sha256.firstWords", Rows.laid_winepress_sha256_firstWords), ("winepress/sha256.roundWords", Rows.laid_winepress_sha256_roundWords)]
def oneInt : DataW Unit → Int
  | .lit (.int _ x) => x
  | _ => 0
def someInts : DataW Unit → List Int
  | .agg l => l.map oneInt
  | _ => []
/-- A world that meets the condition. -/
noncomputable def laidWorld (os : Os) : World :=
  let w0 := World.holding Tryd.prog os ⟨#[], #[], []⟩
  let lay (l : List Int) : Obj → Obj
    | .cells _ t frozen => .cells (l.map fun x => .int .u32 x).toArray t frozen
    | o => o
  { w0 with heap := (w0.heap.modify 0 (lay (someInts Rows.laid_winepress_sha256_firstWords))).modify 1 (lay (someInts Rows.laid_winepress_sha256_roundWords)) }
theorem laidWorld_met (os : Os) (args : Array Value) : laidMet Tryd.prog laid2 ((laidWorld os).forCall (fun _ _ => 0) ⟨#[], args, []⟩).memory :=
  laidMet_of_run' 8 (by kernel_rfl) (by kernel_rfl)
end Go.Proofs.YtaggkcgeddoogaaDoor
