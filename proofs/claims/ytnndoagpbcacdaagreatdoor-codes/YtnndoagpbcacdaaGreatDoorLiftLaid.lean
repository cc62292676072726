import Derived.Test.YtnndoagpbcacdaaGreatDoorLiftOps
import Derived.Test.YtnndoagpbcacdaaGreatDoorTie
import Derived.Test.YtnndoagpbcacdaaGreatDoorCards
import Derived.LaidMore
import Derived.Stop.Joined
import Derived.SevenTiedAt
import Derived.Lib.LaidTab
namespace Go.Proofs.YtnndoagpbcacdaaGreatDoor
open Go.ChangeShapes Go.WideShapes Go.ChangeAt Go.RowKit

/-- The heap that the door's run leaves meets what the rows list. -/
theorem door_met (os : Os) (args : Array Value) : laidMetH Tryz.prog Rows.checksRow.laid ((World.doorLaid Tryz.prog 400 os).forCall (fun _ _ => 0) ⟨#[], args, []⟩).memory :=
  laidMetH_of_parts3 (fuel := 8) (laidMet_of_run' 8 (by kernel_rfl) (by kernel_rfl)) (by kernel_rfl) (by kernel_rfl)

end Go.Proofs.YtnndoagpbcacdaaGreatDoor
