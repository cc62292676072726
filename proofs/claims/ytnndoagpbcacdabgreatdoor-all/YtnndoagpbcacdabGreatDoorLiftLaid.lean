import Derived.Test.YtnndoagpbcacdabGreatDoorLiftOps
import Derived.Test.YtnndoagpbcacdabGreatDoorTie
import Derived.Test.YtnndoagpbcacdabGreatDoorCards
import Derived.LaidMore
import Derived.Stop.Joined
import Derived.SevenTiedAt
import Derived.Lib.LaidTab
namespace Go.Proofs.YtnndoagpbcacdabGreatDoor
open Go.ChangeShapes Go.WideShapes Go.ChangeAt Go.RowKit
end Go.Proofs.YtnndoagpbcacdabGreatDoor
