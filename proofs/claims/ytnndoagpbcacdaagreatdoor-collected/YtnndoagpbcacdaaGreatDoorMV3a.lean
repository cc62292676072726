import Derived.Test.YtnndoagpbcacdaaGreatDoorV2
namespace Go.Proofs.YtnndoagpbcacdaaGreatDoor

theorem col_a : ((List.range 111).map (· + 0)).all colOk = true := by decide +kernel

end Go.Proofs.YtnndoagpbcacdaaGreatDoor
namespace Go.Proofs.YtnndoagpbcacdaaGreatDoor

theorem col_b : ((List.range 111).map (· + 111)).all colOk = true := by decide +kernel

end Go.Proofs.YtnndoagpbcacdaaGreatDoor
