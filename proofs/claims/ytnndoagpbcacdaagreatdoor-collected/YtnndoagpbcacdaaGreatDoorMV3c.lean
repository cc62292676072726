import Derived.Test.YtnndoagpbcacdaaGreatDoorV2
namespace Go.Proofs.YtnndoagpbcacdaaGreatDoor

theorem col_c : ((List.range 111).map (· + 222)).all colOk = true := by decide +kernel

end Go.Proofs.YtnndoagpbcacdaaGreatDoor
namespace Go.Proofs.YtnndoagpbcacdaaGreatDoor

theorem col_d : ((List.range 111).map (· + 333)).all colOk = true := by decide +kernel

end Go.Proofs.YtnndoagpbcacdaaGreatDoor
