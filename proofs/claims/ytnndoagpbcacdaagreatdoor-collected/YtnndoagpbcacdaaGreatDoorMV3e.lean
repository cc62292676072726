import Derived.Test.YtnndoagpbcacdaaGreatDoorV2
namespace Go.Proofs.YtnndoagpbcacdaaGreatDoor

theorem col_e : ((List.range 111).map (· + 444)).all colOk = true := by decide +kernel

end Go.Proofs.YtnndoagpbcacdaaGreatDoor
namespace Go.Proofs.YtnndoagpbcacdaaGreatDoor

theorem col_f : ((List.range 111).map (· + 555)).all colOk = true := by decide +kernel

end Go.Proofs.YtnndoagpbcacdaaGreatDoor
