/-
  DERIVED. GIVEN WITH THE SEED: THE CARDS: each row of YtnndoagpbcacdaaGreatDoorRows.lean that lists a variable, with what it lists TIED to the program's text (the seventh form; the later family's looks); each row that meets fmt, with fmt's text TOLD by the authors' own Lean function (tested against real Go, not proved from fmt's source: count such statements apart). THE CARD IS WHAT COUNTS. Prove the row's statement (the work); the ties are given (YtnndoagpbcacdaaGreatDoorTie.lean); close each card by the builder's one call (the guide's Derived/Test/ToyasCard.lean, 'card_holds'). Laid BY PROGRAM, IN A SANDBOX (cutbox-door.mjs). By AI agents, Wed Nov 11 2026. No macro, syntax, notation, axiom, sorry.
-/
import Derived.Test.YtnndoagpbcacdaaGreatDoorRows
import GoSem.ClaimSeven
namespace Go.Proofs.YtnndoagpbcacdaaGreatDoor
namespace Rows

/-- THE TIED CARD OF 'redexlaw.Checks'. -/
def checksCard : Claim7 := { stood := { row := checksRow, standIns := [], harness := (true, "9ebd6ab592eccd8daa20ccef9a184104d2a57c6bcdf03908c9bdb73ee7d6a1c2"), looks := false }, kinds := [], alts := [], laidByText := true, laidKinds := [.data, .data, .data], laidTests := true, laidLooks := .later }
def ChecksCardSaid : Prop := Claim7.holds Tryz.pinned (.plain (OpenSpec.ofChange checksSpec)) checksCard

/-- THE TIED CARD OF 'redexlaw.Shows'. -/
def showsCard : Claim7 := { stood := { row := showsRow, standIns := [], harness := (true, "9ebd6ab592eccd8daa20ccef9a184104d2a57c6bcdf03908c9bdb73ee7d6a1c2"), looks := false }, kinds := [], alts := [], laidByText := true, laidKinds := [.data, .data, .data], laidTests := true, laidLooks := .later }
def ShowsCardSaid : Prop := Claim7.holds Tryz.pinned (.plain (OpenSpec.ofChange showsSpec)) showsCard

/-- THE TIED CARD OF 'redexlaw.Compiles'. -/
def compilesCard : Claim7 := { stood := { row := compilesRow, standIns := [], harness := (true, "9ebd6ab592eccd8daa20ccef9a184104d2a57c6bcdf03908c9bdb73ee7d6a1c2"), looks := false }, kinds := [], alts := [], laidByText := true, laidKinds := [.data, .data, .data], laidTests := true, laidLooks := .later }
def CompilesCardSaid : Prop := Claim7.holds Tryz.pinned (.plain (OpenSpec.ofChange compilesSpec)) compilesCard

/-- THE TIED CARD OF 'redexlaw.Codes'. -/
def codesCard : Claim7 := { stood := { row := codesRow, standIns := [], harness := (true, "9ebd6ab592eccd8daa20ccef9a184104d2a57c6bcdf03908c9bdb73ee7d6a1c2"), looks := false }, kinds := [], alts := [], laidByText := true, laidKinds := [.data, .data, .data], laidTests := true, laidLooks := .later }
def CodesCardSaid : Prop := Claim7.holds Tryz.pinned (.plain (OpenSpec.ofChange codesSpec)) codesCard

/-- THE TIED CARD OF 'redexlaw.Runs'. -/
def runsCard : Claim7 := { stood := { row := runsRow, standIns := [], harness := (true, "9ebd6ab592eccd8daa20ccef9a184104d2a57c6bcdf03908c9bdb73ee7d6a1c2"), looks := false }, kinds := [], alts := [], laidByText := true, laidKinds := [.data, .data, .data], laidTests := true, laidLooks := .later }
def RunsCardSaid : Prop := Claim7.holds Tryz.pinned (.plain (OpenSpec.ofChange runsSpec)) runsCard

/-- THE TIED CARD OF 'redexkeep.Collected'. -/
def collectedCard : Claim7 := { stood := { row := collectedRow, standIns := [], harness := (true, "9ebd6ab592eccd8daa20ccef9a184104d2a57c6bcdf03908c9bdb73ee7d6a1c2"), looks := false }, kinds := [], alts := [], laidByText := true, laidKinds := [.data, .data, .data], laidTests := true, laidLooks := .later }
def CollectedCardSaid : Prop := Claim7.holds Tryz.pinned (.plain (OpenSpec.ofChange collectedSpec)) collectedCard

/-- THE TIED CARD OF 'redexlaw.Evals'. -/
def evalsCard : Claim7 := { stood := { row := evalsRow, standIns := [], harness := (true, "9ebd6ab592eccd8daa20ccef9a184104d2a57c6bcdf03908c9bdb73ee7d6a1c2"), looks := false }, kinds := [], alts := [], laidByText := true, laidKinds := [.data, .data, .data], laidTests := true, laidLooks := .later }
def EvalsCardSaid : Prop := Claim7.holds Tryz.pinned (.plain (OpenSpec.ofChange evalsSpec)) evalsCard

/-- THE TIED CARD OF 'redexkeep.Counted'. -/
def countedCard : Claim7 := { stood := { row := countedRow, standIns := [], harness := (true, "9ebd6ab592eccd8daa20ccef9a184104d2a57c6bcdf03908c9bdb73ee7d6a1c2"), looks := false }, kinds := [], alts := [], laidByText := true, laidKinds := [.data, .data, .data], laidTests := true, laidLooks := .later }
def CountedCardSaid : Prop := Claim7.holds Tryz.pinned (.plain (OpenSpec.ofChange countedSpec)) countedCard

/-- THE TIED CARD OF 'redexkeep.Unneeded'. -/
def unneededCard : Claim7 := { stood := { row := unneededRow, standIns := [], harness := (true, "9ebd6ab592eccd8daa20ccef9a184104d2a57c6bcdf03908c9bdb73ee7d6a1c2"), looks := false }, kinds := [], alts := [], laidByText := true, laidKinds := [.data, .data, .data], laidTests := true, laidLooks := .later }
def UnneededCardSaid : Prop := Claim7.holds Tryz.pinned (.plain (OpenSpec.ofChange unneededSpec)) unneededCard

/-- THE SECOND FORM's CARD OF 'redexlaw.Checks'. -/
def checksUptoCard : Claim7 := { stood := { row := checksUptoRow, standIns := [], harness := (true, "9ebd6ab592eccd8daa20ccef9a184104d2a57c6bcdf03908c9bdb73ee7d6a1c2"), looks := false }, kinds := [], alts := [], laidByText := true, laidKinds := [.data, .data, .data], laidTests := true, laidLooks := .later }
def ChecksUptoCardSaid : Prop := Claim7.holds Tryz.pinned (.plain (OpenSpec.upto checksSpec)) checksUptoCard

/-- THE SECOND FORM's CARD OF 'redexlaw.Shows'. -/
def showsUptoCard : Claim7 := { stood := { row := showsUptoRow, standIns := [], harness := (true, "9ebd6ab592eccd8daa20ccef9a184104d2a57c6bcdf03908c9bdb73ee7d6a1c2"), looks := false }, kinds := [], alts := [], laidByText := true, laidKinds := [.data, .data, .data], laidTests := true, laidLooks := .later }
def ShowsUptoCardSaid : Prop := Claim7.holds Tryz.pinned (.plain (OpenSpec.upto showsSpec)) showsUptoCard

/-- THE SECOND FORM's CARD OF 'redexlaw.Compiles'. -/
def compilesUptoCard : Claim7 := { stood := { row := compilesUptoRow, standIns := [], harness := (true, "9ebd6ab592eccd8daa20ccef9a184104d2a57c6bcdf03908c9bdb73ee7d6a1c2"), looks := false }, kinds := [], alts := [], laidByText := true, laidKinds := [.data, .data, .data], laidTests := true, laidLooks := .later }
def CompilesUptoCardSaid : Prop := Claim7.holds Tryz.pinned (.plain (OpenSpec.upto compilesSpec)) compilesUptoCard

/-- THE SECOND FORM's CARD OF 'redexlaw.Codes'. -/
def codesUptoCard : Claim7 := { stood := { row := codesUptoRow, standIns := [], harness := (true, "9ebd6ab592eccd8daa20ccef9a184104d2a57c6bcdf03908c9bdb73ee7d6a1c2"), looks := false }, kinds := [], alts := [], laidByText := true, laidKinds := [.data, .data, .data], laidTests := true, laidLooks := .later }
def CodesUptoCardSaid : Prop := Claim7.holds Tryz.pinned (.plain (OpenSpec.upto codesSpec)) codesUptoCard

/-- THE SECOND FORM's CARD OF 'redexlaw.Runs'. -/
def runsUptoCard : Claim7 := { stood := { row := runsUptoRow, standIns := [], harness := (true, "9ebd6ab592eccd8daa20ccef9a184104d2a57c6bcdf03908c9bdb73ee7d6a1c2"), looks := false }, kinds := [], alts := [], laidByText := true, laidKinds := [.data, .data, .data], laidTests := true, laidLooks := .later }
def RunsUptoCardSaid : Prop := Claim7.holds Tryz.pinned (.plain (OpenSpec.upto runsSpec)) runsUptoCard

/-- THE SECOND FORM's CARD OF 'redexkeep.Collected'. -/
def collectedUptoCard : Claim7 := { stood := { row := collectedUptoRow, standIns := [], harness := (true, "9ebd6ab592eccd8daa20ccef9a184104d2a57c6bcdf03908c9bdb73ee7d6a1c2"), looks := false }, kinds := [], alts := [], laidByText := true, laidKinds := [.data, .data, .data], laidTests := true, laidLooks := .later }
def CollectedUptoCardSaid : Prop := Claim7.holds Tryz.pinned (.plain (OpenSpec.upto collectedSpec)) collectedUptoCard

/-- THE SECOND FORM's CARD OF 'redexlaw.Evals'. -/
def evalsUptoCard : Claim7 := { stood := { row := evalsUptoRow, standIns := [], harness := (true, "9ebd6ab592eccd8daa20ccef9a184104d2a57c6bcdf03908c9bdb73ee7d6a1c2"), looks := false }, kinds := [], alts := [], laidByText := true, laidKinds := [.data, .data, .data], laidTests := true, laidLooks := .later }
def EvalsUptoCardSaid : Prop := Claim7.holds Tryz.pinned (.plain (OpenSpec.upto evalsSpec)) evalsUptoCard

/-- THE SECOND FORM's CARD OF 'redexkeep.Counted'. -/
def countedUptoCard : Claim7 := { stood := { row := countedUptoRow, standIns := [], harness := (true, "9ebd6ab592eccd8daa20ccef9a184104d2a57c6bcdf03908c9bdb73ee7d6a1c2"), looks := false }, kinds := [], alts := [], laidByText := true, laidKinds := [.data, .data, .data], laidTests := true, laidLooks := .later }
def CountedUptoCardSaid : Prop := Claim7.holds Tryz.pinned (.plain (OpenSpec.upto countedSpec)) countedUptoCard

/-- THE SECOND FORM's CARD OF 'redexkeep.Unneeded'. -/
def unneededUptoCard : Claim7 := { stood := { row := unneededUptoRow, standIns := [], harness := (true, "9ebd6ab592eccd8daa20ccef9a184104d2a57c6bcdf03908c9bdb73ee7d6a1c2"), looks := false }, kinds := [], alts := [], laidByText := true, laidKinds := [.data, .data, .data], laidTests := true, laidLooks := .later }
def UnneededUptoCardSaid : Prop := Claim7.holds Tryz.pinned (.plain (OpenSpec.upto unneededSpec)) unneededUptoCard
end Rows
end Go.Proofs.YtnndoagpbcacdaaGreatDoor
