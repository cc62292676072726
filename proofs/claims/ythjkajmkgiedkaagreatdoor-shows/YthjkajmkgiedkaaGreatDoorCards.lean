/-
  DERIVED. GIVEN WITH THE SEED: THE CARDS: each row of YthjkajmkgiedkaaGreatDoorRows.lean that lists a variable, with what it lists TIED to the program's text (the seventh form; the later family's looks); each row that meets fmt, with fmt's text TOLD by the authors' own Lean function (tested against real Go, not proved from fmt's source: count such statements apart). THE CARD IS WHAT COUNTS. Prove the row's statement (the work); the ties are given (YthjkajmkgiedkaaGreatDoorTie.lean); close each card by the builder's one call (the guide's Derived/Test/ToyasCard.lean, 'card_holds'). Laid BY PROGRAM, IN A SANDBOX (cutbox-door.mjs). By AI agents, Wed Nov 11 2026. No macro, syntax, notation, axiom, sorry.
-/
import Derived.Test.YthjkajmkgiedkaaGreatDoorRows
import GoSem.ClaimSeven
namespace Go.Proofs.YthjkajmkgiedkaaGreatDoor
namespace Rows

/-- THE TIED CARD OF 'redexlaw.Checks'. -/
def checksCard : Claim7 := { stood := { row := checksRow, standIns := [], harness := (true, "f32dea3c8afc690dbf00401950df444a714ee745af3c04db5e173a5ea0241196"), looks := false }, kinds := [], alts := [], laidByText := true, laidKinds := [.data, .data, .data], laidTests := true, laidLooks := .later }
def ChecksCardSaid : Prop := Claim7.holds Tryz.pinned (.plain (OpenSpec.ofChange checksSpec)) checksCard

/-- THE TIED CARD OF 'redexlaw.Shows'. -/
def showsCard : Claim7 := { stood := { row := showsRow, standIns := [], harness := (true, "f32dea3c8afc690dbf00401950df444a714ee745af3c04db5e173a5ea0241196"), looks := false }, kinds := [], alts := [], laidByText := true, laidKinds := [.data, .data, .data], laidTests := true, laidLooks := .later }
def ShowsCardSaid : Prop := Claim7.holds Tryz.pinned (.plain (OpenSpec.ofChange showsSpec)) showsCard

/-- THE TIED CARD OF 'redexlaw.Compiles'. -/
def compilesCard : Claim7 := { stood := { row := compilesRow, standIns := [], harness := (true, "f32dea3c8afc690dbf00401950df444a714ee745af3c04db5e173a5ea0241196"), looks := false }, kinds := [], alts := [], laidByText := true, laidKinds := [.data, .data, .data], laidTests := true, laidLooks := .later }
def CompilesCardSaid : Prop := Claim7.holds Tryz.pinned (.plain (OpenSpec.ofChange compilesSpec)) compilesCard

/-- THE TIED CARD OF 'redexlaw.Codes'. -/
def codesCard : Claim7 := { stood := { row := codesRow, standIns := [], harness := (true, "f32dea3c8afc690dbf00401950df444a714ee745af3c04db5e173a5ea0241196"), looks := false }, kinds := [], alts := [], laidByText := true, laidKinds := [.data, .data, .data], laidTests := true, laidLooks := .later }
def CodesCardSaid : Prop := Claim7.holds Tryz.pinned (.plain (OpenSpec.ofChange codesSpec)) codesCard

/-- THE TIED CARD OF 'redexlaw.Evals'. -/
def evalsCard : Claim7 := { stood := { row := evalsRow, standIns := [], harness := (true, "f32dea3c8afc690dbf00401950df444a714ee745af3c04db5e173a5ea0241196"), looks := false }, kinds := [], alts := [], laidByText := true, laidKinds := [.data, .data, .data], laidTests := true, laidLooks := .later }
def EvalsCardSaid : Prop := Claim7.holds Tryz.pinned (.plain (OpenSpec.ofChange evalsSpec)) evalsCard

/-- THE TIED CARD OF 'redexkeep.Counted'. -/
def countedCard : Claim7 := { stood := { row := countedRow, standIns := [], harness := (true, "f32dea3c8afc690dbf00401950df444a714ee745af3c04db5e173a5ea0241196"), looks := false }, kinds := [], alts := [], laidByText := true, laidKinds := [.data, .data, .data], laidTests := true, laidLooks := .later }
def CountedCardSaid : Prop := Claim7.holds Tryz.pinned (.plain (OpenSpec.ofChange countedSpec)) countedCard

/-- THE TIED CARD OF 'redexkeep.Unneeded'. -/
def unneededCard : Claim7 := { stood := { row := unneededRow, standIns := [], harness := (true, "f32dea3c8afc690dbf00401950df444a714ee745af3c04db5e173a5ea0241196"), looks := false }, kinds := [], alts := [], laidByText := true, laidKinds := [.data, .data, .data], laidTests := true, laidLooks := .later }
def UnneededCardSaid : Prop := Claim7.holds Tryz.pinned (.plain (OpenSpec.ofChange unneededSpec)) unneededCard

/-- THE TIED CARD OF 'redexkeep.Once'. -/
def onceCard : Claim7 := { stood := { row := onceRow, standIns := [], harness := (true, "f32dea3c8afc690dbf00401950df444a714ee745af3c04db5e173a5ea0241196"), looks := false }, kinds := [], alts := [], laidByText := true, laidKinds := [.data, .data, .data], laidTests := true, laidLooks := .later }
def OnceCardSaid : Prop := Claim7.holds Tryz.pinned (.plain (OpenSpec.ofChange onceSpec)) onceCard

/-- THE TIED CARD OF 'redexkeep.Budgets'. -/
def budgetsCard : Claim7 := { stood := { row := budgetsRow, standIns := [], harness := (true, "f32dea3c8afc690dbf00401950df444a714ee745af3c04db5e173a5ea0241196"), looks := false }, kinds := [], alts := [], laidByText := true, laidKinds := [.data, .data, .data], laidTests := true, laidLooks := .later }
def BudgetsCardSaid : Prop := Claim7.holds Tryz.pinned (.plain (OpenSpec.ofChange budgetsSpec)) budgetsCard

/-- THE SECOND FORM's CARD OF 'redexlaw.Checks'. -/
def checksUptoCard : Claim7 := { stood := { row := checksUptoRow, standIns := [], harness := (true, "f32dea3c8afc690dbf00401950df444a714ee745af3c04db5e173a5ea0241196"), looks := false }, kinds := [], alts := [], laidByText := true, laidKinds := [.data, .data, .data], laidTests := true, laidLooks := .later }
def ChecksUptoCardSaid : Prop := Claim7.holds Tryz.pinned (.plain (OpenSpec.upto checksSpec)) checksUptoCard

/-- THE SECOND FORM's CARD OF 'redexlaw.Shows'. -/
def showsUptoCard : Claim7 := { stood := { row := showsUptoRow, standIns := [], harness := (true, "f32dea3c8afc690dbf00401950df444a714ee745af3c04db5e173a5ea0241196"), looks := false }, kinds := [], alts := [], laidByText := true, laidKinds := [.data, .data, .data], laidTests := true, laidLooks := .later }
def ShowsUptoCardSaid : Prop := Claim7.holds Tryz.pinned (.plain (OpenSpec.upto showsSpec)) showsUptoCard

/-- THE SECOND FORM's CARD OF 'redexlaw.Compiles'. -/
def compilesUptoCard : Claim7 := { stood := { row := compilesUptoRow, standIns := [], harness := (true, "f32dea3c8afc690dbf00401950df444a714ee745af3c04db5e173a5ea0241196"), looks := false }, kinds := [], alts := [], laidByText := true, laidKinds := [.data, .data, .data], laidTests := true, laidLooks := .later }
def CompilesUptoCardSaid : Prop := Claim7.holds Tryz.pinned (.plain (OpenSpec.upto compilesSpec)) compilesUptoCard

/-- THE SECOND FORM's CARD OF 'redexlaw.Codes'. -/
def codesUptoCard : Claim7 := { stood := { row := codesUptoRow, standIns := [], harness := (true, "f32dea3c8afc690dbf00401950df444a714ee745af3c04db5e173a5ea0241196"), looks := false }, kinds := [], alts := [], laidByText := true, laidKinds := [.data, .data, .data], laidTests := true, laidLooks := .later }
def CodesUptoCardSaid : Prop := Claim7.holds Tryz.pinned (.plain (OpenSpec.upto codesSpec)) codesUptoCard

/-- THE SECOND FORM's CARD OF 'redexlaw.Evals'. -/
def evalsUptoCard : Claim7 := { stood := { row := evalsUptoRow, standIns := [], harness := (true, "f32dea3c8afc690dbf00401950df444a714ee745af3c04db5e173a5ea0241196"), looks := false }, kinds := [], alts := [], laidByText := true, laidKinds := [.data, .data, .data], laidTests := true, laidLooks := .later }
def EvalsUptoCardSaid : Prop := Claim7.holds Tryz.pinned (.plain (OpenSpec.upto evalsSpec)) evalsUptoCard

/-- THE SECOND FORM's CARD OF 'redexkeep.Counted'. -/
def countedUptoCard : Claim7 := { stood := { row := countedUptoRow, standIns := [], harness := (true, "f32dea3c8afc690dbf00401950df444a714ee745af3c04db5e173a5ea0241196"), looks := false }, kinds := [], alts := [], laidByText := true, laidKinds := [.data, .data, .data], laidTests := true, laidLooks := .later }
def CountedUptoCardSaid : Prop := Claim7.holds Tryz.pinned (.plain (OpenSpec.upto countedSpec)) countedUptoCard

/-- THE SECOND FORM's CARD OF 'redexkeep.Unneeded'. -/
def unneededUptoCard : Claim7 := { stood := { row := unneededUptoRow, standIns := [], harness := (true, "f32dea3c8afc690dbf00401950df444a714ee745af3c04db5e173a5ea0241196"), looks := false }, kinds := [], alts := [], laidByText := true, laidKinds := [.data, .data, .data], laidTests := true, laidLooks := .later }
def UnneededUptoCardSaid : Prop := Claim7.holds Tryz.pinned (.plain (OpenSpec.upto unneededSpec)) unneededUptoCard

/-- THE SECOND FORM's CARD OF 'redexkeep.Once'. -/
def onceUptoCard : Claim7 := { stood := { row := onceUptoRow, standIns := [], harness := (true, "f32dea3c8afc690dbf00401950df444a714ee745af3c04db5e173a5ea0241196"), looks := false }, kinds := [], alts := [], laidByText := true, laidKinds := [.data, .data, .data], laidTests := true, laidLooks := .later }
def OnceUptoCardSaid : Prop := Claim7.holds Tryz.pinned (.plain (OpenSpec.upto onceSpec)) onceUptoCard

/-- THE SECOND FORM's CARD OF 'redexkeep.Budgets'. -/
def budgetsUptoCard : Claim7 := { stood := { row := budgetsUptoRow, standIns := [], harness := (true, "f32dea3c8afc690dbf00401950df444a714ee745af3c04db5e173a5ea0241196"), looks := false }, kinds := [], alts := [], laidByText := true, laidKinds := [.data, .data, .data], laidTests := true, laidLooks := .later }
def BudgetsUptoCardSaid : Prop := Claim7.holds Tryz.pinned (.plain (OpenSpec.upto budgetsSpec)) budgetsUptoCard
end Rows
end Go.Proofs.YthjkajmkgiedkaaGreatDoor
