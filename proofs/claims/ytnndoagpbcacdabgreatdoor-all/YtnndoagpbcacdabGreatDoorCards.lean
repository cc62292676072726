/-
  DERIVED. GIVEN WITH THE SEED: THE CARDS: each row of YtnndoagpbcacdabGreatDoorRows.lean that lists a variable, with what it lists TIED to the program's text (the seventh form; the later family's looks); each row that meets fmt, with fmt's text TOLD by the authors' own Lean function (tested against real Go, not proved from fmt's source: count such statements apart). THE CARD IS WHAT COUNTS. Prove the row's statement (the work); the ties are given (YtnndoagpbcacdabGreatDoorTie.lean); close each card by the builder's one call (the guide's Derived/Test/ToyasCard.lean, 'card_holds'). Laid BY PROGRAM, IN A SANDBOX (cutbox-door.mjs). By AI agents, Wed Nov 11 2026. No macro, syntax, notation, axiom, sorry.
-/
import Derived.Test.YtnndoagpbcacdabGreatDoorRows
import GoSem.ClaimSeven
namespace Go.Proofs.YtnndoagpbcacdabGreatDoor
namespace Rows

/-- THE TIED CARD OF 'redexkeep.Once'. -/
def onceCard : Claim7 := { stood := { row := onceRow, standIns := [], harness := (true, "7a13855411a084e9bd04d9d45e55944e412677ba4c3eb51aff6be65eb758898a"), looks := false }, kinds := [], alts := [], laidByText := true, laidKinds := [.data, .data, .data], laidTests := true, laidLooks := .later }
def OnceCardSaid : Prop := Claim7.holds Tryz.pinned (.plain (OpenSpec.ofChange onceSpec)) onceCard

/-- THE TIED CARD OF 'redexkeep.Budgets'. -/
def budgetsCard : Claim7 := { stood := { row := budgetsRow, standIns := [], harness := (true, "7a13855411a084e9bd04d9d45e55944e412677ba4c3eb51aff6be65eb758898a"), looks := false }, kinds := [], alts := [], laidByText := true, laidKinds := [.data, .data, .data], laidTests := true, laidLooks := .later }
def BudgetsCardSaid : Prop := Claim7.holds Tryz.pinned (.plain (OpenSpec.ofChange budgetsSpec)) budgetsCard

/-- THE TIED CARD OF 'redexkeep.Heaps'. -/
def heapsCard : Claim7 := { stood := { row := heapsRow, standIns := [], harness := (true, "7a13855411a084e9bd04d9d45e55944e412677ba4c3eb51aff6be65eb758898a"), looks := false }, kinds := [], alts := [], laidByText := true, laidKinds := [.data, .data, .data], laidTests := true, laidLooks := .later }
def HeapsCardSaid : Prop := Claim7.holds Tryz.pinned (.plain (OpenSpec.ofChange heapsSpec)) heapsCard

/-- THE TIED CARD OF 'redexlaw.All'. -/
def allCard : Claim7 := { stood := { row := allRow, standIns := [], harness := (true, "7a13855411a084e9bd04d9d45e55944e412677ba4c3eb51aff6be65eb758898a"), looks := false }, kinds := [], alts := [], laidByText := true, laidKinds := [.data, .data, .data], laidTests := true, laidLooks := .later }
def AllCardSaid : Prop := Claim7.holds Tryz.pinned (.plain (OpenSpec.ofChange allSpec)) allCard

/-- THE SECOND FORM's CARD OF 'redexkeep.Once'. -/
def onceUptoCard : Claim7 := { stood := { row := onceUptoRow, standIns := [], harness := (true, "7a13855411a084e9bd04d9d45e55944e412677ba4c3eb51aff6be65eb758898a"), looks := false }, kinds := [], alts := [], laidByText := true, laidKinds := [.data, .data, .data], laidTests := true, laidLooks := .later }
def OnceUptoCardSaid : Prop := Claim7.holds Tryz.pinned (.plain (OpenSpec.upto onceSpec)) onceUptoCard

/-- THE SECOND FORM's CARD OF 'redexkeep.Budgets'. -/
def budgetsUptoCard : Claim7 := { stood := { row := budgetsUptoRow, standIns := [], harness := (true, "7a13855411a084e9bd04d9d45e55944e412677ba4c3eb51aff6be65eb758898a"), looks := false }, kinds := [], alts := [], laidByText := true, laidKinds := [.data, .data, .data], laidTests := true, laidLooks := .later }
def BudgetsUptoCardSaid : Prop := Claim7.holds Tryz.pinned (.plain (OpenSpec.upto budgetsSpec)) budgetsUptoCard

/-- THE SECOND FORM's CARD OF 'redexkeep.Heaps'. -/
def heapsUptoCard : Claim7 := { stood := { row := heapsUptoRow, standIns := [], harness := (true, "7a13855411a084e9bd04d9d45e55944e412677ba4c3eb51aff6be65eb758898a"), looks := false }, kinds := [], alts := [], laidByText := true, laidKinds := [.data, .data, .data], laidTests := true, laidLooks := .later }
def HeapsUptoCardSaid : Prop := Claim7.holds Tryz.pinned (.plain (OpenSpec.upto heapsSpec)) heapsUptoCard

/-- THE SECOND FORM's CARD OF 'redexlaw.All'. -/
def allUptoCard : Claim7 := { stood := { row := allUptoRow, standIns := [], harness := (true, "7a13855411a084e9bd04d9d45e55944e412677ba4c3eb51aff6be65eb758898a"), looks := false }, kinds := [], alts := [], laidByText := true, laidKinds := [.data, .data, .data], laidTests := true, laidLooks := .later }
def AllUptoCardSaid : Prop := Claim7.holds Tryz.pinned (.plain (OpenSpec.upto allSpec)) allUptoCard
end Rows
end Go.Proofs.YtnndoagpbcacdabGreatDoor
