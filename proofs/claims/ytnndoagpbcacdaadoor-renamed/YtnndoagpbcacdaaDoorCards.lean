/-
  DERIVED. GIVEN WITH THE SEED: THE CARDS: each row of YtnndoagpbcacdaaDoorRows.lean that lists a variable, with what it lists TIED to the program's text (the seventh form; the later family's looks); each row that meets fmt, with fmt's text TOLD by the authors' own Lean function (tested against real Go, not proved from fmt's source: count such statements apart). THE CARD IS WHAT COUNTS. Prove the row's statement (the work); the ties are given (YtnndoagpbcacdaaDoorTie.lean); close each card by the builder's one call (the guide's Derived/Test/ToyasCard.lean, 'card_holds'). Laid BY PROGRAM, IN A SANDBOX (cutbox-door.mjs). By AI agents, Wed Nov 11 2026. No macro, syntax, notation, axiom, sorry.
-/
import Derived.Test.YtnndoagpbcacdaaDoorRows
import GoSem.ClaimSeven
namespace Go.Proofs.YtnndoagpbcacdaaDoor
namespace Rows

/-- THE TIED CARD OF 'redexkeep.Spaced'. -/
def spacedCard : Claim7 := { stood := { row := spacedRow, standIns := [], harness := (true, "f9170537b24c22c3ad1a9b7a5f2e70a6b032a49be0f78f55558c8037f6935836"), looks := false }, kinds := [], alts := [], laidByText := true, laidKinds := [.data, .data, .data], laidTests := true, laidLooks := .later }
def SpacedCardSaid : Prop := Claim7.holds Tryd.pinned (.plain (OpenSpec.ofChange spacedSpec)) spacedCard

/-- THE TIED CARD OF 'redexkeep.Renamed'. -/
def renamedCard : Claim7 := { stood := { row := renamedRow, standIns := [], harness := (true, "f9170537b24c22c3ad1a9b7a5f2e70a6b032a49be0f78f55558c8037f6935836"), looks := false }, kinds := [], alts := [], laidByText := true, laidKinds := [.data, .data, .data], laidTests := true, laidLooks := .later }
def RenamedCardSaid : Prop := Claim7.holds Tryd.pinned (.plain (OpenSpec.ofChange renamedSpec)) renamedCard

/-- THE TIED CARD OF 'redexkeep.Rewritten'. -/
def rewrittenCard : Claim7 := { stood := { row := rewrittenRow, standIns := [], harness := (true, "f9170537b24c22c3ad1a9b7a5f2e70a6b032a49be0f78f55558c8037f6935836"), looks := false }, kinds := [], alts := [], laidByText := true, laidKinds := [.data, .data, .data], laidTests := true, laidLooks := .later }
def RewrittenCardSaid : Prop := Claim7.holds Tryd.pinned (.plain (OpenSpec.ofChange rewrittenSpec)) rewrittenCard

/-- THE SECOND FORM's CARD OF 'redexkeep.Spaced'. -/
def spacedUptoCard : Claim7 := { stood := { row := spacedUptoRow, standIns := [], harness := (true, "f9170537b24c22c3ad1a9b7a5f2e70a6b032a49be0f78f55558c8037f6935836"), looks := false }, kinds := [], alts := [], laidByText := true, laidKinds := [.data, .data, .data], laidTests := true, laidLooks := .later }
def SpacedUptoCardSaid : Prop := Claim7.holds Tryd.pinned (.plain (OpenSpec.upto spacedSpec)) spacedUptoCard

/-- THE SECOND FORM's CARD OF 'redexkeep.Renamed'. -/
def renamedUptoCard : Claim7 := { stood := { row := renamedUptoRow, standIns := [], harness := (true, "f9170537b24c22c3ad1a9b7a5f2e70a6b032a49be0f78f55558c8037f6935836"), looks := false }, kinds := [], alts := [], laidByText := true, laidKinds := [.data, .data, .data], laidTests := true, laidLooks := .later }
def RenamedUptoCardSaid : Prop := Claim7.holds Tryd.pinned (.plain (OpenSpec.upto renamedSpec)) renamedUptoCard

/-- THE SECOND FORM's CARD OF 'redexkeep.Rewritten'. -/
def rewrittenUptoCard : Claim7 := { stood := { row := rewrittenUptoRow, standIns := [], harness := (true, "f9170537b24c22c3ad1a9b7a5f2e70a6b032a49be0f78f55558c8037f6935836"), looks := false }, kinds := [], alts := [], laidByText := true, laidKinds := [.data, .data, .data], laidTests := true, laidLooks := .later }
def RewrittenUptoCardSaid : Prop := Claim7.holds Tryd.pinned (.plain (OpenSpec.upto rewrittenSpec)) rewrittenUptoCard
end Rows
end Go.Proofs.YtnndoagpbcacdaaDoor
