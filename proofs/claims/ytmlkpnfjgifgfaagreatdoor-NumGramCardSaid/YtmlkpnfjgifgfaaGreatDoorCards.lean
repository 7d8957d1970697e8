/-
  DERIVED. GIVEN WITH THE SEED: THE CARDS: each row of YtmlkpnfjgifgfaaGreatDoorRows.lean that lists a variable, with what it lists TIED to the program's text (the seventh form; the later family's looks); each row that meets fmt, with fmt's text TOLD by the authors' own Lean function (tested against real Go, not proved from fmt's source: count such statements apart). THE CARD IS WHAT COUNTS. Prove the row's statement (the work); the ties are given (YtmlkpnfjgifgfaaGreatDoorTie.lean); close each card by the builder's one call (the guide's Derived/Test/ToyasCard.lean, 'card_holds'). Laid BY PROGRAM, IN A SANDBOX (cutbox-door.mjs). By AI agents, Wed Nov 11 2026. No macro, syntax, notation, axiom, sorry.
-/
import Derived.Test.YtmlkpnfjgifgfaaGreatDoorRows
import GoSem.ClaimSeven
namespace Go.Proofs.YtmlkpnfjgifgfaaGreatDoor
namespace Rows

/-- THE TIED CARD OF 'waveportlaw01.NumInverts'. -/
def numInvertsCard : Claim7 := { stood := { row := numInvertsRow, standIns := [], harness := (true, "a709b1469bd1d100b6b77fe505f8f18f406c5fba1f7714071f6cbdaddeda1dcb"), looks := false }, kinds := [], alts := [], laidByText := true, laidKinds := [.data], laidTests := true, laidLooks := .later }
def NumInvertsCardSaid : Prop := Claim7.holds Tryz.pinned (.plain (OpenSpec.ofChange numInvertsSpec)) numInvertsCard

/-- THE TIED CARD OF 'waveportlaw01.NumDeterminants'. -/
def numDeterminantsCard : Claim7 := { stood := { row := numDeterminantsRow, standIns := [], harness := (true, "a709b1469bd1d100b6b77fe505f8f18f406c5fba1f7714071f6cbdaddeda1dcb"), looks := false }, kinds := [], alts := [], laidByText := true, laidKinds := [.data], laidTests := true, laidLooks := .later }
def NumDeterminantsCardSaid : Prop := Claim7.holds Tryz.pinned (.plain (OpenSpec.ofChange numDeterminantsSpec)) numDeterminantsCard

/-- THE TIED CARD OF 'waveportlaw01.NumGram'. -/
def numGramCard : Claim7 := { stood := { row := numGramRow, standIns := [], harness := (true, "a709b1469bd1d100b6b77fe505f8f18f406c5fba1f7714071f6cbdaddeda1dcb"), looks := false }, kinds := [], alts := [], laidByText := true, laidKinds := [.data], laidTests := true, laidLooks := .later }
def NumGramCardSaid : Prop := Claim7.holds Tryz.pinned (.plain (OpenSpec.ofChange numGramSpec)) numGramCard

/-- THE SECOND FORM's CARD OF 'waveportlaw01.NumInverts'. -/
def numInvertsUptoCard : Claim7 := { stood := { row := numInvertsUptoRow, standIns := [], harness := (true, "a709b1469bd1d100b6b77fe505f8f18f406c5fba1f7714071f6cbdaddeda1dcb"), looks := false }, kinds := [], alts := [], laidByText := true, laidKinds := [.data], laidTests := true, laidLooks := .later }
def NumInvertsUptoCardSaid : Prop := Claim7.holds Tryz.pinned (.plain (OpenSpec.upto numInvertsSpec)) numInvertsUptoCard

/-- THE SECOND FORM's CARD OF 'waveportlaw01.NumDeterminants'. -/
def numDeterminantsUptoCard : Claim7 := { stood := { row := numDeterminantsUptoRow, standIns := [], harness := (true, "a709b1469bd1d100b6b77fe505f8f18f406c5fba1f7714071f6cbdaddeda1dcb"), looks := false }, kinds := [], alts := [], laidByText := true, laidKinds := [.data], laidTests := true, laidLooks := .later }
def NumDeterminantsUptoCardSaid : Prop := Claim7.holds Tryz.pinned (.plain (OpenSpec.upto numDeterminantsSpec)) numDeterminantsUptoCard

/-- THE SECOND FORM's CARD OF 'waveportlaw01.NumGram'. -/
def numGramUptoCard : Claim7 := { stood := { row := numGramUptoRow, standIns := [], harness := (true, "a709b1469bd1d100b6b77fe505f8f18f406c5fba1f7714071f6cbdaddeda1dcb"), looks := false }, kinds := [], alts := [], laidByText := true, laidKinds := [.data], laidTests := true, laidLooks := .later }
def NumGramUptoCardSaid : Prop := Claim7.holds Tryz.pinned (.plain (OpenSpec.upto numGramSpec)) numGramUptoCard
end Rows
end Go.Proofs.YtmlkpnfjgifgfaaGreatDoor
