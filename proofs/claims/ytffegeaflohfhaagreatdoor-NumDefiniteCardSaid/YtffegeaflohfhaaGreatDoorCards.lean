/-
  DERIVED. GIVEN WITH THE SEED: THE CARDS: each row of YtffegeaflohfhaaGreatDoorRows.lean that lists a variable, with what it lists TIED to the program's text (the seventh form; the later family's looks); each row that meets fmt, with fmt's text TOLD by the authors' own Lean function (tested against real Go, not proved from fmt's source: count such statements apart). THE CARD IS WHAT COUNTS. Prove the row's statement (the work); the ties are given (YtffegeaflohfhaaGreatDoorTie.lean); close each card by the builder's one call (the guide's Derived/Test/ToyasCard.lean, 'card_holds'). Laid BY PROGRAM, IN A SANDBOX (cutbox-door.mjs). By AI agents, Wed Nov 11 2026. No macro, syntax, notation, axiom, sorry.
-/
import Derived.Test.YtffegeaflohfhaaGreatDoorRows
import GoSem.ClaimSeven
namespace Go.Proofs.YtffegeaflohfhaaGreatDoor
namespace Rows

/-- THE TIED CARD OF 'waveportlaw01.NumSystems'. -/
def numSystemsCard : Claim7 := { stood := { row := numSystemsRow, standIns := [], harness := (true, "27da2ab37c1930c2486c782c9296f743c00b396bfbf827c69b851e98839b1142"), looks := false }, kinds := [], alts := [], laidByText := true, laidKinds := [.data], laidTests := true, laidLooks := .later }
def NumSystemsCardSaid : Prop := Claim7.holds Tryz.pinned (.plain (OpenSpec.ofChange numSystemsSpec)) numSystemsCard

/-- THE TIED CARD OF 'waveportlaw01.NumLeast'. -/
def numLeastCard : Claim7 := { stood := { row := numLeastRow, standIns := [], harness := (true, "27da2ab37c1930c2486c782c9296f743c00b396bfbf827c69b851e98839b1142"), looks := false }, kinds := [], alts := [], laidByText := true, laidKinds := [.data], laidTests := true, laidLooks := .later }
def NumLeastCardSaid : Prop := Claim7.holds Tryz.pinned (.plain (OpenSpec.ofChange numLeastSpec)) numLeastCard

/-- THE TIED CARD OF 'waveportlaw01.NumDefinite'. -/
def numDefiniteCard : Claim7 := { stood := { row := numDefiniteRow, standIns := [], harness := (true, "27da2ab37c1930c2486c782c9296f743c00b396bfbf827c69b851e98839b1142"), looks := false }, kinds := [], alts := [], laidByText := true, laidKinds := [.data], laidTests := true, laidLooks := .later }
def NumDefiniteCardSaid : Prop := Claim7.holds Tryz.pinned (.plain (OpenSpec.ofChange numDefiniteSpec)) numDefiniteCard

/-- THE SECOND FORM's CARD OF 'waveportlaw01.NumSystems'. -/
def numSystemsUptoCard : Claim7 := { stood := { row := numSystemsUptoRow, standIns := [], harness := (true, "27da2ab37c1930c2486c782c9296f743c00b396bfbf827c69b851e98839b1142"), looks := false }, kinds := [], alts := [], laidByText := true, laidKinds := [.data], laidTests := true, laidLooks := .later }
def NumSystemsUptoCardSaid : Prop := Claim7.holds Tryz.pinned (.plain (OpenSpec.upto numSystemsSpec)) numSystemsUptoCard

/-- THE SECOND FORM's CARD OF 'waveportlaw01.NumLeast'. -/
def numLeastUptoCard : Claim7 := { stood := { row := numLeastUptoRow, standIns := [], harness := (true, "27da2ab37c1930c2486c782c9296f743c00b396bfbf827c69b851e98839b1142"), looks := false }, kinds := [], alts := [], laidByText := true, laidKinds := [.data], laidTests := true, laidLooks := .later }
def NumLeastUptoCardSaid : Prop := Claim7.holds Tryz.pinned (.plain (OpenSpec.upto numLeastSpec)) numLeastUptoCard

/-- THE SECOND FORM's CARD OF 'waveportlaw01.NumDefinite'. -/
def numDefiniteUptoCard : Claim7 := { stood := { row := numDefiniteUptoRow, standIns := [], harness := (true, "27da2ab37c1930c2486c782c9296f743c00b396bfbf827c69b851e98839b1142"), looks := false }, kinds := [], alts := [], laidByText := true, laidKinds := [.data], laidTests := true, laidLooks := .later }
def NumDefiniteUptoCardSaid : Prop := Claim7.holds Tryz.pinned (.plain (OpenSpec.upto numDefiniteSpec)) numDefiniteUptoCard
end Rows
end Go.Proofs.YtffegeaflohfhaaGreatDoor
