/-
  DERIVED. GIVEN WITH THE SEED: THE CARDS: each row of YtccldiokpgjocaaGreatDoorRows.lean that lists a variable, with what it lists TIED to the program's text (the seventh form; the later family's looks); each row that meets fmt, with fmt's text TOLD by the authors' own Lean function (tested against real Go, not proved from fmt's source: count such statements apart). THE CARD IS WHAT COUNTS. Prove the row's statement (the work); the ties are given (YtccldiokpgjocaaGreatDoorTie.lean); close each card by the builder's one call (the guide's Derived/Test/ToyasCard.lean, 'card_holds'). Laid BY PROGRAM, IN A SANDBOX (cutbox-door.mjs). By AI agents, Wed Nov 11 2026. No macro, syntax, notation, axiom, sorry.
-/
import Derived.Test.YtccldiokpgjocaaGreatDoorRows
import GoSem.ClaimSeven
namespace Go.Proofs.YtccldiokpgjocaaGreatDoor
namespace Rows

/-- THE TIED CARD OF 'waveportlaw01.NumRounds'. -/
def numRoundsCard : Claim7 := { stood := { row := numRoundsRow, standIns := [], harness := (true, "6b639c59568f09012d0e14d5e845f2832438bf2370f17ba09d5d4040570be208"), looks := false }, kinds := [], alts := [], laidByText := true, laidKinds := [.data], laidTests := true, laidLooks := .later }
def NumRoundsCardSaid : Prop := Claim7.holds Tryz.pinned (.plain (OpenSpec.ofChange numRoundsSpec)) numRoundsCard

/-- THE TIED CARD OF 'waveportlaw01.NumDirected'. -/
def numDirectedCard : Claim7 := { stood := { row := numDirectedRow, standIns := [], harness := (true, "6b639c59568f09012d0e14d5e845f2832438bf2370f17ba09d5d4040570be208"), looks := false }, kinds := [], alts := [], laidByText := true, laidKinds := [.data, .data], laidTests := true, laidLooks := .later }
def NumDirectedCardSaid : Prop := Claim7.holds Tryz.pinned (.plain (OpenSpec.ofChange numDirectedSpec)) numDirectedCard

/-- THE TIED CARD OF 'waveportlaw01.NumFloor'. -/
def numFloorCard : Claim7 := { stood := { row := numFloorRow, standIns := [], harness := (true, "6b639c59568f09012d0e14d5e845f2832438bf2370f17ba09d5d4040570be208"), looks := false }, kinds := [], alts := [], laidByText := true, laidKinds := [.data], laidTests := true, laidLooks := .later }
def NumFloorCardSaid : Prop := Claim7.holds Tryz.pinned (.plain (OpenSpec.ofChange numFloorSpec)) numFloorCard

/-- THE TIED CARD OF 'waveportlaw01.NumRoots'. -/
def numRootsCard : Claim7 := { stood := { row := numRootsRow, standIns := [], harness := (true, "6b639c59568f09012d0e14d5e845f2832438bf2370f17ba09d5d4040570be208"), looks := false }, kinds := [], alts := [], laidByText := true, laidKinds := [.data], laidTests := true, laidLooks := .later }
def NumRootsCardSaid : Prop := Claim7.holds Tryz.pinned (.plain (OpenSpec.ofChange numRootsSpec)) numRootsCard

/-- THE SECOND FORM's CARD OF 'waveportlaw01.NumRounds'. -/
def numRoundsUptoCard : Claim7 := { stood := { row := numRoundsUptoRow, standIns := [], harness := (true, "6b639c59568f09012d0e14d5e845f2832438bf2370f17ba09d5d4040570be208"), looks := false }, kinds := [], alts := [], laidByText := true, laidKinds := [.data], laidTests := true, laidLooks := .later }
def NumRoundsUptoCardSaid : Prop := Claim7.holds Tryz.pinned (.plain (OpenSpec.upto numRoundsSpec)) numRoundsUptoCard

/-- THE SECOND FORM's CARD OF 'waveportlaw01.NumDirected'. -/
def numDirectedUptoCard : Claim7 := { stood := { row := numDirectedUptoRow, standIns := [], harness := (true, "6b639c59568f09012d0e14d5e845f2832438bf2370f17ba09d5d4040570be208"), looks := false }, kinds := [], alts := [], laidByText := true, laidKinds := [.data, .data], laidTests := true, laidLooks := .later }
def NumDirectedUptoCardSaid : Prop := Claim7.holds Tryz.pinned (.plain (OpenSpec.upto numDirectedSpec)) numDirectedUptoCard

/-- THE SECOND FORM's CARD OF 'waveportlaw01.NumFloor'. -/
def numFloorUptoCard : Claim7 := { stood := { row := numFloorUptoRow, standIns := [], harness := (true, "6b639c59568f09012d0e14d5e845f2832438bf2370f17ba09d5d4040570be208"), looks := false }, kinds := [], alts := [], laidByText := true, laidKinds := [.data], laidTests := true, laidLooks := .later }
def NumFloorUptoCardSaid : Prop := Claim7.holds Tryz.pinned (.plain (OpenSpec.upto numFloorSpec)) numFloorUptoCard

/-- THE SECOND FORM's CARD OF 'waveportlaw01.NumRoots'. -/
def numRootsUptoCard : Claim7 := { stood := { row := numRootsUptoRow, standIns := [], harness := (true, "6b639c59568f09012d0e14d5e845f2832438bf2370f17ba09d5d4040570be208"), looks := false }, kinds := [], alts := [], laidByText := true, laidKinds := [.data], laidTests := true, laidLooks := .later }
def NumRootsUptoCardSaid : Prop := Claim7.holds Tryz.pinned (.plain (OpenSpec.upto numRootsSpec)) numRootsUptoCard
end Rows
end Go.Proofs.YtccldiokpgjocaaGreatDoor
