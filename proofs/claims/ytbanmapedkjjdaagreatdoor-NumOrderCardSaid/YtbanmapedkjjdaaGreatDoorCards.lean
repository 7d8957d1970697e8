/-
  DERIVED. GIVEN WITH THE SEED: THE CARDS: each row of YtbanmapedkjjdaaGreatDoorRows.lean that lists a variable, with what it lists TIED to the program's text (the seventh form; the later family's looks); each row that meets fmt, with fmt's text TOLD by the authors' own Lean function (tested against real Go, not proved from fmt's source: count such statements apart). THE CARD IS WHAT COUNTS. Prove the row's statement (the work); the ties are given (YtbanmapedkjjdaaGreatDoorTie.lean); close each card by the builder's one call (the guide's Derived/Test/ToyasCard.lean, 'card_holds'). Laid BY PROGRAM, IN A SANDBOX (cutbox-door.mjs). By AI agents, Wed Nov 11 2026. No macro, syntax, notation, axiom, sorry.
-/
import Derived.Test.YtbanmapedkjjdaaGreatDoorRows
import GoSem.ClaimSeven
namespace Go.Proofs.YtbanmapedkjjdaaGreatDoor
namespace Rows

/-- THE TIED CARD OF 'waveportlaw01.NumNew'. -/
def numNewCard : Claim7 := { stood := { row := numNewRow, standIns := [], harness := (true, "25055db70c8dc634aed97d3304a28c957849a2c8b3c4b42e7d8a646b2c62f8e0"), looks := false }, kinds := [], alts := [], laidByText := true, laidKinds := [.data], laidTests := true, laidLooks := .later }
def NumNewCardSaid : Prop := Claim7.holds Tryz.pinned (.plain (OpenSpec.ofChange numNewSpec)) numNewCard

/-- THE TIED CARD OF 'waveportlaw01.NumTextBack'. -/
def numTextBackCard : Claim7 := { stood := { row := numTextBackRow, standIns := [], harness := (true, "25055db70c8dc634aed97d3304a28c957849a2c8b3c4b42e7d8a646b2c62f8e0"), looks := false }, kinds := [], alts := [], laidByText := true, laidKinds := [.data], laidTests := true, laidLooks := .later }
def NumTextBackCardSaid : Prop := Claim7.holds Tryz.pinned (.plain (OpenSpec.ofChange numTextBackSpec)) numTextBackCard

/-- THE TIED CARD OF 'waveportlaw01.NumOrder'. -/
def numOrderCard : Claim7 := { stood := { row := numOrderRow, standIns := [], harness := (true, "25055db70c8dc634aed97d3304a28c957849a2c8b3c4b42e7d8a646b2c62f8e0"), looks := false }, kinds := [], alts := [], laidByText := true, laidKinds := [.data], laidTests := true, laidLooks := .later }
def NumOrderCardSaid : Prop := Claim7.holds Tryz.pinned (.plain (OpenSpec.ofChange numOrderSpec)) numOrderCard

/-- THE SECOND FORM's CARD OF 'waveportlaw01.NumNew'. -/
def numNewUptoCard : Claim7 := { stood := { row := numNewUptoRow, standIns := [], harness := (true, "25055db70c8dc634aed97d3304a28c957849a2c8b3c4b42e7d8a646b2c62f8e0"), looks := false }, kinds := [], alts := [], laidByText := true, laidKinds := [.data], laidTests := true, laidLooks := .later }
def NumNewUptoCardSaid : Prop := Claim7.holds Tryz.pinned (.plain (OpenSpec.upto numNewSpec)) numNewUptoCard

/-- THE SECOND FORM's CARD OF 'waveportlaw01.NumTextBack'. -/
def numTextBackUptoCard : Claim7 := { stood := { row := numTextBackUptoRow, standIns := [], harness := (true, "25055db70c8dc634aed97d3304a28c957849a2c8b3c4b42e7d8a646b2c62f8e0"), looks := false }, kinds := [], alts := [], laidByText := true, laidKinds := [.data], laidTests := true, laidLooks := .later }
def NumTextBackUptoCardSaid : Prop := Claim7.holds Tryz.pinned (.plain (OpenSpec.upto numTextBackSpec)) numTextBackUptoCard

/-- THE SECOND FORM's CARD OF 'waveportlaw01.NumOrder'. -/
def numOrderUptoCard : Claim7 := { stood := { row := numOrderUptoRow, standIns := [], harness := (true, "25055db70c8dc634aed97d3304a28c957849a2c8b3c4b42e7d8a646b2c62f8e0"), looks := false }, kinds := [], alts := [], laidByText := true, laidKinds := [.data], laidTests := true, laidLooks := .later }
def NumOrderUptoCardSaid : Prop := Claim7.holds Tryz.pinned (.plain (OpenSpec.upto numOrderSpec)) numOrderUptoCard
end Rows
end Go.Proofs.YtbanmapedkjjdaaGreatDoor
