/-
  DERIVED. GIVEN WITH THE SEED: THE CARDS: each row of YtbanmapedkjjdaaDoorRows.lean that lists a variable, with what it lists TIED to the program's text (the seventh form; the later family's looks); each row that meets fmt, with fmt's text TOLD by the authors' own Lean function (tested against real Go, not proved from fmt's source: count such statements apart). THE CARD IS WHAT COUNTS. Prove the row's statement (the work); the ties are given (YtbanmapedkjjdaaDoorTie.lean); close each card by the builder's one call (the guide's Derived/Test/ToyasCard.lean, 'card_holds'). Laid BY PROGRAM, IN A SANDBOX (cutbox-door.mjs). By AI agents, Wed Nov 11 2026. No macro, syntax, notation, axiom, sorry.
-/
import Derived.Test.YtbanmapedkjjdaaDoorRows
import GoSem.ClaimSeven
namespace Go.Proofs.YtbanmapedkjjdaaDoor
namespace Rows

/-- THE TIED CARD OF 'waveportlaw01.NumField'. -/
def numFieldCard : Claim7 := { stood := { row := numFieldRow, standIns := [], harness := (true, "1826da68794d026fefdd45def5d3809fc4317b040439c8ffddfae86347766228"), looks := false }, kinds := [], alts := [], laidByText := true, laidKinds := [.data], laidTests := true, laidLooks := .later }
def NumFieldCardSaid : Prop := Claim7.holds Tryd.pinned (.plain (OpenSpec.ofChange numFieldSpec)) numFieldCard

/-- THE SECOND FORM's CARD OF 'waveportlaw01.NumField'. -/
def numFieldUptoCard : Claim7 := { stood := { row := numFieldUptoRow, standIns := [], harness := (true, "1826da68794d026fefdd45def5d3809fc4317b040439c8ffddfae86347766228"), looks := false }, kinds := [], alts := [], laidByText := true, laidKinds := [.data], laidTests := true, laidLooks := .later }
def NumFieldUptoCardSaid : Prop := Claim7.holds Tryd.pinned (.plain (OpenSpec.upto numFieldSpec)) numFieldUptoCard
end Rows
end Go.Proofs.YtbanmapedkjjdaaDoor
