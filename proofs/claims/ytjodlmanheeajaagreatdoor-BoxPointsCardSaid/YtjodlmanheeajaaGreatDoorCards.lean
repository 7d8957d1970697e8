/-
  DERIVED. GIVEN WITH THE SEED: THE CARDS: each row of YtjodlmanheeajaaGreatDoorRows.lean that lists a variable, with what it lists TIED to the program's text (the seventh form; the later family's looks); each row that meets fmt, with fmt's text TOLD by the authors' own Lean function (tested against real Go, not proved from fmt's source: count such statements apart). THE CARD IS WHAT COUNTS. Prove the row's statement (the work); the ties are given (YtjodlmanheeajaaGreatDoorTie.lean); close each card by the builder's one call (the guide's Derived/Test/ToyasCard.lean, 'card_holds'). Laid BY PROGRAM, IN A SANDBOX (cutbox-door.mjs). By AI agents, Wed Nov 11 2026. No macro, syntax, notation, axiom, sorry.
-/
import Derived.Test.YtjodlmanheeajaaGreatDoorRows
import GoSem.ClaimSeven
namespace Go.Proofs.YtjodlmanheeajaaGreatDoor
namespace Rows

/-- THE TIED CARD OF 'waveportlaw02.BoxBelow'. -/
def boxBelowCard : Claim7 := { stood := { row := boxBelowRow, standIns := [], harness := (true, "f1fe94e63c1731b5a67747656d25966d6b27aecd7e466308877f1dbdb61604bf"), looks := false }, kinds := [], alts := [], laidByText := true, laidKinds := [.data, .data], laidTests := true, laidLooks := .later }
def BoxBelowCardSaid : Prop := Claim7.holds Tryz.pinned (.plain (OpenSpec.ofChange boxBelowSpec)) boxBelowCard

/-- THE TIED CARD OF 'waveportlaw02.BoxAround'. -/
def boxAroundCard : Claim7 := { stood := { row := boxAroundRow, standIns := [], harness := (true, "f1fe94e63c1731b5a67747656d25966d6b27aecd7e466308877f1dbdb61604bf"), looks := false }, kinds := [], alts := [], laidByText := true, laidKinds := [.data, .data], laidTests := true, laidLooks := .later }
def BoxAroundCardSaid : Prop := Claim7.holds Tryz.pinned (.plain (OpenSpec.ofChange boxAroundSpec)) boxAroundCard

/-- THE TIED CARD OF 'waveportlaw02.BoxSets'. -/
def boxSetsCard : Claim7 := { stood := { row := boxSetsRow, standIns := [], harness := (true, "f1fe94e63c1731b5a67747656d25966d6b27aecd7e466308877f1dbdb61604bf"), looks := false }, kinds := [], alts := [], laidByText := true, laidKinds := [.data, .data], laidTests := true, laidLooks := .later }
def BoxSetsCardSaid : Prop := Claim7.holds Tryz.pinned (.plain (OpenSpec.ofChange boxSetsSpec)) boxSetsCard

/-- THE TIED CARD OF 'waveportlaw02.BoxSums'. -/
def boxSumsCard : Claim7 := { stood := { row := boxSumsRow, standIns := [], harness := (true, "f1fe94e63c1731b5a67747656d25966d6b27aecd7e466308877f1dbdb61604bf"), looks := false }, kinds := [], alts := [], laidByText := true, laidKinds := [.data, .data], laidTests := true, laidLooks := .later }
def BoxSumsCardSaid : Prop := Claim7.holds Tryz.pinned (.plain (OpenSpec.ofChange boxSumsSpec)) boxSumsCard

/-- THE TIED CARD OF 'waveportlaw02.BoxProducts'. -/
def boxProductsCard : Claim7 := { stood := { row := boxProductsRow, standIns := [], harness := (true, "f1fe94e63c1731b5a67747656d25966d6b27aecd7e466308877f1dbdb61604bf"), looks := false }, kinds := [], alts := [], laidByText := true, laidKinds := [.data, .data], laidTests := true, laidLooks := .later }
def BoxProductsCardSaid : Prop := Claim7.holds Tryz.pinned (.plain (OpenSpec.ofChange boxProductsSpec)) boxProductsCard

/-- THE TIED CARD OF 'waveportlaw02.BoxPoints'. -/
def boxPointsCard : Claim7 := { stood := { row := boxPointsRow, standIns := [], harness := (true, "f1fe94e63c1731b5a67747656d25966d6b27aecd7e466308877f1dbdb61604bf"), looks := false }, kinds := [], alts := [], laidByText := true, laidKinds := [.data, .data], laidTests := true, laidLooks := .later }
def BoxPointsCardSaid : Prop := Claim7.holds Tryz.pinned (.plain (OpenSpec.ofChange boxPointsSpec)) boxPointsCard

/-- THE TIED CARD OF 'waveportlaw02.BoxLattice'. -/
def boxLatticeCard : Claim7 := { stood := { row := boxLatticeRow, standIns := [], harness := (true, "f1fe94e63c1731b5a67747656d25966d6b27aecd7e466308877f1dbdb61604bf"), looks := false }, kinds := [], alts := [], laidByText := true, laidKinds := [.data, .data], laidTests := true, laidLooks := .later }
def BoxLatticeCardSaid : Prop := Claim7.holds Tryz.pinned (.plain (OpenSpec.ofChange boxLatticeSpec)) boxLatticeCard

/-- THE SECOND FORM's CARD OF 'waveportlaw02.BoxBelow'. -/
def boxBelowUptoCard : Claim7 := { stood := { row := boxBelowUptoRow, standIns := [], harness := (true, "f1fe94e63c1731b5a67747656d25966d6b27aecd7e466308877f1dbdb61604bf"), looks := false }, kinds := [], alts := [], laidByText := true, laidKinds := [.data, .data], laidTests := true, laidLooks := .later }
def BoxBelowUptoCardSaid : Prop := Claim7.holds Tryz.pinned (.plain (OpenSpec.upto boxBelowSpec)) boxBelowUptoCard

/-- THE SECOND FORM's CARD OF 'waveportlaw02.BoxAround'. -/
def boxAroundUptoCard : Claim7 := { stood := { row := boxAroundUptoRow, standIns := [], harness := (true, "f1fe94e63c1731b5a67747656d25966d6b27aecd7e466308877f1dbdb61604bf"), looks := false }, kinds := [], alts := [], laidByText := true, laidKinds := [.data, .data], laidTests := true, laidLooks := .later }
def BoxAroundUptoCardSaid : Prop := Claim7.holds Tryz.pinned (.plain (OpenSpec.upto boxAroundSpec)) boxAroundUptoCard

/-- THE SECOND FORM's CARD OF 'waveportlaw02.BoxSets'. -/
def boxSetsUptoCard : Claim7 := { stood := { row := boxSetsUptoRow, standIns := [], harness := (true, "f1fe94e63c1731b5a67747656d25966d6b27aecd7e466308877f1dbdb61604bf"), looks := false }, kinds := [], alts := [], laidByText := true, laidKinds := [.data, .data], laidTests := true, laidLooks := .later }
def BoxSetsUptoCardSaid : Prop := Claim7.holds Tryz.pinned (.plain (OpenSpec.upto boxSetsSpec)) boxSetsUptoCard

/-- THE SECOND FORM's CARD OF 'waveportlaw02.BoxSums'. -/
def boxSumsUptoCard : Claim7 := { stood := { row := boxSumsUptoRow, standIns := [], harness := (true, "f1fe94e63c1731b5a67747656d25966d6b27aecd7e466308877f1dbdb61604bf"), looks := false }, kinds := [], alts := [], laidByText := true, laidKinds := [.data, .data], laidTests := true, laidLooks := .later }
def BoxSumsUptoCardSaid : Prop := Claim7.holds Tryz.pinned (.plain (OpenSpec.upto boxSumsSpec)) boxSumsUptoCard

/-- THE SECOND FORM's CARD OF 'waveportlaw02.BoxProducts'. -/
def boxProductsUptoCard : Claim7 := { stood := { row := boxProductsUptoRow, standIns := [], harness := (true, "f1fe94e63c1731b5a67747656d25966d6b27aecd7e466308877f1dbdb61604bf"), looks := false }, kinds := [], alts := [], laidByText := true, laidKinds := [.data, .data], laidTests := true, laidLooks := .later }
def BoxProductsUptoCardSaid : Prop := Claim7.holds Tryz.pinned (.plain (OpenSpec.upto boxProductsSpec)) boxProductsUptoCard

/-- THE SECOND FORM's CARD OF 'waveportlaw02.BoxPoints'. -/
def boxPointsUptoCard : Claim7 := { stood := { row := boxPointsUptoRow, standIns := [], harness := (true, "f1fe94e63c1731b5a67747656d25966d6b27aecd7e466308877f1dbdb61604bf"), looks := false }, kinds := [], alts := [], laidByText := true, laidKinds := [.data, .data], laidTests := true, laidLooks := .later }
def BoxPointsUptoCardSaid : Prop := Claim7.holds Tryz.pinned (.plain (OpenSpec.upto boxPointsSpec)) boxPointsUptoCard

/-- THE SECOND FORM's CARD OF 'waveportlaw02.BoxLattice'. -/
def boxLatticeUptoCard : Claim7 := { stood := { row := boxLatticeUptoRow, standIns := [], harness := (true, "f1fe94e63c1731b5a67747656d25966d6b27aecd7e466308877f1dbdb61604bf"), looks := false }, kinds := [], alts := [], laidByText := true, laidKinds := [.data, .data], laidTests := true, laidLooks := .later }
def BoxLatticeUptoCardSaid : Prop := Claim7.holds Tryz.pinned (.plain (OpenSpec.upto boxLatticeSpec)) boxLatticeUptoCard
end Rows
end Go.Proofs.YtjodlmanheeajaaGreatDoor
