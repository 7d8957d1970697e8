/-
  DERIVED. GIVEN WITH THE SEED: THE CARDS: each row of YtphlmmjlpbledaaGreatDoorRows.lean that lists a variable, with what it lists TIED to the program's text (the seventh form; the later family's looks); each row that meets fmt, with fmt's text TOLD by the authors' own Lean function (tested against real Go, not proved from fmt's source: count such statements apart). THE CARD IS WHAT COUNTS. Prove the row's statement (the work); the ties are given (YtphlmmjlpbledaaGreatDoorTie.lean); close each card by the builder's one call (the guide's Derived/Test/ToyasCard.lean, 'card_holds'). Laid BY PROGRAM, IN A SANDBOX (cutbox-door.mjs). By AI agents, Wed Nov 11 2026. No macro, syntax, notation, axiom, sorry.
-/
import Derived.Test.YtphlmmjlpbledaaGreatDoorRows
import GoSem.ClaimSeven
namespace Go.Proofs.YtphlmmjlpbledaaGreatDoor
namespace Rows

/-- THE TIED CARD OF 'waveportlaw01.NumParse'. -/
def numParseCard : Claim7 := { stood := { row := numParseRow, standIns := [], harness := (true, "5f42f40a1a6c80d405f764abd6f8a850c6d9931a74bbc6580b448569841a3196"), looks := false }, kinds := [], alts := [], laidByText := true, laidKinds := [.data], laidTests := true, laidLooks := .later }
def NumParseCardSaid : Prop := Claim7.holds Tryz.pinned (.plain (OpenSpec.ofChange numParseSpec)) numParseCard

/-- THE TIED CARD OF 'waveportlaw01.NumTextBack'. -/
def numTextBackCard : Claim7 := { stood := { row := numTextBackRow, standIns := [], harness := (true, "5f42f40a1a6c80d405f764abd6f8a850c6d9931a74bbc6580b448569841a3196"), looks := false }, kinds := [], alts := [], laidByText := true, laidKinds := [.data], laidTests := true, laidLooks := .later }
def NumTextBackCardSaid : Prop := Claim7.holds Tryz.pinned (.plain (OpenSpec.ofChange numTextBackSpec)) numTextBackCard

/-- THE TIED CARD OF 'waveportlaw01.NumFloats'. -/
def numFloatsCard : Claim7 := { stood := { row := numFloatsRow, standIns := [], harness := (true, "5f42f40a1a6c80d405f764abd6f8a850c6d9931a74bbc6580b448569841a3196"), looks := false }, kinds := [], alts := [], laidByText := true, laidKinds := [.data, .data], laidTests := true, laidLooks := .later }
def NumFloatsCardSaid : Prop := Claim7.holds Tryz.pinned (.plain (OpenSpec.ofChange numFloatsSpec)) numFloatsCard

/-- THE TIED CARD OF 'waveportlaw01.NumFloats32'. -/
def numFloats32Card : Claim7 := { stood := { row := numFloats32Row, standIns := [], harness := (true, "5f42f40a1a6c80d405f764abd6f8a850c6d9931a74bbc6580b448569841a3196"), looks := false }, kinds := [], alts := [], laidByText := true, laidKinds := [.data, .data], laidTests := true, laidLooks := .later }
def NumFloats32CardSaid : Prop := Claim7.holds Tryz.pinned (.plain (OpenSpec.ofChange numFloats32Spec)) numFloats32Card

/-- THE TIED CARD OF 'waveportlaw02.BoxSpans'. -/
def boxSpansCard : Claim7 := { stood := { row := boxSpansRow, standIns := [], harness := (true, "5f42f40a1a6c80d405f764abd6f8a850c6d9931a74bbc6580b448569841a3196"), looks := false }, kinds := [], alts := [], laidByText := true, laidKinds := [.data, .data], laidTests := true, laidLooks := .later }
def BoxSpansCardSaid : Prop := Claim7.holds Tryz.pinned (.plain (OpenSpec.ofChange boxSpansSpec)) boxSpansCard

/-- THE TIED CARD OF 'waveportlaw02.BoxBelow'. -/
def boxBelowCard : Claim7 := { stood := { row := boxBelowRow, standIns := [], harness := (true, "5f42f40a1a6c80d405f764abd6f8a850c6d9931a74bbc6580b448569841a3196"), looks := false }, kinds := [], alts := [], laidByText := true, laidKinds := [.data, .data], laidTests := true, laidLooks := .later }
def BoxBelowCardSaid : Prop := Claim7.holds Tryz.pinned (.plain (OpenSpec.ofChange boxBelowSpec)) boxBelowCard

/-- THE TIED CARD OF 'waveportlaw02.BoxMakes'. -/
def boxMakesCard : Claim7 := { stood := { row := boxMakesRow, standIns := [], harness := (true, "5f42f40a1a6c80d405f764abd6f8a850c6d9931a74bbc6580b448569841a3196"), looks := false }, kinds := [], alts := [], laidByText := true, laidKinds := [.data, .data], laidTests := true, laidLooks := .later }
def BoxMakesCardSaid : Prop := Claim7.holds Tryz.pinned (.plain (OpenSpec.ofChange boxMakesSpec)) boxMakesCard

/-- THE TIED CARD OF 'waveportlaw02.BoxLattice'. -/
def boxLatticeCard : Claim7 := { stood := { row := boxLatticeRow, standIns := [], harness := (true, "5f42f40a1a6c80d405f764abd6f8a850c6d9931a74bbc6580b448569841a3196"), looks := false }, kinds := [], alts := [], laidByText := true, laidKinds := [.data, .data], laidTests := true, laidLooks := .later }
def BoxLatticeCardSaid : Prop := Claim7.holds Tryz.pinned (.plain (OpenSpec.ofChange boxLatticeSpec)) boxLatticeCard

/-- THE SECOND FORM's CARD OF 'waveportlaw01.NumParse'. -/
def numParseUptoCard : Claim7 := { stood := { row := numParseUptoRow, standIns := [], harness := (true, "5f42f40a1a6c80d405f764abd6f8a850c6d9931a74bbc6580b448569841a3196"), looks := false }, kinds := [], alts := [], laidByText := true, laidKinds := [.data], laidTests := true, laidLooks := .later }
def NumParseUptoCardSaid : Prop := Claim7.holds Tryz.pinned (.plain (OpenSpec.upto numParseSpec)) numParseUptoCard

/-- THE SECOND FORM's CARD OF 'waveportlaw01.NumTextBack'. -/
def numTextBackUptoCard : Claim7 := { stood := { row := numTextBackUptoRow, standIns := [], harness := (true, "5f42f40a1a6c80d405f764abd6f8a850c6d9931a74bbc6580b448569841a3196"), looks := false }, kinds := [], alts := [], laidByText := true, laidKinds := [.data], laidTests := true, laidLooks := .later }
def NumTextBackUptoCardSaid : Prop := Claim7.holds Tryz.pinned (.plain (OpenSpec.upto numTextBackSpec)) numTextBackUptoCard

/-- THE SECOND FORM's CARD OF 'waveportlaw01.NumFloats'. -/
def numFloatsUptoCard : Claim7 := { stood := { row := numFloatsUptoRow, standIns := [], harness := (true, "5f42f40a1a6c80d405f764abd6f8a850c6d9931a74bbc6580b448569841a3196"), looks := false }, kinds := [], alts := [], laidByText := true, laidKinds := [.data, .data], laidTests := true, laidLooks := .later }
def NumFloatsUptoCardSaid : Prop := Claim7.holds Tryz.pinned (.plain (OpenSpec.upto numFloatsSpec)) numFloatsUptoCard

/-- THE SECOND FORM's CARD OF 'waveportlaw01.NumFloats32'. -/
def numFloats32UptoCard : Claim7 := { stood := { row := numFloats32UptoRow, standIns := [], harness := (true, "5f42f40a1a6c80d405f764abd6f8a850c6d9931a74bbc6580b448569841a3196"), looks := false }, kinds := [], alts := [], laidByText := true, laidKinds := [.data, .data], laidTests := true, laidLooks := .later }
def NumFloats32UptoCardSaid : Prop := Claim7.holds Tryz.pinned (.plain (OpenSpec.upto numFloats32Spec)) numFloats32UptoCard

/-- THE SECOND FORM's CARD OF 'waveportlaw02.BoxSpans'. -/
def boxSpansUptoCard : Claim7 := { stood := { row := boxSpansUptoRow, standIns := [], harness := (true, "5f42f40a1a6c80d405f764abd6f8a850c6d9931a74bbc6580b448569841a3196"), looks := false }, kinds := [], alts := [], laidByText := true, laidKinds := [.data, .data], laidTests := true, laidLooks := .later }
def BoxSpansUptoCardSaid : Prop := Claim7.holds Tryz.pinned (.plain (OpenSpec.upto boxSpansSpec)) boxSpansUptoCard

/-- THE SECOND FORM's CARD OF 'waveportlaw02.BoxBelow'. -/
def boxBelowUptoCard : Claim7 := { stood := { row := boxBelowUptoRow, standIns := [], harness := (true, "5f42f40a1a6c80d405f764abd6f8a850c6d9931a74bbc6580b448569841a3196"), looks := false }, kinds := [], alts := [], laidByText := true, laidKinds := [.data, .data], laidTests := true, laidLooks := .later }
def BoxBelowUptoCardSaid : Prop := Claim7.holds Tryz.pinned (.plain (OpenSpec.upto boxBelowSpec)) boxBelowUptoCard

/-- THE SECOND FORM's CARD OF 'waveportlaw02.BoxMakes'. -/
def boxMakesUptoCard : Claim7 := { stood := { row := boxMakesUptoRow, standIns := [], harness := (true, "5f42f40a1a6c80d405f764abd6f8a850c6d9931a74bbc6580b448569841a3196"), looks := false }, kinds := [], alts := [], laidByText := true, laidKinds := [.data, .data], laidTests := true, laidLooks := .later }
def BoxMakesUptoCardSaid : Prop := Claim7.holds Tryz.pinned (.plain (OpenSpec.upto boxMakesSpec)) boxMakesUptoCard

/-- THE SECOND FORM's CARD OF 'waveportlaw02.BoxLattice'. -/
def boxLatticeUptoCard : Claim7 := { stood := { row := boxLatticeUptoRow, standIns := [], harness := (true, "5f42f40a1a6c80d405f764abd6f8a850c6d9931a74bbc6580b448569841a3196"), looks := false }, kinds := [], alts := [], laidByText := true, laidKinds := [.data, .data], laidTests := true, laidLooks := .later }
def BoxLatticeUptoCardSaid : Prop := Claim7.holds Tryz.pinned (.plain (OpenSpec.upto boxLatticeSpec)) boxLatticeUptoCard
end Rows
end Go.Proofs.YtphlmmjlpbledaaGreatDoor
