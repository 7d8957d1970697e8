/-
  DERIVED. GIVEN WITH THE SEED: THE CARDS: each row of YtlljeccfhmojnaaGreatDoorRows.lean that lists a variable, with what it lists TIED to the program's text (the seventh form; the later family's looks); each row that meets fmt, with fmt's text TOLD by the authors' own Lean function (tested against real Go, not proved from fmt's source: count such statements apart). THE CARD IS WHAT COUNTS. Prove the row's statement (the work); the ties are given (YtlljeccfhmojnaaGreatDoorTie.lean); close each card by the builder's one call (the guide's Derived/Test/ToyasCard.lean, 'card_holds'). Laid BY PROGRAM, IN A SANDBOX (cutbox-door.mjs). By AI agents, Wed Nov 11 2026. No macro, syntax, notation, axiom, sorry.
-/
import Derived.Test.YtlljeccfhmojnaaGreatDoorRows
import GoSem.ClaimSeven
namespace Go.Proofs.YtlljeccfhmojnaaGreatDoor
namespace Rows

/-- THE TIED CARD OF 'waveportlaw01.NumNew'. -/
def numNewCard : Claim7 := { stood := { row := numNewRow, standIns := [], harness := (true, "aa5209bcbc195e4695e7b237f414f6267b3bbb2b56c84d1eada703fc611af47b"), looks := false }, kinds := [], alts := [], laidByText := true, laidKinds := [.data], laidTests := true, laidLooks := .later }
def NumNewCardSaid : Prop := Claim7.holds Tryz.pinned (.plain (OpenSpec.ofChange numNewSpec)) numNewCard

/-- THE TIED CARD OF 'waveportlaw01.NumScript'. -/
def numScriptCard : Claim7 := { stood := { row := numScriptRow, standIns := [], harness := (true, "aa5209bcbc195e4695e7b237f414f6267b3bbb2b56c84d1eada703fc611af47b"), looks := false }, kinds := [], alts := [], laidByText := true, laidKinds := [.data], laidTests := true, laidLooks := .later }
def NumScriptCardSaid : Prop := Claim7.holds Tryz.pinned (.plain (OpenSpec.ofChange numScriptSpec)) numScriptCard

/-- THE TIED CARD OF 'waveportlaw01.NumProducts'. -/
def numProductsCard : Claim7 := { stood := { row := numProductsRow, standIns := [], harness := (true, "aa5209bcbc195e4695e7b237f414f6267b3bbb2b56c84d1eada703fc611af47b"), looks := false }, kinds := [], alts := [], laidByText := true, laidKinds := [.data], laidTests := true, laidLooks := .later }
def NumProductsCardSaid : Prop := Claim7.holds Tryz.pinned (.plain (OpenSpec.ofChange numProductsSpec)) numProductsCard

/-- THE TIED CARD OF 'waveportlaw01.NumSystems'. -/
def numSystemsCard : Claim7 := { stood := { row := numSystemsRow, standIns := [], harness := (true, "aa5209bcbc195e4695e7b237f414f6267b3bbb2b56c84d1eada703fc611af47b"), looks := false }, kinds := [], alts := [], laidByText := true, laidKinds := [.data], laidTests := true, laidLooks := .later }
def NumSystemsCardSaid : Prop := Claim7.holds Tryz.pinned (.plain (OpenSpec.ofChange numSystemsSpec)) numSystemsCard

/-- THE SECOND FORM's CARD OF 'waveportlaw01.NumNew'. -/
def numNewUptoCard : Claim7 := { stood := { row := numNewUptoRow, standIns := [], harness := (true, "aa5209bcbc195e4695e7b237f414f6267b3bbb2b56c84d1eada703fc611af47b"), looks := false }, kinds := [], alts := [], laidByText := true, laidKinds := [.data], laidTests := true, laidLooks := .later }
def NumNewUptoCardSaid : Prop := Claim7.holds Tryz.pinned (.plain (OpenSpec.upto numNewSpec)) numNewUptoCard

/-- THE SECOND FORM's CARD OF 'waveportlaw01.NumScript'. -/
def numScriptUptoCard : Claim7 := { stood := { row := numScriptUptoRow, standIns := [], harness := (true, "aa5209bcbc195e4695e7b237f414f6267b3bbb2b56c84d1eada703fc611af47b"), looks := false }, kinds := [], alts := [], laidByText := true, laidKinds := [.data], laidTests := true, laidLooks := .later }
def NumScriptUptoCardSaid : Prop := Claim7.holds Tryz.pinned (.plain (OpenSpec.upto numScriptSpec)) numScriptUptoCard

/-- THE SECOND FORM's CARD OF 'waveportlaw01.NumProducts'. -/
def numProductsUptoCard : Claim7 := { stood := { row := numProductsUptoRow, standIns := [], harness := (true, "aa5209bcbc195e4695e7b237f414f6267b3bbb2b56c84d1eada703fc611af47b"), looks := false }, kinds := [], alts := [], laidByText := true, laidKinds := [.data], laidTests := true, laidLooks := .later }
def NumProductsUptoCardSaid : Prop := Claim7.holds Tryz.pinned (.plain (OpenSpec.upto numProductsSpec)) numProductsUptoCard

/-- THE SECOND FORM's CARD OF 'waveportlaw01.NumSystems'. -/
def numSystemsUptoCard : Claim7 := { stood := { row := numSystemsUptoRow, standIns := [], harness := (true, "aa5209bcbc195e4695e7b237f414f6267b3bbb2b56c84d1eada703fc611af47b"), looks := false }, kinds := [], alts := [], laidByText := true, laidKinds := [.data], laidTests := true, laidLooks := .later }
def NumSystemsUptoCardSaid : Prop := Claim7.holds Tryz.pinned (.plain (OpenSpec.upto numSystemsSpec)) numSystemsUptoCard
end Rows
end Go.Proofs.YtlljeccfhmojnaaGreatDoor
