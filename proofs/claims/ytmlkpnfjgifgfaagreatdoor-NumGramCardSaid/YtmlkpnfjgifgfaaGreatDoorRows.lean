/-
  NARROWER THAN 'FOR EVERY INPUT', by the rows' own cells (each row's printed sentence says how): NumInverts: laid · NumDeterminants: laid · NumGram: laid.
  DERIVED. THE GIVEN ROWS OF THIS SEAT. 3 by the template 'for every input the law returns true; each argument reads behind the call as it read before'; 0 by the template 'total and deterministic' (their statements: YtmlkpnfjgifgfaaGreatDoorTotals.lean).
  GIVEN WITH THE SEED: the statements are not yours to turn. If you find one false, say at which input.
  Laid BY PROGRAM, IN A SANDBOX (cutbox-rows.mjs): the forced cells as the released guide's own fill.sh prints them over the translation 2f8ab86d0f7c3608… (all of the seat's roots in one cut). By AI agents, Wed Nov 11 2026. No macro, syntax, notation, axiom, sorry.
-/
import Derived.Test.YtmlkpnfjgifgfaaGreatDoorChecked
import GoSem.Claim
import GoSem.ClaimJoined
import GoSem.ClaimMapViews
import Derived.JoinedTies
import Derived.KernelRfl
namespace Go.Proofs.YtmlkpnfjgifgfaaGreatDoor
/- THE CELL 'sum', in the pinned program and in every row, IS THE sha256 OF THE DUMP (.gsa) THAT YtmlkpnfjgifgfaaGreatDoorProg.lean LOADS. Nothing in Lean hashes anything: it is a label: what it is worth is what the hold of that sum in a sandbox is worth. -/
noncomputable def Tryz.pinned : Pinned := { name := "ytmlkpnfjgifgfaagreatdoor", sum := "2f8ab86d0f7c36085d4ae15d8309d02ac5b7a949b37e5475c809de3e14488628", checked := Tryz.checked }
namespace Rows
def none {H : Type} : Left H := { results := [], args := [] }

/- WHAT THE LISTED PACKAGE-LEVEL VARIABLES READ AS WHEN THE CALL BEGINS. Each datum BY PROGRAM (the guide's laid-datum.mjs) off the statement by which the dump's own 'gosem.cut.vars' lays the variable. In a bare row this is a premise. The card (YtmlkpnfjgifgfaaGreatDoorCards.lean) ties it to the program's text. -/
def laid_math_bits_deBruijn32tab {H : Type} : DataW H := .agg [.lit (.int .u8 0), .lit (.int .u8 1), .lit (.int .u8 28), .lit (.int .u8 2), .lit (.int .u8 29), .lit (.int .u8 14), .lit (.int .u8 24), .lit (.int .u8 3), .lit (.int .u8 30), .lit (.int .u8 22), .lit (.int .u8 20), .lit (.int .u8 15), .lit (.int .u8 25), .lit (.int .u8 17), .lit (.int .u8 4), .lit (.int .u8 8), .lit (.int .u8 31), .lit (.int .u8 27), .lit (.int .u8 13), .lit (.int .u8 23), .lit (.int .u8 21), .lit (.int .u8 19), .lit (.int .u8 16), .lit (.int .u8 7), .lit (.int .u8 26), .lit (.int .u8 12), .lit (.int .u8 18), .lit (.int .u8 6), .lit (.int .u8 11), .lit (.int .u8 5), .lit (.int .u8 10), .lit (.int .u8 9)]

/-- 'waveportlaw01.NumInverts': WHATEVER THE INPUT: true; the input reads as it did. -/
def numInvertsSpec : ChangeSpec := { name := "numInverts", fn := fun _ => fun
  | [d1, d2, d3] => { results := [.lit (.bool true)], args := [d1, d2, d3] }
  | _ => none }
def numInvertsRow : OpenClaim := { program := "ytmlkpnfjgifgfaagreatdoor", sum := "2f8ab86d0f7c36085d4ae15d8309d02ac5b7a949b37e5475c809de3e14488628", func := "waveport/waveportlaw01.NumInverts", spec := "numInverts", inPlace := ["math.Float64frombits", "math.Float64bits"], unfollowed := true, recurses := true, named := ["math/bits.deBruijn32tab", "math/bits.overflowError"], apart := false, laid := [("math/bits.deBruijn32tab", laid_math_bits_deBruijn32tab)] }
def NumInvertsSaid : Prop := numInvertsRow.holds Tryz.pinned (OpenSpec.ofChange numInvertsSpec)

/-- ITS FALSE NEIGHBOUR: 'it returns false'. Refute it at one input. -/
def numInvertsWrong : ChangeSpec := { name := "numInverts", fn := fun _ => fun
  | [d1, d2, d3] => { results := [.lit (.bool false)], args := [d1, d2, d3] }
  | _ => none }
def NumInvertsWrongFalsely : Prop := numInvertsRow.holds Tryz.pinned (OpenSpec.ofChange numInvertsWrong)

/-- 'waveportlaw01.NumDeterminants': WHATEVER THE INPUT: true; the input reads as it did. -/
def numDeterminantsSpec : ChangeSpec := { name := "numDeterminants", fn := fun _ => fun
  | [d1, d2, d3] => { results := [.lit (.bool true)], args := [d1, d2, d3] }
  | _ => none }
def numDeterminantsRow : OpenClaim := { program := "ytmlkpnfjgifgfaagreatdoor", sum := "2f8ab86d0f7c36085d4ae15d8309d02ac5b7a949b37e5475c809de3e14488628", func := "waveport/waveportlaw01.NumDeterminants", spec := "numDeterminants", inPlace := ["math.Float64frombits", "math.Float64bits"], unfollowed := true, recurses := true, named := ["math/bits.deBruijn32tab", "math/bits.overflowError"], apart := false, laid := [("math/bits.deBruijn32tab", laid_math_bits_deBruijn32tab)] }
def NumDeterminantsSaid : Prop := numDeterminantsRow.holds Tryz.pinned (OpenSpec.ofChange numDeterminantsSpec)

/-- ITS FALSE NEIGHBOUR: 'it returns false'. Refute it at one input. -/
def numDeterminantsWrong : ChangeSpec := { name := "numDeterminants", fn := fun _ => fun
  | [d1, d2, d3] => { results := [.lit (.bool false)], args := [d1, d2, d3] }
  | _ => none }
def NumDeterminantsWrongFalsely : Prop := numDeterminantsRow.holds Tryz.pinned (OpenSpec.ofChange numDeterminantsWrong)

/-- 'waveportlaw01.NumGram': WHATEVER THE INPUT: true; the input reads as it did. -/
def numGramSpec : ChangeSpec := { name := "numGram", fn := fun _ => fun
  | [d1, d2] => { results := [.lit (.bool true)], args := [d1, d2] }
  | _ => none }
def numGramRow : OpenClaim := { program := "ytmlkpnfjgifgfaagreatdoor", sum := "2f8ab86d0f7c36085d4ae15d8309d02ac5b7a949b37e5475c809de3e14488628", func := "waveport/waveportlaw01.NumGram", spec := "numGram", inPlace := ["math.Float64frombits", "math.Float64bits"], unfollowed := true, recurses := true, named := ["math/bits.deBruijn32tab", "math/bits.overflowError"], apart := false, laid := [("math/bits.deBruijn32tab", laid_math_bits_deBruijn32tab)] }
def NumGramSaid : Prop := numGramRow.holds Tryz.pinned (OpenSpec.ofChange numGramSpec)

/-- ITS FALSE NEIGHBOUR: 'it returns false'. Refute it at one input. -/
def numGramWrong : ChangeSpec := { name := "numGram", fn := fun _ => fun
  | [d1, d2] => { results := [.lit (.bool false)], args := [d1, d2] }
  | _ => none }
def NumGramWrongFalsely : Prop := numGramRow.holds Tryz.pinned (OpenSpec.ofChange numGramWrong)

/- THE SECOND FORM. 'bulk': how many values and letters a reading holds, each counted each time it is reached (what is shared counts as often as it is met; a slice's spare places count too). A statement '..UptoSaid' is the law's where the arguments, and the package variables that the reading takes, are together of bulk at most 1048576: NARROWER than '..Said'. Prove '..Said' where nothing that the law and all that it calls make is longer than what came in: it says more and counts as full. Else prove '..UptoSaid'. A law counts once. -/
mutual
def uptoBulk {H : Type} : DataW H → Nat
  | .lit (.string bytes) => bytes.length + 1
  | .lit _ => 1
  | .nil => 1
  | .ptr d => uptoBulk d + 1
  | .slice elems spare => uptoBulkAll elems + uptoBulkAll spare + 1
  | .agg parts => uptoBulkAll parts + 1
  | .iface _ d => uptoBulk d + 1
  | .map entries => uptoBulkEntries entries + 1
  | .held _ => 1
def uptoBulkAll {H : Type} : List (DataW H) → Nat
  | [] => 0
  | d :: r => uptoBulk d + uptoBulkAll r
def uptoBulkEntries {H : Type} : List (Lit × DataW H) → Nat
  | [] => 0
  | x :: r => uptoBulkEntry x + uptoBulkEntries r
def uptoBulkEntry {H : Type} : Lit × DataW H → Nat
  | (.string bytes, d) => bytes.length + uptoBulk d + 1
  | (_, d) => uptoBulk d + 1
 end
def uptoSmall : (H : Type) → List (DataW H) → Bool := fun _ ds => decide (uptoBulkAll ds ≤ 1048576)
def OpenSpec.upto (s : _root_.Go.ChangeSpec) : _root_.Go.OpenSpec := { _root_.Go.OpenSpec.ofChange s with cond := some uptoSmall }

/-- 'waveportlaw01.NumInverts', WHERE WHAT IT READS IS OF BULK AT MOST 1048576: true; the input reads as it did. -/
def numInvertsUptoRow : OpenClaim := { program := "ytmlkpnfjgifgfaagreatdoor", sum := "2f8ab86d0f7c36085d4ae15d8309d02ac5b7a949b37e5475c809de3e14488628", func := "waveport/waveportlaw01.NumInverts", spec := "numInverts", inPlace := ["math.Float64frombits", "math.Float64bits"], unfollowed := true, recurses := true, named := ["math/bits.deBruijn32tab", "math/bits.overflowError"], apart := false, laid := [("math/bits.deBruijn32tab", laid_math_bits_deBruijn32tab)], narrowed := true }
def NumInvertsUptoSaid : Prop := numInvertsUptoRow.holds Tryz.pinned (OpenSpec.upto numInvertsSpec)

/-- 'waveportlaw01.NumDeterminants', WHERE WHAT IT READS IS OF BULK AT MOST 1048576: true; the input reads as it did. -/
def numDeterminantsUptoRow : OpenClaim := { program := "ytmlkpnfjgifgfaagreatdoor", sum := "2f8ab86d0f7c36085d4ae15d8309d02ac5b7a949b37e5475c809de3e14488628", func := "waveport/waveportlaw01.NumDeterminants", spec := "numDeterminants", inPlace := ["math.Float64frombits", "math.Float64bits"], unfollowed := true, recurses := true, named := ["math/bits.deBruijn32tab", "math/bits.overflowError"], apart := false, laid := [("math/bits.deBruijn32tab", laid_math_bits_deBruijn32tab)], narrowed := true }
def NumDeterminantsUptoSaid : Prop := numDeterminantsUptoRow.holds Tryz.pinned (OpenSpec.upto numDeterminantsSpec)

/-- 'waveportlaw01.NumGram', WHERE WHAT IT READS IS OF BULK AT MOST 1048576: true; the input reads as it did. -/
def numGramUptoRow : OpenClaim := { program := "ytmlkpnfjgifgfaagreatdoor", sum := "2f8ab86d0f7c36085d4ae15d8309d02ac5b7a949b37e5475c809de3e14488628", func := "waveport/waveportlaw01.NumGram", spec := "numGram", inPlace := ["math.Float64frombits", "math.Float64bits"], unfollowed := true, recurses := true, named := ["math/bits.deBruijn32tab", "math/bits.overflowError"], apart := false, laid := [("math/bits.deBruijn32tab", laid_math_bits_deBruijn32tab)], narrowed := true }
def NumGramUptoSaid : Prop := numGramUptoRow.holds Tryz.pinned (OpenSpec.upto numGramSpec)

end Rows
end Go.Proofs.YtmlkpnfjgifgfaaGreatDoor
