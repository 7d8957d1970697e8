/-
  NARROWER THAN 'FOR EVERY INPUT', by the rows' own cells (each row's printed sentence says how): NumParse: laid · NumTextBack: laid · NumFloats: laid · NumFloats32: laid · BoxSpans: laid · BoxBelow: laid · BoxMakes: laid · BoxLattice: laid.
  DERIVED. THE GIVEN ROWS OF THIS SEAT. 8 by the template 'for every input the law returns true; each argument reads behind the call as it read before'; 0 by the template 'total and deterministic' (their statements: YtphlmmjlpbledaaGreatDoorTotals.lean).
  GIVEN WITH THE SEED: the statements are not yours to turn. If you find one false, say at which input.
  Laid BY PROGRAM, IN A SANDBOX (cutbox-rows.mjs): the forced cells as the released guide's own fill.sh prints them over the translation 01712a2f113f4242… (all of the seat's roots in one cut). By AI agents, Wed Nov 11 2026. No macro, syntax, notation, axiom, sorry.
-/
import Derived.Test.YtphlmmjlpbledaaGreatDoorChecked
import GoSem.Claim
import GoSem.ClaimJoined
import GoSem.ClaimMapViews
import Derived.JoinedTies
import Derived.KernelRfl
namespace Go.Proofs.YtphlmmjlpbledaaGreatDoor
/- THE CELL 'sum', in the pinned program and in every row, IS THE sha256 OF THE DUMP (.gsa) THAT YtphlmmjlpbledaaGreatDoorProg.lean LOADS. Nothing in Lean hashes anything: it is a label: what it is worth is what the hold of that sum in a sandbox is worth. -/
noncomputable def Tryz.pinned : Pinned := { name := "ytphlmmjlpbledaagreatdoor", sum := "01712a2f113f424290d73f11891c7a734619642bf0cfc3cbc68e81181c8d2c64", checked := Tryz.checked }
namespace Rows
def none {H : Type} : Left H := { results := [], args := [] }

/- WHAT THE LISTED PACKAGE-LEVEL VARIABLES READ AS WHEN THE CALL BEGINS. Each datum BY PROGRAM (the guide's laid-datum.mjs) off the statement by which the dump's own 'gosem.cut.vars' lays the variable. In a bare row this is a premise. The card (YtphlmmjlpbledaaGreatDoorCards.lean) ties it to the program's text. -/
def laid_math_bits_deBruijn32tab {H : Type} : DataW H := .agg [.lit (.int .u8 0), .lit (.int .u8 1), .lit (.int .u8 28), .lit (.int .u8 2), .lit (.int .u8 29), .lit (.int .u8 14), .lit (.int .u8 24), .lit (.int .u8 3), .lit (.int .u8 30), .lit (.int .u8 22), .lit (.int .u8 20), .lit (.int .u8 15), .lit (.int .u8 25), .lit (.int .u8 17), .lit (.int .u8 4), .lit (.int .u8 8), .lit (.int .u8 31), .lit (.int .u8 27), .lit (.int .u8 13), .lit (.int .u8 23), .lit (.int .u8 21), .lit (.int .u8 19), .lit (.int .u8 16), .lit (.int .u8 7), .lit (.int .u8 26), .lit (.int .u8 12), .lit (.int .u8 18), .lit (.int .u8 6), .lit (.int .u8 11), .lit (.int .u8 5), .lit (.int .u8 10), .lit (.int .u8 9)]
def laid_math_bits_deBruijn64tab {H : Type} : DataW H := .agg [.lit (.int .u8 0), .lit (.int .u8 1), .lit (.int .u8 56), .lit (.int .u8 2), .lit (.int .u8 57), .lit (.int .u8 49), .lit (.int .u8 28), .lit (.int .u8 3), .lit (.int .u8 61), .lit (.int .u8 58), .lit (.int .u8 42), .lit (.int .u8 50), .lit (.int .u8 38), .lit (.int .u8 29), .lit (.int .u8 17), .lit (.int .u8 4), .lit (.int .u8 62), .lit (.int .u8 47), .lit (.int .u8 59), .lit (.int .u8 36), .lit (.int .u8 45), .lit (.int .u8 43), .lit (.int .u8 51), .lit (.int .u8 22), .lit (.int .u8 53), .lit (.int .u8 39), .lit (.int .u8 33), .lit (.int .u8 30), .lit (.int .u8 24), .lit (.int .u8 18), .lit (.int .u8 12), .lit (.int .u8 5), .lit (.int .u8 63), .lit (.int .u8 55), .lit (.int .u8 48), .lit (.int .u8 27), .lit (.int .u8 60), .lit (.int .u8 41), .lit (.int .u8 37), .lit (.int .u8 16), .lit (.int .u8 46), .lit (.int .u8 35), .lit (.int .u8 44), .lit (.int .u8 21), .lit (.int .u8 52), .lit (.int .u8 32), .lit (.int .u8 23), .lit (.int .u8 11), .lit (.int .u8 54), .lit (.int .u8 26), .lit (.int .u8 40), .lit (.int .u8 15), .lit (.int .u8 34), .lit (.int .u8 20), .lit (.int .u8 31), .lit (.int .u8 10), .lit (.int .u8 25), .lit (.int .u8 14), .lit (.int .u8 19), .lit (.int .u8 9), .lit (.int .u8 13), .lit (.int .u8 8), .lit (.int .u8 7), .lit (.int .u8 6)]

/-- 'waveportlaw01.NumParse': WHATEVER THE INPUT: true; the input reads as it did. -/
def numParseSpec : ChangeSpec := { name := "numParse", fn := fun _ => fun
  | [d] => { results := [.lit (.bool true)], args := [d] }
  | _ => none }
def numParseRow : OpenClaim := { program := "ytphlmmjlpbledaagreatdoor", sum := "01712a2f113f424290d73f11891c7a734619642bf0cfc3cbc68e81181c8d2c64", func := "waveport/waveportlaw01.NumParse", spec := "numParse", inPlace := ["math.Float64frombits", "math.Float64bits"], unfollowed := true, recurses := true, named := ["math/bits.deBruijn32tab", "math/bits.overflowError"], apart := false, laid := [("math/bits.deBruijn32tab", laid_math_bits_deBruijn32tab)] }
def NumParseSaid : Prop := numParseRow.holds Tryz.pinned (OpenSpec.ofChange numParseSpec)

/-- ITS FALSE NEIGHBOUR: 'it returns false'. Refute it at one input. -/
def numParseWrong : ChangeSpec := { name := "numParse", fn := fun _ => fun
  | [d] => { results := [.lit (.bool false)], args := [d] }
  | _ => none }
def NumParseWrongFalsely : Prop := numParseRow.holds Tryz.pinned (OpenSpec.ofChange numParseWrong)

/-- 'waveportlaw01.NumTextBack': WHATEVER THE INPUT: true; the input reads as it did. -/
def numTextBackSpec : ChangeSpec := { name := "numTextBack", fn := fun _ => fun
  | [d1, d2, d3] => { results := [.lit (.bool true)], args := [d1, d2, d3] }
  | _ => none }
def numTextBackRow : OpenClaim := { program := "ytphlmmjlpbledaagreatdoor", sum := "01712a2f113f424290d73f11891c7a734619642bf0cfc3cbc68e81181c8d2c64", func := "waveport/waveportlaw01.NumTextBack", spec := "numTextBack", inPlace := ["math.Float64frombits", "math.Float64bits"], unfollowed := true, recurses := true, named := ["math/bits.deBruijn32tab", "math/bits.overflowError"], apart := false, laid := [("math/bits.deBruijn32tab", laid_math_bits_deBruijn32tab)] }
def NumTextBackSaid : Prop := numTextBackRow.holds Tryz.pinned (OpenSpec.ofChange numTextBackSpec)

/-- ITS FALSE NEIGHBOUR: 'it returns false'. Refute it at one input. -/
def numTextBackWrong : ChangeSpec := { name := "numTextBack", fn := fun _ => fun
  | [d1, d2, d3] => { results := [.lit (.bool false)], args := [d1, d2, d3] }
  | _ => none }
def NumTextBackWrongFalsely : Prop := numTextBackRow.holds Tryz.pinned (OpenSpec.ofChange numTextBackWrong)

/-- 'waveportlaw01.NumFloats': WHATEVER THE INPUT: true; the input reads as it did. -/
def numFloatsSpec : ChangeSpec := { name := "numFloats", fn := fun _ => fun
  | [d1, d2] => { results := [.lit (.bool true)], args := [d1, d2] }
  | _ => none }
def numFloatsRow : OpenClaim := { program := "ytphlmmjlpbledaagreatdoor", sum := "01712a2f113f424290d73f11891c7a734619642bf0cfc3cbc68e81181c8d2c64", func := "waveport/waveportlaw01.NumFloats", spec := "numFloats", inPlace := ["math.Float64frombits", "math.Float64bits"], unfollowed := true, recurses := true, named := ["math/bits.deBruijn64tab", "math/bits.deBruijn32tab", "math/bits.overflowError"], apart := false, laid := [("math/bits.deBruijn32tab", laid_math_bits_deBruijn32tab), ("math/bits.deBruijn64tab", laid_math_bits_deBruijn64tab)] }
def NumFloatsSaid : Prop := numFloatsRow.holds Tryz.pinned (OpenSpec.ofChange numFloatsSpec)

/-- ITS FALSE NEIGHBOUR: 'it returns false'. Refute it at one input. -/
def numFloatsWrong : ChangeSpec := { name := "numFloats", fn := fun _ => fun
  | [d1, d2] => { results := [.lit (.bool false)], args := [d1, d2] }
  | _ => none }
def NumFloatsWrongFalsely : Prop := numFloatsRow.holds Tryz.pinned (OpenSpec.ofChange numFloatsWrong)

/-- 'waveportlaw01.NumFloats32': WHATEVER THE INPUT: true; the input reads as it did. -/
def numFloats32Spec : ChangeSpec := { name := "numFloats32", fn := fun _ => fun
  | [d1, d2] => { results := [.lit (.bool true)], args := [d1, d2] }
  | _ => none }
def numFloats32Row : OpenClaim := { program := "ytphlmmjlpbledaagreatdoor", sum := "01712a2f113f424290d73f11891c7a734619642bf0cfc3cbc68e81181c8d2c64", func := "waveport/waveportlaw01.NumFloats32", spec := "numFloats32", inPlace := ["math.Float32frombits", "math.Float64bits", "math.Float64frombits"], unfollowed := true, recurses := true, named := ["math/bits.deBruijn64tab", "math/bits.deBruijn32tab", "math/bits.overflowError"], apart := false, laid := [("math/bits.deBruijn32tab", laid_math_bits_deBruijn32tab), ("math/bits.deBruijn64tab", laid_math_bits_deBruijn64tab)] }
def NumFloats32Said : Prop := numFloats32Row.holds Tryz.pinned (OpenSpec.ofChange numFloats32Spec)

/-- ITS FALSE NEIGHBOUR: 'it returns false'. Refute it at one input. -/
def numFloats32Wrong : ChangeSpec := { name := "numFloats32", fn := fun _ => fun
  | [d1, d2] => { results := [.lit (.bool false)], args := [d1, d2] }
  | _ => none }
def NumFloats32WrongFalsely : Prop := numFloats32Row.holds Tryz.pinned (OpenSpec.ofChange numFloats32Wrong)

/-- 'waveportlaw02.BoxSpans': WHATEVER THE INPUT: true; the input reads as it did. -/
def boxSpansSpec : ChangeSpec := { name := "boxSpans", fn := fun _ => fun
  | [d1, d2] => { results := [.lit (.bool true)], args := [d1, d2] }
  | _ => none }
def boxSpansRow : OpenClaim := { program := "ytphlmmjlpbledaagreatdoor", sum := "01712a2f113f424290d73f11891c7a734619642bf0cfc3cbc68e81181c8d2c64", func := "waveport/waveportlaw02.BoxSpans", spec := "boxSpans", inPlace := ["math.Float64bits", "math.Float64frombits", "math/bits.Add64", "math/bits.Sub64"], unfollowed := true, recurses := true, named := ["math/bits.deBruijn64tab", "math/bits.deBruijn32tab", "math/bits.overflowError"], apart := false, laid := [("math/bits.deBruijn32tab", laid_math_bits_deBruijn32tab), ("math/bits.deBruijn64tab", laid_math_bits_deBruijn64tab)] }
def BoxSpansSaid : Prop := boxSpansRow.holds Tryz.pinned (OpenSpec.ofChange boxSpansSpec)

/-- ITS FALSE NEIGHBOUR: 'it returns false'. Refute it at one input. -/
def boxSpansWrong : ChangeSpec := { name := "boxSpans", fn := fun _ => fun
  | [d1, d2] => { results := [.lit (.bool false)], args := [d1, d2] }
  | _ => none }
def BoxSpansWrongFalsely : Prop := boxSpansRow.holds Tryz.pinned (OpenSpec.ofChange boxSpansWrong)

/-- 'waveportlaw02.BoxBelow': WHATEVER THE INPUT: true; the input reads as it did. -/
def boxBelowSpec : ChangeSpec := { name := "boxBelow", fn := fun _ => fun
  | [d1, d2] => { results := [.lit (.bool true)], args := [d1, d2] }
  | _ => none }
def boxBelowRow : OpenClaim := { program := "ytphlmmjlpbledaagreatdoor", sum := "01712a2f113f424290d73f11891c7a734619642bf0cfc3cbc68e81181c8d2c64", func := "waveport/waveportlaw02.BoxBelow", spec := "boxBelow", inPlace := ["math.Float64bits", "math.Float64frombits", "math/bits.Add64", "math/bits.Sub64"], unfollowed := true, recurses := true, named := ["math/bits.deBruijn64tab", "math/bits.deBruijn32tab", "math/bits.overflowError"], apart := false, laid := [("math/bits.deBruijn32tab", laid_math_bits_deBruijn32tab), ("math/bits.deBruijn64tab", laid_math_bits_deBruijn64tab)] }
def BoxBelowSaid : Prop := boxBelowRow.holds Tryz.pinned (OpenSpec.ofChange boxBelowSpec)

/-- ITS FALSE NEIGHBOUR: 'it returns false'. Refute it at one input. -/
def boxBelowWrong : ChangeSpec := { name := "boxBelow", fn := fun _ => fun
  | [d1, d2] => { results := [.lit (.bool false)], args := [d1, d2] }
  | _ => none }
def BoxBelowWrongFalsely : Prop := boxBelowRow.holds Tryz.pinned (OpenSpec.ofChange boxBelowWrong)

/-- 'waveportlaw02.BoxMakes': WHATEVER THE INPUT: true; the input reads as it did. -/
def boxMakesSpec : ChangeSpec := { name := "boxMakes", fn := fun _ => fun
  | [d] => { results := [.lit (.bool true)], args := [d] }
  | _ => none }
def boxMakesRow : OpenClaim := { program := "ytphlmmjlpbledaagreatdoor", sum := "01712a2f113f424290d73f11891c7a734619642bf0cfc3cbc68e81181c8d2c64", func := "waveport/waveportlaw02.BoxMakes", spec := "boxMakes", inPlace := ["math.Float64bits", "math.Float64frombits", "math/bits.Add64", "math/bits.Sub64"], unfollowed := true, recurses := true, named := ["math/bits.deBruijn64tab", "math/bits.deBruijn32tab", "math/bits.overflowError"], apart := false, laid := [("math/bits.deBruijn32tab", laid_math_bits_deBruijn32tab), ("math/bits.deBruijn64tab", laid_math_bits_deBruijn64tab)] }
def BoxMakesSaid : Prop := boxMakesRow.holds Tryz.pinned (OpenSpec.ofChange boxMakesSpec)

/-- ITS FALSE NEIGHBOUR: 'it returns false'. Refute it at one input. -/
def boxMakesWrong : ChangeSpec := { name := "boxMakes", fn := fun _ => fun
  | [d] => { results := [.lit (.bool false)], args := [d] }
  | _ => none }
def BoxMakesWrongFalsely : Prop := boxMakesRow.holds Tryz.pinned (OpenSpec.ofChange boxMakesWrong)

/-- 'waveportlaw02.BoxLattice': WHATEVER THE INPUT: true; the input reads as it did. -/
def boxLatticeSpec : ChangeSpec := { name := "boxLattice", fn := fun _ => fun
  | [d1, d2, d3] => { results := [.lit (.bool true)], args := [d1, d2, d3] }
  | _ => none }
def boxLatticeRow : OpenClaim := { program := "ytphlmmjlpbledaagreatdoor", sum := "01712a2f113f424290d73f11891c7a734619642bf0cfc3cbc68e81181c8d2c64", func := "waveport/waveportlaw02.BoxLattice", spec := "boxLattice", inPlace := ["math.Float64bits", "math.Float64frombits", "math/bits.Add64", "math/bits.Sub64"], unfollowed := true, recurses := true, named := ["math/bits.deBruijn64tab", "math/bits.deBruijn32tab", "math/bits.overflowError"], apart := false, laid := [("math/bits.deBruijn32tab", laid_math_bits_deBruijn32tab), ("math/bits.deBruijn64tab", laid_math_bits_deBruijn64tab)] }
def BoxLatticeSaid : Prop := boxLatticeRow.holds Tryz.pinned (OpenSpec.ofChange boxLatticeSpec)

/-- ITS FALSE NEIGHBOUR: 'it returns false'. Refute it at one input. -/
def boxLatticeWrong : ChangeSpec := { name := "boxLattice", fn := fun _ => fun
  | [d1, d2, d3] => { results := [.lit (.bool false)], args := [d1, d2, d3] }
  | _ => none }
def BoxLatticeWrongFalsely : Prop := boxLatticeRow.holds Tryz.pinned (OpenSpec.ofChange boxLatticeWrong)

/- THE SECOND FORM. 'bulk': how many values and letters a reading holds, each counted each time it is reached (what is shared counts as often as it is met; a slice's spare places count too). A statement '..UptoSaid' is the law's where the arguments, and the package variables that the reading takes, are together of bulk at most 1048576: NARROWER than '..Said'. Prove '..Said' where nothing that the law and all that it calls make is longer than what came in: it says more and counts as full. Else prove '..UptoSaid'. A law counts once. -/
mutual
def uptoBulk {H : Type} : DataW H → Nat
  | .lit (.string bytes) => bytes.length + 1
  | .lit _ => 1
  | .nil => 1
  | .ptr d => uptoBulk d + 1
  | .slice elems spare => uptoBulkAll elems + uptoBulkAll spare + 1
  | .agg parts => uptoBulkAll parts + 1
  | .iface _ d => uptoBulk d + 1
  | .map entries => uptoBulkEntries entries + 1
  | .held _ => 1
def uptoBulkAll {H : Type} : List (DataW H) → Nat
  | [] => 0
  | d :: r => uptoBulk d + uptoBulkAll r
def uptoBulkEntries {H : Type} : List (Lit × DataW H) → Nat
  | [] => 0
  | x :: r => uptoBulkEntry x + uptoBulkEntries r
def uptoBulkEntry {H : Type} : Lit × DataW H → Nat
  | (.string bytes, d) => bytes.length + uptoBulk d + 1
  | (_, d) => uptoBulk d + 1
 end
def uptoSmall : (H : Type) → List (DataW H) → Bool := fun _ ds => decide (uptoBulkAll ds ≤ 1048576)
def OpenSpec.upto (s : _root_.Go.ChangeSpec) : _root_.Go.OpenSpec := { _root_.Go.OpenSpec.ofChange s with cond := some uptoSmall }

/-- 'waveportlaw01.NumParse', WHERE WHAT IT READS IS OF BULK AT MOST 1048576: true; the input reads as it did. -/
def numParseUptoRow : OpenClaim := { program := "ytphlmmjlpbledaagreatdoor", sum := "01712a2f113f424290d73f11891c7a734619642bf0cfc3cbc68e81181c8d2c64", func := "waveport/waveportlaw01.NumParse", spec := "numParse", inPlace := ["math.Float64frombits", "math.Float64bits"], unfollowed := true, recurses := true, named := ["math/bits.deBruijn32tab", "math/bits.overflowError"], apart := false, laid := [("math/bits.deBruijn32tab", laid_math_bits_deBruijn32tab)], narrowed := true }
def NumParseUptoSaid : Prop := numParseUptoRow.holds Tryz.pinned (OpenSpec.upto numParseSpec)

/-- 'waveportlaw01.NumTextBack', WHERE WHAT IT READS IS OF BULK AT MOST 1048576: true; the input reads as it did. -/
def numTextBackUptoRow : OpenClaim := { program := "ytphlmmjlpbledaagreatdoor", sum := "01712a2f113f424290d73f11891c7a734619642bf0cfc3cbc68e81181c8d2c64", func := "waveport/waveportlaw01.NumTextBack", spec := "numTextBack", inPlace := ["math.Float64frombits", "math.Float64bits"], unfollowed := true, recurses := true, named := ["math/bits.deBruijn32tab", "math/bits.overflowError"], apart := false, laid := [("math/bits.deBruijn32tab", laid_math_bits_deBruijn32tab)], narrowed := true }
def NumTextBackUptoSaid : Prop := numTextBackUptoRow.holds Tryz.pinned (OpenSpec.upto numTextBackSpec)

/-- 'waveportlaw01.NumFloats', WHERE WHAT IT READS IS OF BULK AT MOST 1048576: true; the input reads as it did. -/
def numFloatsUptoRow : OpenClaim := { program := "ytphlmmjlpbledaagreatdoor", sum := "01712a2f113f424290d73f11891c7a734619642bf0cfc3cbc68e81181c8d2c64", func := "waveport/waveportlaw01.NumFloats", spec := "numFloats", inPlace := ["math.Float64frombits", "math.Float64bits"], unfollowed := true, recurses := true, named := ["math/bits.deBruijn64tab", "math/bits.deBruijn32tab", "math/bits.overflowError"], apart := false, laid := [("math/bits.deBruijn32tab", laid_math_bits_deBruijn32tab), ("math/bits.deBruijn64tab", laid_math_bits_deBruijn64tab)], narrowed := true }
def NumFloatsUptoSaid : Prop := numFloatsUptoRow.holds Tryz.pinned (OpenSpec.upto numFloatsSpec)

/-- 'waveportlaw01.NumFloats32', WHERE WHAT IT READS IS OF BULK AT MOST 1048576: true; the input reads as it did. -/
def numFloats32UptoRow : OpenClaim := { program := "ytphlmmjlpbledaagreatdoor", sum := "01712a2f113f424290d73f11891c7a734619642bf0cfc3cbc68e81181c8d2c64", func := "waveport/waveportlaw01.NumFloats32", spec := "numFloats32", inPlace := ["math.Float32frombits", "math.Float64bits", "math.Float64frombits"], unfollowed := true, recurses := true, named := ["math/bits.deBruijn64tab", "math/bits.deBruijn32tab", "math/bits.overflowError"], apart := false, laid := [("math/bits.deBruijn32tab", laid_math_bits_deBruijn32tab), ("math/bits.deBruijn64tab", laid_math_bits_deBruijn64tab)], narrowed := true }
def NumFloats32UptoSaid : Prop := numFloats32UptoRow.holds Tryz.pinned (OpenSpec.upto numFloats32Spec)

/-- 'waveportlaw02.BoxSpans', WHERE WHAT IT READS IS OF BULK AT MOST 1048576: true; the input reads as it did. -/
def boxSpansUptoRow : OpenClaim := { program := "ytphlmmjlpbledaagreatdoor", sum := "01712a2f113f424290d73f11891c7a734619642bf0cfc3cbc68e81181c8d2c64", func := "waveport/waveportlaw02.BoxSpans", spec := "boxSpans", inPlace := ["math.Float64bits", "math.Float64frombits", "math/bits.Add64", "math/bits.Sub64"], unfollowed := true, recurses := true, named := ["math/bits.deBruijn64tab", "math/bits.deBruijn32tab", "math/bits.overflowError"], apart := false, laid := [("math/bits.deBruijn32tab", laid_math_bits_deBruijn32tab), ("math/bits.deBruijn64tab", laid_math_bits_deBruijn64tab)], narrowed := true }
def BoxSpansUptoSaid : Prop := boxSpansUptoRow.holds Tryz.pinned (OpenSpec.upto boxSpansSpec)

/-- 'waveportlaw02.BoxBelow', WHERE WHAT IT READS IS OF BULK AT MOST 1048576: true; the input reads as it did. -/
def boxBelowUptoRow : OpenClaim := { program := "ytphlmmjlpbledaagreatdoor", sum := "01712a2f113f424290d73f11891c7a734619642bf0cfc3cbc68e81181c8d2c64", func := "waveport/waveportlaw02.BoxBelow", spec := "boxBelow", inPlace := ["math.Float64bits", "math.Float64frombits", "math/bits.Add64", "math/bits.Sub64"], unfollowed := true, recurses := true, named := ["math/bits.deBruijn64tab", "math/bits.deBruijn32tab", "math/bits.overflowError"], apart := false, laid := [("math/bits.deBruijn32tab", laid_math_bits_deBruijn32tab), ("math/bits.deBruijn64tab", laid_math_bits_deBruijn64tab)], narrowed := true }
def BoxBelowUptoSaid : Prop := boxBelowUptoRow.holds Tryz.pinned (OpenSpec.upto boxBelowSpec)

/-- 'waveportlaw02.BoxMakes', WHERE WHAT IT READS IS OF BULK AT MOST 1048576: true; the input reads as it did. -/
def boxMakesUptoRow : OpenClaim := { program := "ytphlmmjlpbledaagreatdoor", sum := "01712a2f113f424290d73f11891c7a734619642bf0cfc3cbc68e81181c8d2c64", func := "waveport/waveportlaw02.BoxMakes", spec := "boxMakes", inPlace := ["math.Float64bits", "math.Float64frombits", "math/bits.Add64", "math/bits.Sub64"], unfollowed := true, recurses := true, named := ["math/bits.deBruijn64tab", "math/bits.deBruijn32tab", "math/bits.overflowError"], apart := false, laid := [("math/bits.deBruijn32tab", laid_math_bits_deBruijn32tab), ("math/bits.deBruijn64tab", laid_math_bits_deBruijn64tab)], narrowed := true }
def BoxMakesUptoSaid : Prop := boxMakesUptoRow.holds Tryz.pinned (OpenSpec.upto boxMakesSpec)

/-- 'waveportlaw02.BoxLattice', WHERE WHAT IT READS IS OF BULK AT MOST 1048576: true; the input reads as it did. -/
def boxLatticeUptoRow : OpenClaim := { program := "ytphlmmjlpbledaagreatdoor", sum := "01712a2f113f424290d73f11891c7a734619642bf0cfc3cbc68e81181c8d2c64", func := "waveport/waveportlaw02.BoxLattice", spec := "boxLattice", inPlace := ["math.Float64bits", "math.Float64frombits", "math/bits.Add64", "math/bits.Sub64"], unfollowed := true, recurses := true, named := ["math/bits.deBruijn64tab", "math/bits.deBruijn32tab", "math/bits.overflowError"], apart := false, laid := [("math/bits.deBruijn32tab", laid_math_bits_deBruijn32tab), ("math/bits.deBruijn64tab", laid_math_bits_deBruijn64tab)], narrowed := true }
def BoxLatticeUptoSaid : Prop := boxLatticeUptoRow.holds Tryz.pinned (OpenSpec.upto boxLatticeSpec)

end Rows
end Go.Proofs.YtphlmmjlpbledaaGreatDoor
