/-
  NARROWER THAN 'FOR EVERY INPUT', by the rows' own cells (each row's printed sentence says how): NumNew: laid · NumScript: laid · NumProducts: laid · NumSystems: laid.
  DERIVED. THE GIVEN ROWS OF THIS SEAT. 4 by the template 'for every input the law returns true; each argument reads behind the call as it read before'; 0 by the template 'total and deterministic' (their statements: YtlljeccfhmojnaaGreatDoorTotals.lean).
  GIVEN WITH THE SEED: the statements are not yours to turn. If you find one false, say at which input.
  Laid BY PROGRAM, IN A SANDBOX (cutbox-rows.mjs): the forced cells as the released guide's own fill.sh prints them over the translation 50238b80af1dff12… (all of the seat's roots in one cut). By AI agents, Wed Nov 11 2026. No macro, syntax, notation, axiom, sorry.
-/
import Derived.Test.YtlljeccfhmojnaaGreatDoorChecked
import GoSem.Claim
import GoSem.ClaimJoined
import GoSem.ClaimMapViews
import Derived.JoinedTies
import Derived.KernelRfl
namespace Go.Proofs.YtlljeccfhmojnaaGreatDoor
/- THE CELL 'sum', in the pinned program and in every row, IS THE sha256 OF THE DUMP (.gsa) THAT YtlljeccfhmojnaaGreatDoorProg.lean LOADS. Nothing in Lean hashes anything: it is a label: what it is worth is what the hold of that sum in a sandbox is worth. -/
noncomputable def Tryz.pinned : Pinned := { name := "ytlljeccfhmojnaagreatdoor", sum := "50238b80af1dff12c81a260ff9ffc897cc50195fa9a61aaa02df40057285bb36", checked := Tryz.checked }
namespace Rows
def none {H : Type} : Left H := { results := [], args := [] }

/- WHAT THE LISTED PACKAGE-LEVEL VARIABLES READ AS WHEN THE CALL BEGINS. Each datum BY PROGRAM (the guide's laid-datum.mjs) off the statement by which the dump's own 'gosem.cut.vars' lays the variable. In a bare row this is a premise. The card (YtlljeccfhmojnaaGreatDoorCards.lean) ties it to the program's text. -/
def laid_math_bits_deBruijn32tab {H : Type} : DataW H := .agg [.lit (.int .u8 0), .lit (.int .u8 1), .lit (.int .u8 28), .lit (.int .u8 2), .lit (.int .u8 29), .lit (.int .u8 14), .lit (.int .u8 24), .lit (.int .u8 3), .lit (.int .u8 30), .lit (.int .u8 22), .lit (.int .u8 20), .lit (.int .u8 15), .lit (.int .u8 25), .lit (.int .u8 17), .lit (.int .u8 4), .lit (.int .u8 8), .lit (.int .u8 31), .lit (.int .u8 27), .lit (.int .u8 13), .lit (.int .u8 23), .lit (.int .u8 21), .lit (.int .u8 19), .lit (.int .u8 16), .lit (.int .u8 7), .lit (.int .u8 26), .lit (.int .u8 12), .lit (.int .u8 18), .lit (.int .u8 6), .lit (.int .u8 11), .lit (.int .u8 5), .lit (.int .u8 10), .lit (.int .u8 9)]

/-- 'waveportlaw01.NumNew': WHATEVER THE INPUT: true; the input reads as it did. -/
def numNewSpec : ChangeSpec := { name := "numNew", fn := fun _ => fun
  | [d1, d2, d3] => { results := [.lit (.bool true)], args := [d1, d2, d3] }
  | _ => none }
def numNewRow : OpenClaim := { program := "ytlljeccfhmojnaagreatdoor", sum := "50238b80af1dff12c81a260ff9ffc897cc50195fa9a61aaa02df40057285bb36", func := "waveport/waveportlaw01.NumNew", spec := "numNew", inPlace := ["math.Float64frombits", "math.Float64bits"], unfollowed := true, recurses := true, named := ["math/bits.deBruijn32tab", "math/bits.overflowError"], apart := false, laid := [("math/bits.deBruijn32tab", laid_math_bits_deBruijn32tab)] }
def NumNewSaid : Prop := numNewRow.holds Tryz.pinned (OpenSpec.ofChange numNewSpec)

/-- ITS FALSE NEIGHBOUR: 'it returns false'. Refute it at one input. -/
def numNewWrong : ChangeSpec := { name := "numNew", fn := fun _ => fun
  | [d1, d2, d3] => { results := [.lit (.bool false)], args := [d1, d2, d3] }
  | _ => none }
def NumNewWrongFalsely : Prop := numNewRow.holds Tryz.pinned (OpenSpec.ofChange numNewWrong)

/-- 'waveportlaw01.NumScript': WHATEVER THE INPUT: true; the input reads as it did. -/
def numScriptSpec : ChangeSpec := { name := "numScript", fn := fun _ => fun
  | [d1, d2] => { results := [.lit (.bool true)], args := [d1, d2] }
  | _ => none }
def numScriptRow : OpenClaim := { program := "ytlljeccfhmojnaagreatdoor", sum := "50238b80af1dff12c81a260ff9ffc897cc50195fa9a61aaa02df40057285bb36", func := "waveport/waveportlaw01.NumScript", spec := "numScript", inPlace := ["math.Float64frombits", "math.Float64bits"], unfollowed := true, recurses := true, named := ["math/bits.deBruijn32tab", "math/bits.overflowError"], apart := false, laid := [("math/bits.deBruijn32tab", laid_math_bits_deBruijn32tab)] }
def NumScriptSaid : Prop := numScriptRow.holds Tryz.pinned (OpenSpec.ofChange numScriptSpec)

/-- ITS FALSE NEIGHBOUR: 'it returns false'. Refute it at one input. -/
def numScriptWrong : ChangeSpec := { name := "numScript", fn := fun _ => fun
  | [d1, d2] => { results := [.lit (.bool false)], args := [d1, d2] }
  | _ => none }
def NumScriptWrongFalsely : Prop := numScriptRow.holds Tryz.pinned (OpenSpec.ofChange numScriptWrong)

/-- 'waveportlaw01.NumProducts': WHATEVER THE INPUT: true; the input reads as it did. -/
def numProductsSpec : ChangeSpec := { name := "numProducts", fn := fun _ => fun
  | [d1, d2, d3] => { results := [.lit (.bool true)], args := [d1, d2, d3] }
  | _ => none }
def numProductsRow : OpenClaim := { program := "ytlljeccfhmojnaagreatdoor", sum := "50238b80af1dff12c81a260ff9ffc897cc50195fa9a61aaa02df40057285bb36", func := "waveport/waveportlaw01.NumProducts", spec := "numProducts", inPlace := ["math.Float64frombits", "math.Float64bits"], unfollowed := true, recurses := true, named := ["math/bits.deBruijn32tab", "math/bits.overflowError"], apart := false, laid := [("math/bits.deBruijn32tab", laid_math_bits_deBruijn32tab)] }
def NumProductsSaid : Prop := numProductsRow.holds Tryz.pinned (OpenSpec.ofChange numProductsSpec)

/-- ITS FALSE NEIGHBOUR: 'it returns false'. Refute it at one input. -/
def numProductsWrong : ChangeSpec := { name := "numProducts", fn := fun _ => fun
  | [d1, d2, d3] => { results := [.lit (.bool false)], args := [d1, d2, d3] }
  | _ => none }
def NumProductsWrongFalsely : Prop := numProductsRow.holds Tryz.pinned (OpenSpec.ofChange numProductsWrong)

/-- 'waveportlaw01.NumSystems': WHATEVER THE INPUT: true; the input reads as it did. -/
def numSystemsSpec : ChangeSpec := { name := "numSystems", fn := fun _ => fun
  | [d1, d2] => { results := [.lit (.bool true)], args := [d1, d2] }
  | _ => none }
def numSystemsRow : OpenClaim := { program := "ytlljeccfhmojnaagreatdoor", sum := "50238b80af1dff12c81a260ff9ffc897cc50195fa9a61aaa02df40057285bb36", func := "waveport/waveportlaw01.NumSystems", spec := "numSystems", inPlace := ["math.Float64frombits", "math.Float64bits"], unfollowed := true, recurses := true, named := ["math/bits.deBruijn32tab", "math/bits.overflowError"], apart := false, laid := [("math/bits.deBruijn32tab", laid_math_bits_deBruijn32tab)] }
def NumSystemsSaid : Prop := numSystemsRow.holds Tryz.pinned (OpenSpec.ofChange numSystemsSpec)

/-- ITS FALSE NEIGHBOUR: 'it returns false'. Refute it at one input. -/
def numSystemsWrong : ChangeSpec := { name := "numSystems", fn := fun _ => fun
  | [d1, d2] => { results := [.lit (.bool false)], args := [d1, d2] }
  | _ => none }
def NumSystemsWrongFalsely : Prop := numSystemsRow.holds Tryz.pinned (OpenSpec.ofChange numSystemsWrong)

/- THE SECOND FORM. 'bulk': how many values and letters a reading holds, each counted each time it is reached (what is shared counts as often as it is met; a slice's spare places count too). A statement '..UptoSaid' is the law's where the arguments, and the package variables that the reading takes, are together of bulk at most 1048576: NARROWER than '..Said'. Prove '..Said' where nothing that the law and all that it calls make is longer than what came in: it says more and counts as full. Else prove '..UptoSaid'. A law counts once. -/
mutual
def uptoBulk {H : Type} : DataW H → Nat
  | .lit (.string bytes) => bytes.length + 1
  | .lit _ => 1
  | .nil => 1
  | .ptr d => uptoBulk d + 1
  | .slice elems spare => uptoBulkAll elems + uptoBulkAll spare + 1
  | .agg parts => uptoBulkAll parts + 1
  | .iface _ d => uptoBulk d + 1
  | .map entries => uptoBulkEntries entries + 1
  | .held _ => 1
def uptoBulkAll {H : Type} : List (DataW H) → Nat
  | [] => 0
  | d :: r => uptoBulk d + uptoBulkAll r
def uptoBulkEntries {H : Type} : List (Lit × DataW H) → Nat
  | [] => 0
  | x :: r => uptoBulkEntry x + uptoBulkEntries r
def uptoBulkEntry {H : Type} : Lit × DataW H → Nat
  | (.string bytes, d) => bytes.length + uptoBulk d + 1
  | (_, d) => uptoBulk d + 1
 end
def uptoSmall : (H : Type) → List (DataW H) → Bool := fun _ ds => decide (uptoBulkAll ds ≤ 1048576)
def OpenSpec.upto (s : _root_.Go.ChangeSpec) : _root_.Go.OpenSpec := { _root_.Go.OpenSpec.ofChange s with cond := some uptoSmall }

/-- 'waveportlaw01.NumNew', WHERE WHAT IT READS IS OF BULK AT MOST 1048576: true; the input reads as it did. -/
def numNewUptoRow : OpenClaim := { program := "ytlljeccfhmojnaagreatdoor", sum := "50238b80af1dff12c81a260ff9ffc897cc50195fa9a61aaa02df40057285bb36", func := "waveport/waveportlaw01.NumNew", spec := "numNew", inPlace := ["math.Float64frombits", "math.Float64bits"], unfollowed := true, recurses := true, named := ["math/bits.deBruijn32tab", "math/bits.overflowError"], apart := false, laid := [("math/bits.deBruijn32tab", laid_math_bits_deBruijn32tab)], narrowed := true }
def NumNewUptoSaid : Prop := numNewUptoRow.holds Tryz.pinned (OpenSpec.upto numNewSpec)

/-- 'waveportlaw01.NumScript', WHERE WHAT IT READS IS OF BULK AT MOST 1048576: true; the input reads as it did. -/
def numScriptUptoRow : OpenClaim := { program := "ytlljeccfhmojnaagreatdoor", sum := "50238b80af1dff12c81a260ff9ffc897cc50195fa9a61aaa02df40057285bb36", func := "waveport/waveportlaw01.NumScript", spec := "numScript", inPlace := ["math.Float64frombits", "math.Float64bits"], unfollowed := true, recurses := true, named := ["math/bits.deBruijn32tab", "math/bits.overflowError"], apart := false, laid := [("math/bits.deBruijn32tab", laid_math_bits_deBruijn32tab)], narrowed := true }
def NumScriptUptoSaid : Prop := numScriptUptoRow.holds Tryz.pinned (OpenSpec.upto numScriptSpec)

/-- 'waveportlaw01.NumProducts', WHERE WHAT IT READS IS OF BULK AT MOST 1048576: true; the input reads as it did. -/
def numProductsUptoRow : OpenClaim := { program := "ytlljeccfhmojnaagreatdoor", sum := "50238b80af1dff12c81a260ff9ffc897cc50195fa9a61aaa02df40057285bb36", func := "waveport/waveportlaw01.NumProducts", spec := "numProducts", inPlace := ["math.Float64frombits", "math.Float64bits"], unfollowed := true, recurses := true, named := ["math/bits.deBruijn32tab", "math/bits.overflowError"], apart := false, laid := [("math/bits.deBruijn32tab", laid_math_bits_deBruijn32tab)], narrowed := true }
def NumProductsUptoSaid : Prop := numProductsUptoRow.holds Tryz.pinned (OpenSpec.upto numProductsSpec)

/-- 'waveportlaw01.NumSystems', WHERE WHAT IT READS IS OF BULK AT MOST 1048576: true; the input reads as it did. -/
def numSystemsUptoRow : OpenClaim := { program := "ytlljeccfhmojnaagreatdoor", sum := "50238b80af1dff12c81a260ff9ffc897cc50195fa9a61aaa02df40057285bb36", func := "waveport/waveportlaw01.NumSystems", spec := "numSystems", inPlace := ["math.Float64frombits", "math.Float64bits"], unfollowed := true, recurses := true, named := ["math/bits.deBruijn32tab", "math/bits.overflowError"], apart := false, laid := [("math/bits.deBruijn32tab", laid_math_bits_deBruijn32tab)], narrowed := true }
def NumSystemsUptoSaid : Prop := numSystemsUptoRow.holds Tryz.pinned (OpenSpec.upto numSystemsSpec)

end Rows
end Go.Proofs.YtlljeccfhmojnaaGreatDoor
