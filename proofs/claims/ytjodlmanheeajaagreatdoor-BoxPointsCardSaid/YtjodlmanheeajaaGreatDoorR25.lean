import Derived.Deep.CutBlock
import Derived.Deep.CutRange
import Derived.Deep.DeepCutAuto
import Derived.Deep.LoopGhost
import Derived.Deep.RegionHeld3
import Derived.IntWalk
import Derived.Laws.AppendOwn
import Derived.Laws.BitsAllLaws
import Derived.Laws.BytesArg
import Derived.Laws.CopyOwn
import Derived.Laws.CopyRow
import Derived.OwnWalk
import Derived.RegionTactic
import Derived.Test.YtjodlmanheeajaaGreatDoorR01
import Derived.Test.YtjodlmanheeajaaGreatDoorR02
import Derived.Test.YtjodlmanheeajaaGreatDoorR04
import Derived.Test.YtjodlmanheeajaaGreatDoorR05
import Derived.Test.YtjodlmanheeajaaGreatDoorR06
import Derived.Test.YtjodlmanheeajaaGreatDoorR07
import Derived.Test.YtjodlmanheeajaaGreatDoorR11
import Derived.Test.YtjodlmanheeajaaGreatDoorR13
import Derived.Test.YtjodlmanheeajaaGreatDoorR15
import Derived.Test.YtjodlmanheeajaaGreatDoorR16
import Derived.Test.YtjodlmanheeajaaGreatDoorR17
import Derived.Test.YtjodlmanheeajaaGreatDoorR18
import Derived.Test.YtjodlmanheeajaaGreatDoorR19
import Derived.Test.YtjodlmanheeajaaGreatDoorR22
import Derived.Test.YtjodlmanheeajaaGreatDoorR23
import Derived.Test.YtjodlmanheeajaaGreatDoorR24
set_option linter.unusedVariables false
set_option linter.unusedSimpArgs false
set_option maxRecDepth 100000
set_option maxHeartbeats 8000000
namespace Go.Proofs.YtjodlmanheeajaaGreatDoor
open Go.RowKit
theorem signbit_any (b:Nat) (w:World) (hb:b < 18446744073709551616) :
  Calls Tryz.prog 134 #[.float .f64 b] w fun e w'=>e = .returned (.bool (fneg b)) /\ w = w':=by
 have hfb:=floatbits_run
 have h1:decide (wrap64 (b:Int) < 0) = fneg b:=by
  unfold fneg wrap64
  rw [decide_eq_decide]
  omega
 generalize fneg b = o at *
 go_enter Tryz.func134,Tryz.ntmps134
 go_wp2
 go_ret
 exact ⟨rfl,rfl⟩
end Go.Proofs.YtjodlmanheeajaaGreatDoor
