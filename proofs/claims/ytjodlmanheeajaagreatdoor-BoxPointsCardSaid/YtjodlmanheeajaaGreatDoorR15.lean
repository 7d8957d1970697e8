import Derived.Test.YtjodlmanheeajaaGreatDoorR07
import Derived.Test.YtjodlmanheeajaaGreatDoorR14
import Derived.Test.YtjodlmanheeajaaGreatDoorR02
set_option linter.unusedVariables false
set_option linter.unusedSimpArgs false
set_option maxRecDepth 100000
set_option maxHeartbeats 8000000
namespace Go.Proofs.YtjodlmanheeajaaGreatDoor
open Go.RowKit
theorem IsInt.zero (w:World) (A:Option Addr) (c:Nat):IsInt w (.agg #[.slice A 0 c,.bool false]) 0:=⟨_,sP,IsNat.zero w A c⟩
theorem int_any (z:Int) (w:World) (h1:-9223372036854775808 <= z) (h2:z < 9223372036854775808) :
  Calls Tryz.prog 208 #[.int .i64 z] w (RetNum w (.int z)):=by
 have HF:=hid (fun W=>fromInt_any z W h1 h2)
 clear h1 h2
 go_enter Tryz.func208,Tryz.ntmps208
 go_wp2_with fail
 refine (HF.out _).mono ?_
 rintro e W5 ⟨v,rfl,hr5,hb5⟩
 obtain ⟨hc5,hf5,hz5⟩:=bcells hb5 (w.heap.size + 1) sP
 obtain ⟨A4,n4,c4,rfl,-,-⟩:=hr5.parts
 generalize decide (z < 0) = p4 at *
 go_wp2
 have NB:NumBox W5 w.heap.size:=NumBox.of hc5 oM (.nil sG sG sG sG sG)
 refine bodyPost_ret (v:=.agg #[.slice A4 n4 c4,.bool p4,.slice none 0 0,.bool false,.slice none 0 0]) (by simp [results,Tryz.results208]; exact run_load5 NB _ _ _ _ _) rfl ?_
 exact RetNum.box bel oM NB (.mk (Low.int z) hr5 (IsInt.zero _ _ _) (IsNat.zero _ _ _)) _ _ _ _ _
end Go.Proofs.YtjodlmanheeajaaGreatDoor
