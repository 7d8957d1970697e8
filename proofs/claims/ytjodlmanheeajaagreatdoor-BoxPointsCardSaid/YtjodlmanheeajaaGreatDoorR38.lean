import Derived.Test.YtjodlmanheeajaaGreatDoorR36
import Derived.Test.YtjodlmanheeajaaGreatDoorR02
set_option linter.unusedVariables false
set_option linter.unusedSimpArgs false
set_option maxRecDepth 100000
set_option maxHeartbeats 8000000
namespace Go.Proofs.YtjodlmanheeajaaGreatDoor
open Go.RowKit
theorem pair_any (p q r s:Nat) (w:World):Calls Tryz.prog 73 #[.agg #[.float .f64 p,.float .f64 q],.agg #[.float .f64 r,.float .f64 s]] w fun e w'=>e = .returned (.agg #[.float .f64 p,.float .f64 q,.float .f64 r,.float .f64 s]) /\ Below w.heap.size w w':=by
 have hfb:=floatbits_run
 have hsf:=store_float
 go_enter Tryz.func73,Tryz.ntmps73
 go_wp2
 refine bodyPost_ret (v:=.agg #[.float .f64 p,.float .f64 q,.float .f64 r,.float .f64 s]) (by simp [results,Tryz.results73,go_sem]) rfl ?_
 exact ⟨rfl,(bT (bT (bT (Below.refl w.heap.size w) (below_alloc _ _)) (below_alloc _ _)) (below_alloc _ _))⟩
theorem equalF (n x y:Nat) (W:World):(Op.equalIn (n + 1) 26 (.float .f64 x) (.float .f64 y)).run Tryz.prog W = .ok (FloatKind.f64.format.order x y == some Ordering.eq) W:=by
 simp [Op.equalIn,go_sem]
 rfl
end Go.Proofs.YtjodlmanheeajaaGreatDoor
