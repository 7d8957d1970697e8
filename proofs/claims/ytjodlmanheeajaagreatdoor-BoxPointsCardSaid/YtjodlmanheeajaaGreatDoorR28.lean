import Derived.Test.YtjodlmanheeajaaGreatDoorR25
import Derived.Test.YtjodlmanheeajaaGreatDoorR02
set_option linter.unusedVariables false
set_option linter.unusedSimpArgs false
set_option maxRecDepth 100000
set_option maxHeartbeats 8000000
namespace Go.Proofs.YtjodlmanheeajaaGreatDoor
open Go.RowKit
theorem kk {P:Prop} (h:P:=by first | rfl | (simp [kIs] <;> fail) | (unfold kIs; decide +kernel)):P:=h
theorem obq {P:Prop} (h:P:=by (intro ts W hb hB hp K hK; simp only [fillT,zA,Nat.reduceAdd,sA,sB,sC] at hK ⊢; have HK:=hid hK; clear hK hp; refine ⟨?_⟩; go_simp; exact HK.out _ _ kk rfB)):P:=h
theorem fsub_run {A B R:Nat} (h:Ieee.double.sub A B = some R) (W:World):(binOp BinOp.sub 26 (.float .f64 A) (.float .f64 B)).run Tryz.prog W = .ok (.float .f64 R) W:=by
 have h':FloatKind.f64.format.sub A B = some R:=h
 simp [binOp,go_sem,Op.floatArith,h']
theorem fmul_run {A B R:Nat} (h:Ieee.double.mul A B = some R) (W:World):(binOp BinOp.mul 26 (.float .f64 A) (.float .f64 B)).run Tryz.prog W = .ok (.float .f64 R) W:=by
 have h':FloatKind.f64.format.mul A B = some R:=h
 simp [binOp,go_sem,Op.floatArith,h']
theorem f2u_run {A:Nat} {n:Int} (h:(Ieee.double.read A).toInt .zero = some n) (h2:0 <= n /\ n <= 18446744073709551615) (W:World):(convert 26 22 (.float .f64 A)).run Tryz.prog W = .ok (.int .u64 n) W:=by
 have h':(FloatKind.f64.decode A).toInt .zero = some n:=h
 have e1:IntKind.u64.min = 0:=dE
 have e2:IntKind.u64.max = 18446744073709551615:=dE
 simp [convert,go_sem,Conv.floatToInt,h',e1,e2,h2]
theorem u2f_run {R:Nat} {n:Int} (h:FloatKind.f64.nearest n = R) (W:World):(convert 22 26 (.int .u64 n)).run Tryz.prog W = .ok (.float .f64 R) W:=by
 simp [convert,go_sem,Conv.intToFloat,h]
theorem bx4 {W:World} {g:Nat} {T:TypeId} {v0 v1 v2 v3:Value} (h:W.heap[g]? = some (.cells #[v0,v1,v2,v3] T (0,0))) :
  W.cell? ⟨g,0,none⟩ = some v0 /\ W.cell? ⟨g,1,none⟩ = some v1 /\ W.cell? ⟨g,2,none⟩ = some v2 /\ W.cell? ⟨g,3,none⟩ = some v3 /\
  W.frozen? ⟨g,0,none⟩ = false /\ W.frozen? ⟨g,1,none⟩ = false /\ W.frozen? ⟨g,2,none⟩ = false /\ W.frozen? ⟨g,3,none⟩ = false:=by
 simp [World.cell?,World.frozen?,h]
theorem bx8 {W:World} {g:Nat} {T:TypeId} {v0 v1 v2 v3 v4 v5 v6 v7:Value} (h:W.heap[g]? = some (.cells #[v0,v1,v2,v3,v4,v5,v6,v7] T (0,0))) :
  W.cell? ⟨g,0,none⟩ = some v0 /\ W.cell? ⟨g,1,none⟩ = some v1 /\ W.cell? ⟨g,2,none⟩ = some v2 /\ W.cell? ⟨g,3,none⟩ = some v3 /\ W.cell? ⟨g,4,none⟩ = some v4 /\ W.cell? ⟨g,5,none⟩ = some v5 /\ W.cell? ⟨g,6,none⟩ = some v6 /\ W.cell? ⟨g,7,none⟩ = some v7 /\
  W.frozen? ⟨g,0,none⟩ = false /\ W.frozen? ⟨g,1,none⟩ = false /\ W.frozen? ⟨g,2,none⟩ = false /\ W.frozen? ⟨g,3,none⟩ = false /\ W.frozen? ⟨g,4,none⟩ = false /\ W.frozen? ⟨g,5,none⟩ = false /\ W.frozen? ⟨g,6,none⟩ = false /\ W.frozen? ⟨g,7,none⟩ = false:=by
 simp [World.cell?,World.frozen?,h]
theorem alloc_at {W:World} {a:Obj} {k:Nat} (h:k = W.heap.size):(W.alloc a).heap[k]? = some a:=by subst h; exact heap_alloc_new _ _
theorem set_same {W:World} {g o:Nat} {T:TypeId} {cs:Array Value} (h:W.heap[g]? = some (.cells cs T (0,0))) (v:Value):(W.setCell ⟨g,o,none⟩ v).heap[g]? = some (.cells (cs.setIfInBounds o v) T (0,0)):=by
 simp [World.setCell,Array.getElem?_modify,h]
theorem set_other {W:World} {g g' o:Nat} {x:Obj} (h:W.heap[g]? = some x) (hn:g' ≠ g) (v:Value):(W.setCell ⟨g',o,none⟩ v).heap[g]? = some x:=by
 simp [World.setCell,Array.getElem?_modify,h,hn]
theorem mant_1 (w:World):Calls Tryz.prog 132 #[.float .f64 4607182418800017408] w fun e w'=>e = .returned (.tuple #[.int .u64 9223372036854775808,.int .i64 (-63)]) /\ w = w':=by
 have hfb:=floatbits_run
 have k0:bits BinOp.andNot IntKind.u64 4607182418800017408 9223372036854775808 = 4607182418800017408:=dK
 have k1:∀ W,(callFunc 108 #[.int .u64 4607182418800017408]).run Tryz.prog W = .ok (.value (.float .f64 4607182418800017408)) W:=fun W=>frombits_run W 4607182418800017408
 have k2:(FloatKind.f64.format.order 4607182418800017408 9218868437227405311 == some Ordering.gt) = false:=dK
 have k3:(FloatKind.f64.format.order 4607182418800017408 0 == some Ordering.eq) = false:=dK
 have k4:(FloatKind.f64.format.order 4607182418800017408 4607182418800017408 != some Ordering.eq) = false:=dK
 have k5:(FloatKind.f64.format.order 4607182418800017408 4503599627370496 == some Ordering.lt) = false:=dK
 have k6:bits BinOp.and IntKind.u64 1023 2047 = 1023:=dK
 have k7:bits BinOp.andNot IntKind.u64 4607182418800017408 9218868437227405312 = 0:=dK
 have k8:bits BinOp.or IntKind.u64 0 4602678819172646912 = 4602678819172646912:=dK
 have k9:∀ W,(callFunc 108 #[.int .u64 4602678819172646912]).run Tryz.prog W = .ok (.value (.float .f64 4602678819172646912)) W:=fun W=>frombits_run W 4602678819172646912
 have k10:(FloatKind.f64.format.order 4602678819172646912 0 == some Ordering.eq) = false:=dK
 have k11:bits BinOp.andNot IntKind.u64 4602678819172646912 9223372036854775808 = 4602678819172646912:=dK
 have k12:(FloatKind.f64.format.order 4602678819172646912 9218868437227405311 == some Ordering.gt) = false:=dK
 have k13:(FloatKind.f64.format.order 4602678819172646912 4602678819172646912 != some Ordering.eq) = false:=dK
 have k14:(FloatKind.f64.format.order 4602678819172646912 4503599627370496 == some Ordering.lt) = false:=dK
 have k15:bits BinOp.and IntKind.i64 1022 2047 = 1022:=dK
 have k16:bits BinOp.andNot IntKind.u64 4602678819172646912 9218868437227405312 = 0:=dK
 have k17:bits BinOp.or IntKind.u64 0 4890909195324358656 = 4890909195324358656:=dK
 have k18:∀ W,(callFunc 108 #[.int .u64 4890909195324358656]).run Tryz.prog W = .ok (.value (.float .f64 4890909195324358656)) W:=fun W=>frombits_run W 4890909195324358656
 have k19:∀ W,(binOp BinOp.mul 26 (.float .f64 4607182418800017408) (.float .f64 4890909195324358656)).run Tryz.prog W = .ok (.float .f64 4890909195324358656) W:=fun W=>fmul_run dK W
 have k20:∀ W,(convert 26 22 (.float .f64 4890909195324358656)).run Tryz.prog W = .ok (.int .u64 9223372036854775808) W:=f2u_run dK dK
 go_enter Tryz.func132,Tryz.ntmps132
 go_wp2
 refine bodyPost_ret (v:=.tuple #[.int .u64 9223372036854775808,.int .i64 (-63)]) (by simp [results,Tryz.results132]) rfl ?_
 exact ⟨rfl,rfl⟩
theorem mant_2 (w:World):Calls Tryz.prog 132 #[.float .f64 4611686018427387904] w fun e w'=>e = .returned (.tuple #[.int .u64 9223372036854775808,.int .i64 (-62)]) /\ w = w':=by
 have hfb:=floatbits_run
 have k0:bits BinOp.andNot IntKind.u64 4611686018427387904 9223372036854775808 = 4611686018427387904:=dK
 have k1:∀ W,(callFunc 108 #[.int .u64 4611686018427387904]).run Tryz.prog W = .ok (.value (.float .f64 4611686018427387904)) W:=fun W=>frombits_run W 4611686018427387904
 have k2:(FloatKind.f64.format.order 4611686018427387904 9218868437227405311 == some Ordering.gt) = false:=dK
 have k3:(FloatKind.f64.format.order 4611686018427387904 0 == some Ordering.eq) = false:=dK
 have k4:(FloatKind.f64.format.order 4611686018427387904 4611686018427387904 != some Ordering.eq) = false:=dK
 have k5:(FloatKind.f64.format.order 4611686018427387904 4503599627370496 == some Ordering.lt) = false:=dK
 have k6:bits BinOp.and IntKind.u64 1024 2047 = 1024:=dK
 have k7:bits BinOp.andNot IntKind.u64 4611686018427387904 9218868437227405312 = 0:=dK
 have k8:bits BinOp.or IntKind.u64 0 4602678819172646912 = 4602678819172646912:=dK
 have k9:∀ W,(callFunc 108 #[.int .u64 4602678819172646912]).run Tryz.prog W = .ok (.value (.float .f64 4602678819172646912)) W:=fun W=>frombits_run W 4602678819172646912
 have k10:(FloatKind.f64.format.order 4602678819172646912 0 == some Ordering.eq) = false:=dK
 have k11:bits BinOp.andNot IntKind.u64 4602678819172646912 9223372036854775808 = 4602678819172646912:=dK
 have k12:(FloatKind.f64.format.order 4602678819172646912 9218868437227405311 == some Ordering.gt) = false:=dK
 have k13:(FloatKind.f64.format.order 4602678819172646912 4602678819172646912 != some Ordering.eq) = false:=dK
 have k14:(FloatKind.f64.format.order 4602678819172646912 4503599627370496 == some Ordering.lt) = false:=dK
 have k15:bits BinOp.and IntKind.i64 1022 2047 = 1022:=dK
 have k16:bits BinOp.andNot IntKind.u64 4602678819172646912 9218868437227405312 = 0:=dK
 have k17:bits BinOp.or IntKind.u64 0 4890909195324358656 = 4890909195324358656:=dK
 have k18:∀ W,(callFunc 108 #[.int .u64 4890909195324358656]).run Tryz.prog W = .ok (.value (.float .f64 4890909195324358656)) W:=fun W=>frombits_run W 4890909195324358656
 have k19:∀ W,(binOp BinOp.mul 26 (.float .f64 4607182418800017408) (.float .f64 4890909195324358656)).run Tryz.prog W = .ok (.float .f64 4890909195324358656) W:=fun W=>fmul_run dK W
 have k20:∀ W,(convert 26 22 (.float .f64 4890909195324358656)).run Tryz.prog W = .ok (.int .u64 9223372036854775808) W:=f2u_run dK dK
 go_enter Tryz.func132,Tryz.ntmps132
 go_wp2
 refine bodyPost_ret (v:=.tuple #[.int .u64 9223372036854775808,.int .i64 (-62)]) (by simp [results,Tryz.results132]) rfl ?_
 exact ⟨rfl,rfl⟩
theorem mant_0 (w:World):Calls Tryz.prog 132 #[.float .f64 0] w fun e w'=>e = .returned (.tuple #[.int .u64 0,.int .i64 (-64)]) /\ w = w':=by
 have hfb:=floatbits_run
 have k0:bits BinOp.andNot IntKind.u64 0 9223372036854775808 = 0:=dK
 have k1:∀ W,(callFunc 108 #[.int .u64 0]).run Tryz.prog W = .ok (.value (.float .f64 0)) W:=fun W=>frombits_run W 0
 have k2:(FloatKind.f64.format.order 0 9218868437227405311 == some Ordering.gt) = false:=dK
 have k3:(FloatKind.f64.format.order 0 0 == some Ordering.eq) = true:=dK
 have k4:∀ W,(convert 26 22 (.float .f64 0)).run Tryz.prog W = .ok (.int .u64 0) W:=f2u_run dK dK
 go_enter Tryz.func132,Tryz.ntmps132
 go_wp2
 refine bodyPost_ret (v:=.tuple #[.int .u64 0,.int .i64 (-64)]) (by simp [results,Tryz.results132]) rfl ?_
 exact ⟨rfl,rfl⟩
end Go.Proofs.YtjodlmanheeajaaGreatDoor
