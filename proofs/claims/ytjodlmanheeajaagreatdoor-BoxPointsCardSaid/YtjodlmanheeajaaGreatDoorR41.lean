import Derived.Test.YtjodlmanheeajaaGreatDoorR13
import Derived.Test.YtjodlmanheeajaaGreatDoorR27
import Derived.Test.YtjodlmanheeajaaGreatDoorR28
import Derived.Test.YtjodlmanheeajaaGreatDoorR39
import Derived.Test.YtjodlmanheeajaaGreatDoorR40
import Derived.Test.YtjodlmanheeajaaGreatDoorR02
set_option linter.unusedVariables false
set_option linter.unusedSimpArgs false
set_option maxRecDepth 100000
set_option maxHeartbeats 8000000
namespace Go.Proofs.YtjodlmanheeajaaGreatDoor
open Go.RowKit
structure HAt (W:World) (g:Nat) (cs:Array Value) (T:TypeId):Prop where
 x:W.heap[g]? = some (.cells cs T (0,0))
 z:g < W.heap.size
section
variable {W W':World} {g k:Nat} {cs:Array Value} {T:TypeId} {o:Obj}
theorem HAt.on (h:HAt W g cs T) (hb:Below W.heap.size W W'):HAt W' g cs T:=⟨(hb.block _ h.z).trans h.x,lL h.z hb.size⟩
theorem HAt.up (h:HAt W g cs T):HAt (W.alloc o) g cs T:=⟨(heap_alloc_old W _ h.z).trans h.x,lL h.z sP⟩
theorem HAt.new (h:k = W.heap.size):HAt (W.alloc (.cells cs T)) k cs T:=⟨alloc_at h,by rw [h]; simp⟩
theorem HAt.ld (h:HAt W' g cs T) {w:World} (hb:Below W'.heap.size W' w):w.heap[g]? = some (.cells cs T (0,0)):=(hb.block _ h.z).trans h.x
end
section
variable {P:Program} {ops:Array Oper} {kl:List RK} {B:Nat} {w0:World} {a0:Act} {o:Oper} {i:Nat}
theorem uN1 {x:Operand} {T:TypeId} (ho:o.op = .unOp .not T x) (hx:Kn ops kl a0 i x (fun _=>.bool false)):ObU P ops kl B w0 a0 o i (kIs (.bool true)):=uNt ho hx
theorem uN0 {x:Operand} {T:TypeId} (ho:o.op = .unOp .not T x) (hx:Kn ops kl a0 i x (fun _=>.bool true)):ObU P ops kl B w0 a0 o i (kIs (.bool false)):=uNt ho hx
end
theorem si {u:Value}:StabB (kIs u):=Stab.b (stab_is u)
def Gv (f:FuncId) (xs:Array Value) (v:Value):Prop:=∀ W,Calls Tryz.prog f xs W fun e w'=>e = .returned v /\ Below W.heap.size W w'
end Go.Proofs.YtjodlmanheeajaaGreatDoor
namespace Go.Proofs.YtjodlmanheeajaaGreatDoor
open Go.RowKit
theorem in_any (p q r s:Nat) (w:World):Calls Tryz.prog 14 #[.agg #[.float .f64 p,.float .f64 q],.agg #[.float .f64 r,.float .f64 s]] w fun e w'=>e = .returned (.bool (leb r p && leb q s)) /\ Below w.heap.size w w':=by
 unfold leb
 cases h1:(FloatKind.f64.format.order r p == some Ordering.lt || FloatKind.f64.format.order r p == some Ordering.eq)
 ·exact in_00 p q r s h1 w
 ·cases h2:(FloatKind.f64.format.order q s == some Ordering.lt || FloatKind.f64.format.order q s == some Ordering.eq)
  ·exact in_10 p q r s h1 h2 w
  ·exact in_11 p q r s h1 h2 w
theorem rin_any (p q r s:Nat) (w:World):Calls Tryz.prog 15 #[.agg #[.float .f64 p,.float .f64 q],.agg #[.float .f64 r,.float .f64 s]] w fun e w'=>e = .returned (.bool (leb r p && leb q s)) /\ Below w.heap.size w w':=by
 unfold leb
 cases h1:(FloatKind.f64.format.order r p == some Ordering.lt || FloatKind.f64.format.order r p == some Ordering.eq)
 ·exact rin_00 p q r s h1 w
 ·cases h2:(FloatKind.f64.format.order q s == some Ordering.lt || FloatKind.f64.format.order q s == some Ordering.eq)
  ·exact rin_10 p q r s h1 h2 w
  ·exact rin_11 p q r s h1 h2 w
def blK (p q r s:Nat):Int:=if ltb q r then 1 else if leb s p then 2 else 0
def blR (p q r s:Nat):Int:=if ltb q r then 1 else if geb p s then 2 else 0
theorem below_any (p q r s:Nat) (w:World):Calls Tryz.prog 12 #[.agg #[.float .f64 p,.float .f64 q],.agg #[.float .f64 r,.float .f64 s]] w fun e w'=>e = .returned (.int .i64 (blK p q r s)) /\ Below w.heap.size w w':=by
 unfold blK ltb leb
 cases h1:(FloatKind.f64.format.order q r == some Ordering.lt)
 ·cases h2:(FloatKind.f64.format.order s p == some Ordering.lt || FloatKind.f64.format.order s p == some Ordering.eq)
  ·exact below_00 p q r s h1 h2 w
  ·exact below_01 p q r s h1 h2 w
 ·exact below_10 p q r s h1 w
theorem rbelow_any (p q r s:Nat) (w:World):Calls Tryz.prog 13 #[.agg #[.float .f64 p,.float .f64 q],.agg #[.float .f64 r,.float .f64 s]] w fun e w'=>e = .returned (.int .i64 (blR p q r s)) /\ Below w.heap.size w w':=by
 unfold blR ltb geb
 cases h1:(FloatKind.f64.format.order q r == some Ordering.lt)
 ·cases h2:(FloatKind.f64.format.order p s == some Ordering.gt || FloatKind.f64.format.order p s == some Ordering.eq)
  ·exact rbelow_00 p q r s h1 h2 w
  ·exact rbelow_01 p q r s h1 h2 w
 ·exact rbelow_10 p q r s h1 w
theorem span_no (a b p q:Nat) (k:Int) (hk:k ≠ 0) (HF:Hid (∀ W,Calls Tryz.prog 56 #[.agg #[.int .u64 (a:Int),.int .u64 (b:Int)]] W fun e w'=>e = .returned (.tuple #[.float .f64 p,.float .f64 q]) /\ Below W.heap.size W w'))
  (HR:Hid (∀ W,Calls Tryz.prog 57 #[.float .f64 p,.float .f64 q] W fun e w'=>e = .returned (.tuple #[.agg #[.float .f64 0,.float .f64 0],.int .i64 k]) /\ Below W.heap.size W w')) (w:World):Calls Tryz.prog 11 #[.agg #[.int .u64 (a:Int),.int .u64 (b:Int)]] w fun e w'=>e = .returned (.tuple #[.agg #[.float .f64 0,.float .f64 0],.agg #[.float .f64 0,.float .f64 0],.bool false]) /\ Below w.heap.size w w':=by
 have hfb:=floatbits_run
 have hsf:=store_float
 go_enter Tryz.func11,Tryz.ntmps11
 go_wp2_with fail
 obtain ⟨W1,hW1⟩:∃ W:World,W = ((w.alloc (.cells #[.int .u64 (a:Int),.int .u64 (b:Int)] 24)).alloc (.cells #[.float .f64 0,.float .f64 0] 28)).alloc (.cells #[.float .f64 0,.float .f64 0] 30):=⟨_,rfl⟩
 rw [<- hW1]
 have X0:W1.heap[w.heap.size]? = some (.cells #[.int .u64 (a:Int),.int .u64 (b:Int)] 24 (0,0)):=by rw [hW1]; exact ((heap_alloc_old _ _ (by first | omega | (simp <;> omega))).trans ((heap_alloc_old _ _ (by first | omega | (simp <;> omega))).trans (alloc_at sP)))
 have X1:W1.heap[w.heap.size + 1]? = some (.cells #[.float .f64 0,.float .f64 0] 28 (0,0)):=by rw [hW1]; exact ((heap_alloc_old _ _ (by first | omega | (simp <;> omega))).trans (alloc_at sP))
 have X2:W1.heap[w.heap.size + 2]? = some (.cells #[.float .f64 0,.float .f64 0] 30 (0,0)):=by rw [hW1]; exact (alloc_at sP)
 have z0:w.heap.size < W1.heap.size:=by rw [hW1]; simp <;> omega
 have z1:w.heap.size + 1 < W1.heap.size:=by rw [hW1]; simp <;> omega
 have z2:w.heap.size + 2 < W1.heap.size:=by rw [hW1]; simp <;> omega
 have B:Below w.heap.size w W1:=by rw [hW1]; exact (bT (bT (bT (Below.refl w.heap.size w) (below_alloc _ _)) (below_alloc _ _)) (below_alloc _ _))
 clear hW1
 refine (HF.out _).mono ?_
 rintro e W2 ⟨rfl,hb2⟩
 replace X0:=(hb2.block _ z0).trans X0
 replace z0:=lL z0 hb2.size
 replace X1:=(hb2.block _ z1).trans X1
 replace z1:=lL z1 hb2.size
 replace X2:=(hb2.block _ z2).trans X2
 replace z2:=lL z2 hb2.size
 replace B:=bT B hb2
 clear hb2
 obtain ⟨f0_0,f0_1,y0_0,y0_1⟩:=bx2 X0
 obtain ⟨f1_0,f1_1,y1_0,y1_1⟩:=bx2 X1
 obtain ⟨f2_0,f2_1,y2_0,y2_1⟩:=bx2 X2
 go_wp2_with fail
 refine (HR.out _).mono ?_
 rintro e W3 ⟨rfl,hb3⟩
 replace X0:=(hb3.block _ z0).trans X0
 replace z0:=lL z0 hb3.size
 replace X1:=(hb3.block _ z1).trans X1
 replace z1:=lL z1 hb3.size
 replace X2:=(hb3.block _ z2).trans X2
 replace z2:=lL z2 hb3.size
 replace B:=bT B hb3
 clear hb3
 clear f0_0 f0_1 y0_0 y0_1 f1_0 f1_1 y1_0 y1_1 f2_0 f2_1 y2_0 y2_1
 obtain ⟨f0_0,f0_1,y0_0,y0_1⟩:=bx2 X0
 obtain ⟨f1_0,f1_1,y1_0,y1_1⟩:=bx2 X1
 obtain ⟨f2_0,f2_1,y2_0,y2_1⟩:=bx2 X2
 go_upto_region 4 with fail
 obtain ⟨W4,hW4⟩:∃ W:World,W = W3.alloc (.cells #[.float .f64 0,.float .f64 0] 30):=⟨_,rfl⟩
 rw [<- hW4]
 replace X0:W4.heap[w.heap.size]? = some (.cells #[.int .u64 (a:Int),.int .u64 (b:Int)] 24 (0,0)):=by rw [hW4]; exact ((heap_alloc_old _ _ (by first | omega | (simp <;> omega))).trans X0)
 replace X1:W4.heap[w.heap.size + 1]? = some (.cells #[.float .f64 0,.float .f64 0] 28 (0,0)):=by rw [hW4]; exact ((heap_alloc_old _ _ (by first | omega | (simp <;> omega))).trans X1)
 replace X2:W4.heap[w.heap.size + 2]? = some (.cells #[.float .f64 0,.float .f64 0] 30 (0,0)):=by rw [hW4]; exact ((heap_alloc_old _ _ (by first | omega | (simp <;> omega))).trans X2)
 have X3:W4.heap[W3.heap.size]? = some (.cells #[.float .f64 0,.float .f64 0] 30 (0,0)):=by rw [hW4]; exact (alloc_at sP)
 have q0_3:w.heap.size < W3.heap.size:=oM
 have q1_3:w.heap.size + 1 < W3.heap.size:=oM
 have q2_3:w.heap.size + 2 < W3.heap.size:=oM
 replace z0:w.heap.size < W4.heap.size:=by rw [hW4]; simp <;> omega
 replace z1:w.heap.size + 1 < W4.heap.size:=by rw [hW4]; simp <;> omega
 replace z2:w.heap.size + 2 < W4.heap.size:=by rw [hW4]; simp <;> omega
 have z3:W3.heap.size < W4.heap.size:=by rw [hW4]; simp <;> omega
 replace B:Below w.heap.size w W4:=by rw [hW4]; exact (bT B (below_alloc _ _))
 clear hW4
 clear f0_0 f0_1 y0_0 y0_1 f1_0 f1_1 y1_0 y1_1 f2_0 f2_1 y2_0 y2_1
 obtain ⟨f0_0,f0_1,y0_0,y0_1⟩:=bx2 X0
 obtain ⟨f1_0,f1_1,y1_0,y1_1⟩:=bx2 X1
 obtain ⟨f2_0,f2_1,y2_0,y2_1⟩:=bx2 X2
 obtain ⟨f3_0,f3_1,y3_0,y3_1⟩:=bx2 X3
 go_wp2
 refine bodyPost_ret (v:=.tuple #[.agg #[.float .f64 0,.float .f64 0],.agg #[.float .f64 0,.float .f64 0],.bool false]) (by simp [results,Tryz.results11,go_sem,f0_0,f0_1,y0_0,y0_1,f1_0,f1_1,y1_0,y1_1,f2_0,f2_1,y2_0,y2_1,f3_0,f3_1,y3_0,y3_1]) rfl ?_
 exact ⟨rfl,(Below.setCell (p:=⟨w.heap.size + 2,1,none⟩) (Below.setCell (p:=⟨w.heap.size + 2,0,none⟩) (Below.setCell (p:=⟨w.heap.size + 1,1,none⟩) (Below.setCell (p:=⟨w.heap.size + 1,0,none⟩) B (show w.heap.size <= w.heap.size + 1 by omega) _) (show w.heap.size <= w.heap.size + 1 by omega) _) (show w.heap.size <= w.heap.size + 2 by omega) _) (show w.heap.size <= w.heap.size + 2 by omega) _)⟩
theorem floats_any (a b:Nat) (w:World):Calls Tryz.prog 56 #[.agg #[.int .u64 (a:Int),.int .u64 (b:Int)]] w fun e w'=>e = .returned (.tuple #[.float .f64 (spP a b),.float .f64 (spQ a b)]) /\ Below w.heap.size w w':=by
 unfold spP spQ gtb
 cases h:(FloatKind.f64.format.order a b == some Ordering.gt)
 ·exact floats_0 a b h w
 ·exact floats_1 a b h w
theorem span_any (a b:Nat) (w:World):Calls Tryz.prog 11 #[.agg #[.int .u64 (a:Int),.int .u64 (b:Int)]] w fun e w'=>e = .returned (.tuple #[.agg #[.float .f64 (spOf a b).lo,.float .f64 (spOf a b).hi],.agg #[.float .f64 (spOf a b).lo,.float .f64 (spOf a b).hi],.bool (spB a b)]) /\ Below w.heap.size w w':=by
 have HR:=fun W=>rmakeSpan_any (spP a b) (spQ a b) W
 have HM:=fun W=>makeSpan_any (spP a b) (spQ a b) W
 cases h:spB a b
 ·have e0:=sp_no h
  have hk:=spB_n h
  have e1:msL (spP a b) (spQ a b) = 0:=congrArg Sp.lo e0
  have e2:msH (spP a b) (spQ a b) = 0:=congrArg Sp.hi e0
  rw [e1,e2] at HR
  rw [e0]
  exact span_no a b _ _ _ hk (hid fun W=>floats_any a b W) (hid HR) w
 ·have hk:=spB_k h
  rw [hk] at HR HM
  exact span_ok a b _ _ _ _ w (hid fun W=>floats_any a b W) (hid HR) (hid HM)
theorem hull_any (p q r s:Nat) (hp:FB p) (hq:FB q) (hr:FB r) (hs:FB s) (w:World) (g:Nat) (X0:w.heap[g]? = some (.cells #[.float .f64 p,.float .f64 q,.float .f64 r,.float .f64 s] 28 (0,0))) (z0:g < w.heap.size):Calls Tryz.prog 60 #[.slice (some ⟨g,0,none⟩) 2 2] w fun e w'=>e = .returned (.agg #[.float .f64 (fmn p r),.float .f64 (fmx q s)]) /\ Below w.heap.size w w':=by
 have hfb:=floatbits_run
 have hsf:=store_float
 have k0:∀ W,(Builtin.min_ #[26,26] 26 #[.float .f64 p,.float .f64 r]).run Tryz.prog W = .ok (.float .f64 (fmn p r)) W:=fun W=>fmn_run hp hr W
 have k1:∀ W,(Builtin.max_ #[26,26] 26 #[.float .f64 q,.float .f64 s]).run Tryz.prog W = .ok (.float .f64 (fmx q s)) W:=fun W=>fmx_run hq hs W
 go_enter Tryz.func60,Tryz.ntmps60
 have B:=Below.refl w.heap.size w
 obtain ⟨f0_0,f0_1,f0_2,f0_3,y0_0,y0_1,y0_2,y0_3⟩:=bx4 X0
 go_upto_region 1 with fail
 obtain ⟨W1,hW1⟩:∃ W:World,W = w.alloc (.cells #[.float .f64 0,.float .f64 0] 28):=⟨_,rfl⟩
 rw [<- hW1]
 replace X0:W1.heap[g]? = some (.cells #[.float .f64 p,.float .f64 q,.float .f64 r,.float .f64 s] 28 (0,0)):=by rw [hW1]; exact ((heap_alloc_old _ _ (by first | omega | (simp <;> omega))).trans X0)
 have X1:W1.heap[w.heap.size]? = some (.cells #[.float .f64 0,.float .f64 0] 28 (0,0)):=by rw [hW1]; exact (alloc_at sP)
 have q0_1:g < w.heap.size:=oM
 replace z0:g < W1.heap.size:=by rw [hW1]; simp <;> omega
 have z1:w.heap.size < W1.heap.size:=by rw [hW1]; simp <;> omega
 replace B:Below w.heap.size w W1:=by rw [hW1]; exact (bT B (below_alloc _ _))
 clear hW1
 clear f0_0 f0_1 f0_2 f0_3 y0_0 y0_1 y0_2 y0_3
 obtain ⟨f0_0,f0_1,f0_2,f0_3,y0_0,y0_1,y0_2,y0_3⟩:=bx4 X0
 obtain ⟨f1_0,f1_1,y1_0,y1_1⟩:=bx2 X1
 go_wp2_with fail
 refine wp_loop_rounds 2 ?_
 rw [rounds_succ]
 go_upto_region 4 with fail
 obtain ⟨W2,hW2⟩:∃ W:World,W = W1.alloc (.cells #[.float .f64 p,.float .f64 q] 28):=⟨_,rfl⟩
 rw [<- hW2]
 replace X0:W2.heap[g]? = some (.cells #[.float .f64 p,.float .f64 q,.float .f64 r,.float .f64 s] 28 (0,0)):=by rw [hW2]; exact ((heap_alloc_old _ _ (by first | omega | (simp <;> omega))).trans X0)
 replace X1:W2.heap[w.heap.size]? = some (.cells #[.float .f64 0,.float .f64 0] 28 (0,0)):=by rw [hW2]; exact ((heap_alloc_old _ _ (by first | omega | (simp <;> omega))).trans X1)
 have X2:W2.heap[W1.heap.size]? = some (.cells #[.float .f64 p,.float .f64 q] 28 (0,0)):=by rw [hW2]; exact (alloc_at sP)
 have q0_2:g < W1.heap.size:=oM
 have q1_2:w.heap.size < W1.heap.size:=oM
 replace z0:g < W2.heap.size:=by rw [hW2]; simp <;> omega
 replace z1:w.heap.size < W2.heap.size:=by rw [hW2]; simp <;> omega
 have z2:W1.heap.size < W2.heap.size:=by rw [hW2]; simp <;> omega
 replace B:Below w.heap.size w W2:=by rw [hW2]; exact (bT B (below_alloc _ _))
 clear hW2
 clear f0_0 f0_1 f0_2 f0_3 y0_0 y0_1 y0_2 y0_3 f1_0 f1_1 y1_0 y1_1
 obtain ⟨f0_0,f0_1,f0_2,f0_3,y0_0,y0_1,y0_2,y0_3⟩:=bx4 X0
 obtain ⟨f1_0,f1_1,y1_0,y1_1⟩:=bx2 X1
 obtain ⟨f2_0,f2_1,y2_0,y2_1⟩:=bx2 X2
 go_wp2_with fail
 rw [rounds_succ]
 go_upto_region 7 with fail
 obtain ⟨W3,hW3⟩:∃ W:World,W = ((W2.setCell ⟨W1.heap.size,0,none⟩ (.float .f64 (fmn p r))).setCell ⟨W1.heap.size,1,none⟩ (.float .f64 (fmx q s))).alloc (.cells #[.float .f64 r,.float .f64 s] 28):=⟨_,rfl⟩
 rw [<- hW3]
 replace X0:W3.heap[g]? = some (.cells #[.float .f64 p,.float .f64 q,.float .f64 r,.float .f64 s] 28 (0,0)):=by rw [hW3]; exact ((heap_alloc_old _ _ (by first | omega | (simp <;> omega))).trans (set_other (set_other X0 oM _) oM _))
 replace X1:W3.heap[w.heap.size]? = some (.cells #[.float .f64 0,.float .f64 0] 28 (0,0)):=by rw [hW3]; exact ((heap_alloc_old _ _ (by first | omega | (simp <;> omega))).trans (set_other (set_other X1 oM _) oM _))
 replace X2:W3.heap[W1.heap.size]? = some (.cells #[.float .f64 (fmn p r),.float .f64 (fmx q s)] 28 (0,0)):=by rw [hW3]; exact ((heap_alloc_old _ _ (by first | omega | (simp <;> omega))).trans (set_same (set_same X2 _) _))
 have X3:W3.heap[W2.heap.size]? = some (.cells #[.float .f64 r,.float .f64 s] 28 (0,0)):=by rw [hW3]; exact (alloc_at sP)
 have q0_3:g < W2.heap.size:=oM
 have q1_3:w.heap.size < W2.heap.size:=oM
 have q2_3:W1.heap.size < W2.heap.size:=oM
 replace z0:g < W3.heap.size:=by rw [hW3]; simp <;> omega
 replace z1:w.heap.size < W3.heap.size:=by rw [hW3]; simp <;> omega
 replace z2:W1.heap.size < W3.heap.size:=by rw [hW3]; simp <;> omega
 have z3:W2.heap.size < W3.heap.size:=by rw [hW3]; simp <;> omega
 replace B:Below w.heap.size w W3:=by rw [hW3]; exact (bT (Below.setCell (p:=⟨W1.heap.size,1,none⟩) (Below.setCell (p:=⟨W1.heap.size,0,none⟩) B (show w.heap.size <= W1.heap.size by omega) _) (show w.heap.size <= W1.heap.size by omega) _) (below_alloc _ _))
 clear hW3
 clear f0_0 f0_1 f0_2 f0_3 y0_0 y0_1 y0_2 y0_3 f1_0 f1_1 y1_0 y1_1 f2_0 f2_1 y2_0 y2_1
 obtain ⟨f0_0,f0_1,f0_2,f0_3,y0_0,y0_1,y0_2,y0_3⟩:=bx4 X0
 obtain ⟨f1_0,f1_1,y1_0,y1_1⟩:=bx2 X1
 obtain ⟨f2_0,f2_1,y2_0,y2_1⟩:=bx2 X2
 obtain ⟨f3_0,f3_1,y3_0,y3_1⟩:=bx2 X3
 go_wp2
 refine bodyPost_ret (v:=.agg #[.float .f64 (fmn p r),.float .f64 (fmx q s)]) (by simp [results,Tryz.results60,go_sem,f0_0,f0_1,f0_2,f0_3,y0_0,y0_1,y0_2,y0_3,f1_0,f1_1,y1_0,y1_1,f2_0,f2_1,y2_0,y2_1,f3_0,f3_1,y3_0,y3_1]) rfl ?_
 exact ⟨rfl,(Below.setCell (p:=⟨w.heap.size,1,none⟩) (Below.setCell (p:=⟨w.heap.size,0,none⟩) B (show w.heap.size <= w.heap.size by omega) _) (show w.heap.size <= w.heap.size by omega) _)⟩
theorem meet_0 (p q r s:Nat) (hp:FB p) (hq:FB q) (hr:FB r) (hs:FB s) (hg:(FloatKind.f64.format.order (fmx p r) (fmn q s) == some Ordering.gt) = false) (w:World):Calls Tryz.prog 74 #[.agg #[.float .f64 p,.float .f64 q],.agg #[.float .f64 r,.float .f64 s]] w fun e w'=>e = .returned (.tuple #[.agg #[.float .f64 (fmx p r),.float .f64 (fmn q s)],.bool true]) /\ Below w.heap.size w w':=by
 have hfb:=floatbits_run
 have hsf:=store_float
 have k0:∀ W,(Builtin.max_ #[26,26] 26 #[.float .f64 p,.float .f64 r]).run Tryz.prog W = .ok (.float .f64 (fmx p r)) W:=fun W=>fmx_run hp hr W
 have k1:∀ W,(Builtin.min_ #[26,26] 26 #[.float .f64 q,.float .f64 s]).run Tryz.prog W = .ok (.float .f64 (fmn q s)) W:=fun W=>fmn_run hq hs W
 go_enter Tryz.func74,Tryz.ntmps74
 go_upto_region 1 with fail
 obtain ⟨W1,hW1⟩:∃ W:World,W = ((w.alloc (.cells #[.float .f64 p,.float .f64 q] 28)).alloc (.cells #[.float .f64 r,.float .f64 s] 28)).alloc (.cells #[.float .f64 0,.float .f64 0] 28):=⟨_,rfl⟩
 rw [<- hW1]
 have X0:W1.heap[w.heap.size]? = some (.cells #[.float .f64 p,.float .f64 q] 28 (0,0)):=by rw [hW1]; exact ((heap_alloc_old _ _ (by first | omega | (simp <;> omega))).trans ((heap_alloc_old _ _ (by first | omega | (simp <;> omega))).trans (alloc_at sP)))
 have X1:W1.heap[w.heap.size + 1]? = some (.cells #[.float .f64 r,.float .f64 s] 28 (0,0)):=by rw [hW1]; exact ((heap_alloc_old _ _ (by first | omega | (simp <;> omega))).trans (alloc_at sP))
 have X2:W1.heap[w.heap.size + 2]? = some (.cells #[.float .f64 0,.float .f64 0] 28 (0,0)):=by rw [hW1]; exact (alloc_at sP)
 have z0:w.heap.size < W1.heap.size:=by rw [hW1]; simp <;> omega
 have z1:w.heap.size + 1 < W1.heap.size:=by rw [hW1]; simp <;> omega
 have z2:w.heap.size + 2 < W1.heap.size:=by rw [hW1]; simp <;> omega
 have B:Below w.heap.size w W1:=by rw [hW1]; exact (bT (bT (bT (Below.refl w.heap.size w) (below_alloc _ _)) (below_alloc _ _)) (below_alloc _ _))
 clear hW1
 obtain ⟨f0_0,f0_1,y0_0,y0_1⟩:=bx2 X0
 obtain ⟨f1_0,f1_1,y1_0,y1_1⟩:=bx2 X1
 obtain ⟨f2_0,f2_1,y2_0,y2_1⟩:=bx2 X2
 refine region_lin [.val (kIs (.pointer (some ⟨w.heap.size,0,none⟩))),.val (kIs (.float .f64 p)),.val (kIs (.pointer (some ⟨w.heap.size + 1,0,none⟩))),.val (kIs (.float .f64 r)),.val (kIs (.float .f64 (fmx p r))),.val (kIs (.pointer (some ⟨w.heap.size,1,none⟩))),.val (kIs (.float .f64 q)),.val (kIs (.pointer (some ⟨w.heap.size + 1,1,none⟩))),.val (kIs (.float .f64 s)),.val (kIs (.float .f64 (fmn q s))),.val (kIs (.float .f64 (fmx p r))),.val (kIs (.float .f64 (fmn q s)))]
  kR kR kR kR kR ⟨Stab.b (stab_is _),Stab.b (stab_is _),Stab.b (stab_is _),Stab.b (stab_is _),Stab.b (stab_is _),Stab.b (stab_is _),Stab.b (stab_is _),Stab.b (stab_is _),Stab.b (stab_is _),Stab.b (stab_is _),Stab.b (stab_is _),Stab.b (stab_is _),trivial⟩ sP ⟨?_,?_,?_,?_,?_,?_,?_,?_,?_,?_,?_,?_,trivial⟩ ?_
 ·exact obq
 ·intro ts W hb hB hp; have h0:ts 0 = _:=hp 0 kR; intro K hK; simp only [fillT,zA,Nat.reduceAdd,sA,sB,sC,h0] at hK ⊢; have HK:=hid hK; clear hK hp; obtain ⟨p0,p1,-,-⟩:=bx2 ((hb.block _ z0).trans X0); refine ⟨?_⟩; go_simp; exact HK.out _ _ kk rfB
 ·exact obq
 ·intro ts W hb hB hp; have h2:ts 2 = _:=hp 2 kR; intro K hK; simp only [fillT,zA,Nat.reduceAdd,sA,sB,sC,h2] at hK ⊢; have HK:=hid hK; clear hK hp; obtain ⟨p0,p1,-,-⟩:=bx2 ((hb.block _ z1).trans X1); refine ⟨?_⟩; go_simp; exact HK.out _ _ kk rfB
 ·intro ts W hb hB hp; have h1:ts 1 = _:=hp 1 kR; have h3:ts 3 = _:=hp 3 kR; intro K hK; simp only [fillT,zA,Nat.reduceAdd,sA,sB,sC,h1,h3] at hK ⊢; have HK:=hid hK; clear hK hp; refine ⟨?_⟩; go_simp; exact HK.out _ _ kk rfB
 ·exact obq
 ·intro ts W hb hB hp; have h5:ts 5 = _:=hp 5 kR; intro K hK; simp only [fillT,zA,Nat.reduceAdd,sA,sB,sC,h5] at hK ⊢; have HK:=hid hK; clear hK hp; obtain ⟨p0,p1,-,-⟩:=bx2 ((hb.block _ z0).trans X0); refine ⟨?_⟩; go_simp; exact HK.out _ _ kk rfB
 ·exact obq
 ·intro ts W hb hB hp; have h7:ts 7 = _:=hp 7 kR; intro K hK; simp only [fillT,zA,Nat.reduceAdd,sA,sB,sC,h7] at hK ⊢; have HK:=hid hK; clear hK hp; obtain ⟨p0,p1,-,-⟩:=bx2 ((hb.block _ z1).trans X1); refine ⟨?_⟩; go_simp; exact HK.out _ _ kk rfB
 ·intro ts W hb hB hp; have h6:ts 6 = _:=hp 6 kR; have h8:ts 8 = _:=hp 8 kR; intro K hK; simp only [fillT,zA,Nat.reduceAdd,sA,sB,sC,h6,h8] at hK ⊢; have HK:=hid hK; clear hK hp; refine ⟨?_⟩; go_simp; exact HK.out _ _ kk rfB
 ·intro ts W hb hB hp; have h4:ts 4 = _:=hp 4 kR; intro K hK; simp only [fillT,zA,Nat.reduceAdd,sA,sB,sC,h4] at hK ⊢; have HK:=hid hK; clear hK hp; refine ⟨?_⟩; go_simp; exact HK.out _ _ kk rfB
 ·intro ts W hb hB hp; have h9:ts 9 = _:=hp 9 kR; intro K hK; simp only [fillT,zA,Nat.reduceAdd,sA,sB,sC,h9] at hK ⊢; have HK:=hid hK; clear hK hp; refine ⟨?_⟩; go_simp; exact HK.out _ _ kk rfB
 intro ts W2 hb2 hh hap
 have e0:=held_is (hh 0 sP) rfl
 have e1:=held_is (hh 1 sP) rfl
 have e2:=held_is (hh 2 sP) rfl
 have e3:=held_is (hh 3 sP) rfl
 have e4:=held_is (hh 4 sP) rfl
 have e5:=held_is (hh 5 sP) rfl
 have e6:=held_is (hh 6 sP) rfl
 have e7:=held_is (hh 7 sP) rfl
 have e8:=held_is (hh 8 sP) rfl
 have e9:=held_is (hh 9 sP) rfl
 have e10:=held_is (hh 10 sP) rfl
 have e11:=held_is (hh 11 sP) rfl
 simp only [fillT,zA,Nat.reduceAdd,sA,sB,sC,e0,e1,e2,e3,e4,e5,e6,e7,e8,e9,e10,e11]
 clear hh hap e0 e1 e2 e3 e4 e5 e6 e7 e8 e9 e10 e11
 replace X0:=(hb2.block _ z0).trans X0
 replace z0:=lL z0 hb2.size
 replace X1:=(hb2.block _ z1).trans X1
 replace z1:=lL z1 hb2.size
 replace X2:=(hb2.block _ z2).trans X2
 replace z2:=lL z2 hb2.size
 replace B:=bT B hb2
 clear hb2
 clear f0_0 f0_1 y0_0 y0_1 f1_0 f1_1 y1_0 y1_1 f2_0 f2_1 y2_0 y2_1
 obtain ⟨f0_0,f0_1,y0_0,y0_1⟩:=bx2 X0
 obtain ⟨f1_0,f1_1,y1_0,y1_1⟩:=bx2 X1
 obtain ⟨f2_0,f2_1,y2_0,y2_1⟩:=bx2 X2
 go_wp2
 refine bodyPost_ret (v:=.tuple #[.agg #[.float .f64 (fmx p r),.float .f64 (fmn q s)],.bool true]) (by simp [results,Tryz.results74,go_sem,f0_0,f0_1,y0_0,y0_1,f1_0,f1_1,y1_0,y1_1,f2_0,f2_1,y2_0,y2_1]) rfl ?_
 exact ⟨rfl,(Below.setCell (p:=⟨w.heap.size + 2,1,none⟩) (Below.setCell (p:=⟨w.heap.size + 2,0,none⟩) B (show w.heap.size <= w.heap.size + 2 by omega) _) (show w.heap.size <= w.heap.size + 2 by omega) _)⟩
theorem meet_1 (p q r s:Nat) (hp:FB p) (hq:FB q) (hr:FB r) (hs:FB s) (hg:(FloatKind.f64.format.order (fmx p r) (fmn q s) == some Ordering.gt) = true) (w:World):Calls Tryz.prog 74 #[.agg #[.float .f64 p,.float .f64 q],.agg #[.float .f64 r,.float .f64 s]] w fun e w'=>e = .returned (.tuple #[.agg #[.float .f64 0,.float .f64 0],.bool false]) /\ Below w.heap.size w w':=by
 have hfb:=floatbits_run
 have hsf:=store_float
 have k0:∀ W,(Builtin.max_ #[26,26] 26 #[.float .f64 p,.float .f64 r]).run Tryz.prog W = .ok (.float .f64 (fmx p r)) W:=fun W=>fmx_run hp hr W
 have k1:∀ W,(Builtin.min_ #[26,26] 26 #[.float .f64 q,.float .f64 s]).run Tryz.prog W = .ok (.float .f64 (fmn q s)) W:=fun W=>fmn_run hq hs W
 go_enter Tryz.func74,Tryz.ntmps74
 go_upto_region 1 with fail
 obtain ⟨W1,hW1⟩:∃ W:World,W = ((w.alloc (.cells #[.float .f64 p,.float .f64 q] 28)).alloc (.cells #[.float .f64 r,.float .f64 s] 28)).alloc (.cells #[.float .f64 0,.float .f64 0] 28):=⟨_,rfl⟩
 rw [<- hW1]
 have X0:W1.heap[w.heap.size]? = some (.cells #[.float .f64 p,.float .f64 q] 28 (0,0)):=by rw [hW1]; exact ((heap_alloc_old _ _ (by first | omega | (simp <;> omega))).trans ((heap_alloc_old _ _ (by first | omega | (simp <;> omega))).trans (alloc_at sP)))
 have X1:W1.heap[w.heap.size + 1]? = some (.cells #[.float .f64 r,.float .f64 s] 28 (0,0)):=by rw [hW1]; exact ((heap_alloc_old _ _ (by first | omega | (simp <;> omega))).trans (alloc_at sP))
 have X2:W1.heap[w.heap.size + 2]? = some (.cells #[.float .f64 0,.float .f64 0] 28 (0,0)):=by rw [hW1]; exact (alloc_at sP)
 have z0:w.heap.size < W1.heap.size:=by rw [hW1]; simp <;> omega
 have z1:w.heap.size + 1 < W1.heap.size:=by rw [hW1]; simp <;> omega
 have z2:w.heap.size + 2 < W1.heap.size:=by rw [hW1]; simp <;> omega
 have B:Below w.heap.size w W1:=by rw [hW1]; exact (bT (bT (bT (Below.refl w.heap.size w) (below_alloc _ _)) (below_alloc _ _)) (below_alloc _ _))
 clear hW1
 obtain ⟨f0_0,f0_1,y0_0,y0_1⟩:=bx2 X0
 obtain ⟨f1_0,f1_1,y1_0,y1_1⟩:=bx2 X1
 obtain ⟨f2_0,f2_1,y2_0,y2_1⟩:=bx2 X2
 refine region_lin [.val (kIs (.pointer (some ⟨w.heap.size,0,none⟩))),.val (kIs (.float .f64 p)),.val (kIs (.pointer (some ⟨w.heap.size + 1,0,none⟩))),.val (kIs (.float .f64 r)),.val (kIs (.float .f64 (fmx p r))),.val (kIs (.pointer (some ⟨w.heap.size,1,none⟩))),.val (kIs (.float .f64 q)),.val (kIs (.pointer (some ⟨w.heap.size + 1,1,none⟩))),.val (kIs (.float .f64 s)),.val (kIs (.float .f64 (fmn q s))),.val (kIs (.float .f64 (fmx p r))),.val (kIs (.float .f64 (fmn q s)))]
  kR kR kR kR kR ⟨Stab.b (stab_is _),Stab.b (stab_is _),Stab.b (stab_is _),Stab.b (stab_is _),Stab.b (stab_is _),Stab.b (stab_is _),Stab.b (stab_is _),Stab.b (stab_is _),Stab.b (stab_is _),Stab.b (stab_is _),Stab.b (stab_is _),Stab.b (stab_is _),trivial⟩ sP ⟨?_,?_,?_,?_,?_,?_,?_,?_,?_,?_,?_,?_,trivial⟩ ?_
 ·exact obq
 ·intro ts W hb hB hp; have h0:ts 0 = _:=hp 0 kR; intro K hK; simp only [fillT,zA,Nat.reduceAdd,sA,sB,sC,h0] at hK ⊢; have HK:=hid hK; clear hK hp; obtain ⟨p0,p1,-,-⟩:=bx2 ((hb.block _ z0).trans X0); refine ⟨?_⟩; go_simp; exact HK.out _ _ kk rfB
 ·exact obq
 ·intro ts W hb hB hp; have h2:ts 2 = _:=hp 2 kR; intro K hK; simp only [fillT,zA,Nat.reduceAdd,sA,sB,sC,h2] at hK ⊢; have HK:=hid hK; clear hK hp; obtain ⟨p0,p1,-,-⟩:=bx2 ((hb.block _ z1).trans X1); refine ⟨?_⟩; go_simp; exact HK.out _ _ kk rfB
 ·intro ts W hb hB hp; have h1:ts 1 = _:=hp 1 kR; have h3:ts 3 = _:=hp 3 kR; intro K hK; simp only [fillT,zA,Nat.reduceAdd,sA,sB,sC,h1,h3] at hK ⊢; have HK:=hid hK; clear hK hp; refine ⟨?_⟩; go_simp; exact HK.out _ _ kk rfB
 ·exact obq
 ·intro ts W hb hB hp; have h5:ts 5 = _:=hp 5 kR; intro K hK; simp only [fillT,zA,Nat.reduceAdd,sA,sB,sC,h5] at hK ⊢; have HK:=hid hK; clear hK hp; obtain ⟨p0,p1,-,-⟩:=bx2 ((hb.block _ z0).trans X0); refine ⟨?_⟩; go_simp; exact HK.out _ _ kk rfB
 ·exact obq
 ·intro ts W hb hB hp; have h7:ts 7 = _:=hp 7 kR; intro K hK; simp only [fillT,zA,Nat.reduceAdd,sA,sB,sC,h7] at hK ⊢; have HK:=hid hK; clear hK hp; obtain ⟨p0,p1,-,-⟩:=bx2 ((hb.block _ z1).trans X1); refine ⟨?_⟩; go_simp; exact HK.out _ _ kk rfB
 ·intro ts W hb hB hp; have h6:ts 6 = _:=hp 6 kR; have h8:ts 8 = _:=hp 8 kR; intro K hK; simp only [fillT,zA,Nat.reduceAdd,sA,sB,sC,h6,h8] at hK ⊢; have HK:=hid hK; clear hK hp; refine ⟨?_⟩; go_simp; exact HK.out _ _ kk rfB
 ·intro ts W hb hB hp; have h4:ts 4 = _:=hp 4 kR; intro K hK; simp only [fillT,zA,Nat.reduceAdd,sA,sB,sC,h4] at hK ⊢; have HK:=hid hK; clear hK hp; refine ⟨?_⟩; go_simp; exact HK.out _ _ kk rfB
 ·intro ts W hb hB hp; have h9:ts 9 = _:=hp 9 kR; intro K hK; simp only [fillT,zA,Nat.reduceAdd,sA,sB,sC,h9] at hK ⊢; have HK:=hid hK; clear hK hp; refine ⟨?_⟩; go_simp; exact HK.out _ _ kk rfB
 intro ts W2 hb2 hh hap
 have e0:=held_is (hh 0 sP) rfl
 have e1:=held_is (hh 1 sP) rfl
 have e2:=held_is (hh 2 sP) rfl
 have e3:=held_is (hh 3 sP) rfl
 have e4:=held_is (hh 4 sP) rfl
 have e5:=held_is (hh 5 sP) rfl
 have e6:=held_is (hh 6 sP) rfl
 have e7:=held_is (hh 7 sP) rfl
 have e8:=held_is (hh 8 sP) rfl
 have e9:=held_is (hh 9 sP) rfl
 have e10:=held_is (hh 10 sP) rfl
 have e11:=held_is (hh 11 sP) rfl
 simp only [fillT,zA,Nat.reduceAdd,sA,sB,sC,e0,e1,e2,e3,e4,e5,e6,e7,e8,e9,e10,e11]
 clear hh hap e0 e1 e2 e3 e4 e5 e6 e7 e8 e9 e10 e11
 replace X0:=(hb2.block _ z0).trans X0
 replace z0:=lL z0 hb2.size
 replace X1:=(hb2.block _ z1).trans X1
 replace z1:=lL z1 hb2.size
 replace X2:=(hb2.block _ z2).trans X2
 replace z2:=lL z2 hb2.size
 replace B:=bT B hb2
 clear hb2
 clear f0_0 f0_1 y0_0 y0_1 f1_0 f1_1 y1_0 y1_1 f2_0 f2_1 y2_0 y2_1
 obtain ⟨f0_0,f0_1,y0_0,y0_1⟩:=bx2 X0
 obtain ⟨f1_0,f1_1,y1_0,y1_1⟩:=bx2 X1
 obtain ⟨f2_0,f2_1,y2_0,y2_1⟩:=bx2 X2
 go_wp2
 refine bodyPost_ret (v:=.tuple #[.agg #[.float .f64 0,.float .f64 0],.bool false]) (by simp [results,Tryz.results74,go_sem,f0_0,f0_1,y0_0,y0_1,f1_0,f1_1,y1_0,y1_1,f2_0,f2_1,y2_0,y2_1]) rfl ?_
 exact ⟨rfl,(Below.setCell (p:=⟨w.heap.size + 2,1,none⟩) (Below.setCell (p:=⟨w.heap.size + 2,0,none⟩) B (show w.heap.size <= w.heap.size + 2 by omega) _) (show w.heap.size <= w.heap.size + 2 by omega) _)⟩
end Go.Proofs.YtjodlmanheeajaaGreatDoor
