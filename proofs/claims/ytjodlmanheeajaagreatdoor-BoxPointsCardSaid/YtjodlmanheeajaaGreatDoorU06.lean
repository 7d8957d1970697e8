import Derived.Test.YtjodlmanheeajaaGreatDoorR15
import Derived.Test.YtjodlmanheeajaaGreatDoorU01
import Derived.Test.YtjodlmanheeajaaGreatDoorR41
import Derived.Test.YtjodlmanheeajaaGreatDoorR42
import Derived.Test.YtjodlmanheeajaaGreatDoorU05
import Derived.Test.YtjodlmanheeajaaGreatDoorU02
import Derived.Test.YtjodlmanheeajaaGreatDoorU04
import Derived.Test.YtjodlmanheeajaaGreatDoorR02
set_option linter.unusedVariables false
set_option linter.unusedSimpArgs false
set_option maxRecDepth 100000
set_option maxHeartbeats 8000000
namespace Go.Proofs.YtjodlmanheeajaaGreatDoor
open Go.RowKit
theorem bx3 {W:World} {g:Nat} {T:TypeId} {v0 v1 v2:Value} (h:W.heap[g]? = some (.cells #[v0,v1,v2] T (0,0))) :
  W.cell? ⟨g,0,none⟩ = some v0 /\ W.cell? ⟨g,1,none⟩ = some v1 /\ W.cell? ⟨g,2,none⟩ = some v2 /\ W.frozen? ⟨g,0,none⟩ = false /\ W.frozen? ⟨g,1,none⟩ = false /\ W.frozen? ⟨g,2,none⟩ = false:=by
 simp [World.cell?,World.frozen?,h]
section
variable {P:Program} {ops:Array Oper} {kl:List RK} {B:Nat} {w0:World} {a0:Act} {o:Oper} {i:Nat}
theorem wp_val {P:Program} {o:Oper} {a:Act} {w:World} {K:Act -> World -> Prop} {Q:Exit -> Act -> World -> Prop} {r:Value} (h:(execOp a.eval o).run P w = .ok (.value r) w) (hK:K (a.put o.dst r) w):o.wp P a w K Q:=by
 unfold Oper.wp
 rw [h]
 exact hK
theorem uLd {T:TypeId} {x:Operand} {u r:Value} (ho:o.op = .load T x) (hx:Kn ops kl a0 i x (fun _=>u)) (hr:∀ W,Below B w0 W -> (Instr.loadAt T u).run P W = .ok r W):ObU P ops kl B w0 a0 o i (kIs r) :=
 fun ts W a ha hb hB hp K hK=>⟨wp_val (by unfold execOp; simp only [ho,hx ts W a ha hp,Sem.run_bind,hr W hb,Sem.run_pure,Result.andThen_ok]) (hK _ _ rfl rfB)⟩
theorem uFa {T:TypeId} {x:Operand} {k:Nat} {u r:Value} (ho:o.op = .fieldAddr T x k) (hx:Kn ops kl a0 i x (fun _=>u)) (hr:∀ W,(Instr.fieldAt T u k).run P W = .ok r W):ObU P ops kl B w0 a0 o i (kIs r) :=
 fun ts W a ha hb hB hp K hK=>⟨wp_val (by unfold execOp; simp only [ho,hx ts W a ha hp,Sem.run_bind,hr W,Sem.run_pure,Result.andThen_ok]) (hK _ _ rfl rfB)⟩
theorem uBd {T:TypeId} {x y:Operand} {u v r:Value} (ho:o.op = .build T #[(0,x),(1,y)]) (hx:Kn ops kl a0 i x (fun _=>u)) (hy:Kn ops kl a0 i y (fun _=>v)) (hr:∀ W,(Instr.build T #[(0,u),(1,v)]).run P W = .ok r W):ObU P ops kl B w0 a0 o i (kIs r) :=
 fun ts W a ha hb hB hp K hK=>⟨wp_val (by unfold execOp; simp only [ho,List.map_toArray,List.map_cons,List.map_nil,hx ts W a ha hp,hy ts W a ha hp,Sem.run_bind,hr W,Sem.run_pure,Result.andThen_ok]) (hK _ _ rfl rfB)⟩
end
def GvB (w:World) (f:FuncId) (xs:Array Value) (v:Value):Prop:=∀ W,Below w.heap.size w W -> Calls Tryz.prog f xs W fun e w'=>e = .returned v /\ Below W.heap.size W w'
theorem spanHas_0 (w:World) (p q:Nat) (P0:Option Addr) (p0 c0:Nat) (s0:Bool) (Q0:Option Addr) (q0 d0:Nat) (t0:Bool) (R0:Option Addr) (r0 e0:Nat) (HR:Hid (GvB w 59 #[.agg #[.slice P0 p0 c0,.bool s0,.slice Q0 q0 d0,.bool t0,.slice R0 r0 e0]] (.bool false))):Calls Tryz.prog 21 #[.agg #[.float .f64 p,.float .f64 q],.agg #[.slice P0 p0 c0,.bool s0,.slice Q0 q0 d0,.bool t0,.slice R0 r0 e0]] w fun e w'=>e = .returned (.bool false) /\ Below w.heap.size w w':=by
 have hfb:=floatbits_run
 have hsf:=store_float
 go_enter Tryz.func21,Tryz.ntmps21
 go_upto_region 1 with fail
 obtain ⟨W1,hW1⟩:∃ W:World,W = (w.alloc (.cells #[.float .f64 p,.float .f64 q] 28)).alloc (.cells #[.slice P0 p0 c0,.bool s0,.slice Q0 q0 d0,.bool t0,.slice R0 r0 e0] 49):=⟨_,rfl⟩
 rw [<- hW1]
 have A0:HAt W1 (w.heap.size) #[.float .f64 p,.float .f64 q] 28:=by rw [hW1]; exact (HAt.new sP).up
 have A1:HAt W1 (w.heap.size + 1) #[.slice P0 p0 c0,.bool s0,.slice Q0 q0 d0,.bool t0,.slice R0 r0 e0] 49:=by rw [hW1]; exact (HAt.new sP)
 have B:Below w.heap.size w W1:=by rw [hW1]; exact (bT (bT (Below.refl w.heap.size w) (below_alloc _ _)) (below_alloc _ _))
 clear hW1
 refine region_litA [.val (kIs (.agg #[.slice P0 p0 c0,.bool s0,.slice Q0 q0 d0,.bool t0,.slice R0 r0 e0])),.val (kIs (.bool false)),.val (kIs (.bool false)),.val (kIs (undef)),.val (kIs (undef)),.val (kIs (undef)),.val (kIs (undef)),.val (kIs (.bool false)),.val (kIs (.bool false))]
  ?fl1 ?hfl1 kR kR kR kR kR ⟨Stab.b (stab_is _),Stab.b (stab_is _),Stab.b (stab_is _),Stab.b (stab_is _),Stab.b (stab_is _),Stab.b (stab_is _),Stab.b (stab_is _),Stab.b (stab_is _),Stab.b (stab_is _),trivial⟩ sP ⟨obN (uLr rfl .fr (fun W hb=>A1.ld hb) Tryz.underlying49),obN (uC1 rfl (.is 0) (fun _ W hb h=>cIs (HR.out W (bT B hb)))),obN (uMv 1),obZ 2,obZ 2,obZ 2,obZ 2,obN (uPf rfl (.is 2) .k),obN (uAs 7),trivial⟩ ?_
 case hfl1=>intro ts; simp only [fillT,zA,Nat.reduceAdd,sA,sB,sC]; rfl
 intro ts W2 hb2 hh hap
 have e8:=held_is (hh 8 sP) rfl
 simp only [e8]
 clear hh hap e8
 clear A0 A1
 replace B:=bT B hb2
 clear hb2
 go_wp2
 go_ret
 exact ⟨rfl,B⟩
theorem spanHas_1 (w:World) (p q r s:Nat) (i:Bool) (P0:Option Addr) (p0 c0:Nat) (s0:Bool) (Q0:Option Addr) (q0 d0:Nat) (t0:Bool) (R0:Option Addr) (r0 e0:Nat) (HR:Hid (GvB w 59 #[.agg #[.slice P0 p0 c0,.bool s0,.slice Q0 q0 d0,.bool t0,.slice R0 r0 e0]] (.bool true))) (HA:Hid (GvB w 61 #[.agg #[.slice P0 p0 c0,.bool s0,.slice Q0 q0 d0,.bool t0,.slice R0 r0 e0]] (.agg #[.float .f64 r,.float .f64 s]))) (HI:Hid (GvB w 14 #[.agg #[.float .f64 r,.float .f64 s],.agg #[.float .f64 p,.float .f64 q]] (.bool i))):Calls Tryz.prog 21 #[.agg #[.float .f64 p,.float .f64 q],.agg #[.slice P0 p0 c0,.bool s0,.slice Q0 q0 d0,.bool t0,.slice R0 r0 e0]] w fun e w'=>e = .returned (.bool i) /\ Below w.heap.size w w':=by
 have hfb:=floatbits_run
 have hsf:=store_float
 go_enter Tryz.func21,Tryz.ntmps21
 go_upto_region 1 with fail
 obtain ⟨W1,hW1⟩:∃ W:World,W = (w.alloc (.cells #[.float .f64 p,.float .f64 q] 28)).alloc (.cells #[.slice P0 p0 c0,.bool s0,.slice Q0 q0 d0,.bool t0,.slice R0 r0 e0] 49):=⟨_,rfl⟩
 rw [<- hW1]
 have A0:HAt W1 (w.heap.size) #[.float .f64 p,.float .f64 q] 28:=by rw [hW1]; exact (HAt.new sP).up
 have A1:HAt W1 (w.heap.size + 1) #[.slice P0 p0 c0,.bool s0,.slice Q0 q0 d0,.bool t0,.slice R0 r0 e0] 49:=by rw [hW1]; exact (HAt.new sP)
 have B:Below w.heap.size w W1:=by rw [hW1]; exact (bT (bT (Below.refl w.heap.size w) (below_alloc _ _)) (below_alloc _ _))
 clear hW1
 refine region_litA [.val (kIs (.agg #[.slice P0 p0 c0,.bool s0,.slice Q0 q0 d0,.bool t0,.slice R0 r0 e0])),.val (kIs (.bool true)),.val (kIs (.bool true)),.val (kIs (.agg #[.slice P0 p0 c0,.bool s0,.slice Q0 q0 d0,.bool t0,.slice R0 r0 e0])),.val (kIs (.agg #[.float .f64 r,.float .f64 s])),.val (kIs (.agg #[.float .f64 p,.float .f64 q])),.val (kIs (.bool i)),.val (kIs (.bool i)),.val (kIs (.bool i))]
  ?fl2 ?hfl2 kR kR kR kR kR ⟨Stab.b (stab_is _),Stab.b (stab_is _),Stab.b (stab_is _),Stab.b (stab_is _),Stab.b (stab_is _),Stab.b (stab_is _),Stab.b (stab_is _),Stab.b (stab_is _),Stab.b (stab_is _),trivial⟩ sP ⟨obN (uLr rfl .fr (fun W hb=>A1.ld hb) Tryz.underlying49),obN (uC1 rfl (.is 0) (fun _ W hb h=>cIs (HR.out W (bT B hb)))),obN (uMv 1),obG 2 (uLr rfl .fr (fun W hb=>A1.ld hb) Tryz.underlying49),obG 2 (uC1 rfl (.is 3) (fun _ W hb h=>cIs (HA.out W (bT B hb)))),obG 2 (uLr rfl .fr (fun W hb=>A0.ld hb) Tryz.underlying28),obG 2 (uC2 rfl (.is 4) (.is 5) (fun _ W hb h=>cIs (HI.out W (bT B hb)))),obN (uPt rfl (.is 2) (.is 6)),obN (uAs 7),trivial⟩ ?_
 case hfl2=>intro ts; simp only [fillT,zA,Nat.reduceAdd,sA,sB,sC]; rfl
 intro ts W2 hb2 hh hap
 have e8:=held_is (hh 8 sP) rfl
 simp only [e8]
 clear hh hap e8
 clear A0 A1
 replace B:=bT B hb2
 clear hb2
 go_wp2
 go_ret
 exact ⟨rfl,B⟩
theorem spanHas_any (s:Sp) (v:Value) (x:Cx) (a b:Int) (d:Nat) (w:World) (h:IsNum w v x) (hx:Low x a b d) (sa:wl a.natAbs < 268435456) (sd:wl d < 268435456) :
  Calls Tryz.prog 21 #[s.v,v] w fun e w'=>e = .returned (.bool (decide (x.im = 0) && (arS a d).within s)) /\ Below w.heap.size w w':=by
 have HR:=fun W (hb:Below w.heap.size w W)=>real_any v x W (h.below hb)
 have HA:=fun W (hb:Below w.heap.size w W)=>around_any v x a b d _ _ W (h.below hb) hx sa sd rfl rfl
 obtain ⟨P0,p0,c0,s0,Q0,q0,d0,t0,R0,r0,e0,-,-,-,rfl,-⟩:=h.parts
 cases hi:decide (x.im = 0)
 ·rw [hi] at HR
  exact spanHas_0 w _ _ _ _ _ _ _ _ _ _ _ _ _ (hid HR)
 ·rw [hi] at HR
  exact spanHas_1 w _ _ _ _ _ _ _ _ _ _ _ _ _ _ _ _ (hid HR) (hid HA) (hid fun W _=>in_any _ _ _ _ W)
theorem boxOf_raw (w:World) (b:Bx) (x:Cx) (r s r2 s2:Nat) (P0:Option Addr) (p0 c0:Nat) (s0:Bool) (Q0:Option Addr) (q0 d0:Nat) (t0:Bool) (R0:Option Addr) (r0 e0:Nat) (HA:Hid (GvB w 61 #[.agg #[.slice P0 p0 c0,.bool s0,.slice Q0 q0 d0,.bool t0,.slice R0 r0 e0]] (.agg #[.float .f64 r,.float .f64 s]))) (HM:Hid (∀ W,Below w.heap.size w W -> Calls Tryz.prog 76 #[.agg #[.slice P0 p0 c0,.bool s0,.slice Q0 q0 d0,.bool t0,.slice R0 r0 e0]] W (RetNum W x.imag))) (HA2:Hid (∀ W,Below w.heap.size w W -> ∀ v,IsNum W v x.imag -> Calls Tryz.prog 61 #[v] W fun e w'=>e = .returned (.agg #[.float .f64 r2,.float .f64 s2]) /\ Below W.heap.size W w')):Calls Tryz.prog 27 #[.agg #[.float .f64 b.re.lo,.float .f64 b.re.hi,.float .f64 b.im.lo,.float .f64 b.im.hi],.agg #[.slice P0 p0 c0,.bool s0,.slice Q0 q0 d0,.bool t0,.slice R0 r0 e0]] w fun e w'=>e = .returned (.agg #[.float .f64 r,.float .f64 s,.float .f64 r2,.float .f64 s2]) /\ Below w.heap.size w w':=by
 have hfb:=floatbits_run
 have hsf:=store_float
 go_enter Tryz.func27,Tryz.ntmps27
 go_upto_region 1 with fail
 obtain ⟨W1,hW1⟩:∃ W:World,W = ((w.alloc (.cells #[.float .f64 b.re.lo,.float .f64 b.re.hi,.float .f64 b.im.lo,.float .f64 b.im.hi] 65)).alloc (.cells #[.slice P0 p0 c0,.bool s0,.slice Q0 q0 d0,.bool t0,.slice R0 r0 e0] 49)).alloc (.cells #[.float .f64 0,.float .f64 0,.float .f64 0,.float .f64 0] 65):=⟨_,rfl⟩
 rw [<- hW1]
 have A1:HAt W1 (w.heap.size + 1) #[.slice P0 p0 c0,.bool s0,.slice Q0 q0 d0,.bool t0,.slice R0 r0 e0] 49:=by rw [hW1]; exact (HAt.new sP).up
 have A2:HAt W1 (w.heap.size + 2) #[.float .f64 0,.float .f64 0,.float .f64 0,.float .f64 0] 65:=by rw [hW1]; exact (HAt.new sP)
 have B:Below w.heap.size w W1:=by rw [hW1]; exact (bT (bT (bT (Below.refl w.heap.size w) (below_alloc _ _)) (below_alloc _ _)) (below_alloc _ _))
 clear hW1
 refine region_lastA [.val (kIs (.agg #[.slice P0 p0 c0,.bool s0,.slice Q0 q0 d0,.bool t0,.slice R0 r0 e0])),.val (kIs (.agg #[.float .f64 r,.float .f64 s])),.val (kIs (.agg #[.slice P0 p0 c0,.bool s0,.slice Q0 q0 d0,.bool t0,.slice R0 r0 e0])),.val (kNum (x.imag)),.val (kIs (.agg #[.float .f64 r2,.float .f64 s2])),.val (kIs (.agg #[.float .f64 r,.float .f64 s,.float .f64 r2,.float .f64 s2]))]
  ?fl3 ?hfl3 kR kR kR kR kR ⟨Stab.b (stab_is _),Stab.b (stab_is _),Stab.b (stab_is _),Stab.b (stab_num _),Stab.b (stab_is _),Stab.b (stab_is _),trivial⟩ sP (ol:=_) rfl kR ⟨obN (uLr rfl .fr (fun W hb=>A1.ld hb) Tryz.underlying49),obN (uC1 rfl (.is 0) (fun _ W hb h=>cIs (HA.out W (bT B hb)))),obN (uLr rfl .fr (fun W hb=>A1.ld hb) Tryz.underlying49),obN (uC1 rfl (.is 2) (fun _ W hb h=>HM.out W (bT B hb))),obN (uC1 rfl (.at 3) (fun _ W hb h=>cIs (HA2.out W (bT B hb) _ (pg 3 h)))),obN (uBd rfl (.is 1) (.is 4) (fun W=>sG)),trivial⟩ ?_
 case hfl3=>intro ts; simp only [fillT,zA,Nat.reduceAdd,sA,sB,sC]; rfl
 intro ts W2 a ha hb2 hh K hK
 have e5:=held_is (hh 5 sP) rfl
 replace A2:=A2.on hb2
 replace B:=bT B hb2
 refine ⟨wp_store_row _ _ _ rfl (w.heap.size + 2) #[.float .f64 r,.float .f64 s,.float .f64 r2,.float .f64 s2] ((ha 4).trans kR) ((ha 10).trans (Eq.trans kR e5)) _ _ A2.x kR rfl (by simp [Value.oneCell']) ⟨rfl,hK _ ?_⟩⟩
 have hput:=putAt_setRow (cs:=#[.float .f64 r,.float .f64 s,.float .f64 r2,.float .f64 s2]) A2.x
 replace B:=hput.below B oM
 generalize W2.setRow (w.heap.size + 2) #[.float .f64 r,.float .f64 s,.float .f64 r2,.float .f64 s2] = W3 at *
 obtain ⟨f2_0,f2_1,f2_2,f2_3,-,-,-,-⟩:=bx4 hput.here
 clear hput hK hh
 go_wp2
 refine bodyPost_ret (v:=.agg #[.float .f64 r,.float .f64 s,.float .f64 r2,.float .f64 s2]) (by simp [results,Tryz.results27,go_sem,f2_0,f2_1,f2_2,f2_3]) rfl ?_
 exact ⟨rfl,B⟩
theorem boxHas_0 (w:World) (b:Bx) (x:Cx) (P0:Option Addr) (p0 c0:Nat) (s0:Bool) (Q0:Option Addr) (q0 d0:Nat) (t0:Bool) (R0:Option Addr) (r0 e0:Nat) (HE:Hid (∀ W,Below w.heap.size w W -> Calls Tryz.prog 79 #[.agg #[.slice P0 p0 c0,.bool s0,.slice Q0 q0 d0,.bool t0,.slice R0 r0 e0]] W (RetNum W x.real))) (H1:Hid (∀ W,Below w.heap.size w W -> ∀ v,IsNum W v x.real -> Calls Tryz.prog 21 #[.agg #[.float .f64 b.re.lo,.float .f64 b.re.hi],v] W fun e w'=>e = .returned (.bool false) /\ Below W.heap.size W w')):Calls Tryz.prog 29 #[.agg #[.float .f64 b.re.lo,.float .f64 b.re.hi,.float .f64 b.im.lo,.float .f64 b.im.hi],.agg #[.slice P0 p0 c0,.bool s0,.slice Q0 q0 d0,.bool t0,.slice R0 r0 e0]] w fun e w'=>e = .returned (.bool false) /\ Below w.heap.size w w':=by
 have hfb:=floatbits_run
 have hsf:=store_float
 go_enter Tryz.func29,Tryz.ntmps29
 go_upto_region 1 with fail
 obtain ⟨W1,hW1⟩:∃ W:World,W = (w.alloc (.cells #[.float .f64 b.re.lo,.float .f64 b.re.hi,.float .f64 b.im.lo,.float .f64 b.im.hi] 65)).alloc (.cells #[.slice P0 p0 c0,.bool s0,.slice Q0 q0 d0,.bool t0,.slice R0 r0 e0] 49):=⟨_,rfl⟩
 rw [<- hW1]
 have A0:HAt W1 (w.heap.size) #[.float .f64 b.re.lo,.float .f64 b.re.hi,.float .f64 b.im.lo,.float .f64 b.im.hi] 65:=by rw [hW1]; exact (HAt.new sP).up
 have A1:HAt W1 (w.heap.size + 1) #[.slice P0 p0 c0,.bool s0,.slice Q0 q0 d0,.bool t0,.slice R0 r0 e0] 49:=by rw [hW1]; exact (HAt.new sP)
 have B:Below w.heap.size w W1:=by rw [hW1]; exact (bT (bT (Below.refl w.heap.size w) (below_alloc _ _)) (below_alloc _ _))
 clear hW1
 refine region_litA [.val (kIs (.pointer (some ⟨w.heap.size,0,none⟩))),.val (kIs (.agg #[.float .f64 b.re.lo,.float .f64 b.re.hi])),.val (kIs (.agg #[.slice P0 p0 c0,.bool s0,.slice Q0 q0 d0,.bool t0,.slice R0 r0 e0])),.val (kNum (x.real)),.val (kIs (.bool false)),.val (kIs (.bool false)),.val (kIs (undef)),.val (kIs (undef)),.val (kIs (undef)),.val (kIs (undef)),.val (kIs (undef)),.val (kIs (.bool false)),.val (kIs (.bool false))]
  ?fl4 ?hfl4 kR kR kR kR kR ⟨Stab.b (stab_is _),Stab.b (stab_is _),Stab.b (stab_is _),Stab.b (stab_num _),Stab.b (stab_is _),Stab.b (stab_is _),Stab.b (stab_is _),Stab.b (stab_is _),Stab.b (stab_is _),Stab.b (stab_is _),Stab.b (stab_is _),Stab.b (stab_is _),Stab.b (stab_is _),trivial⟩ sP ⟨obN (uFa (u:=.pointer (some ⟨w.heap.size,0,none⟩)) rfl .fr (fun W=>kR)),obN (uLd rfl (.is 0) (fun W hb=>by obtain ⟨p0,p1,p2,p3,-⟩:=bx4 (A0.ld hb); simp [go_sem,p0,p1,p2,p3])),obN (uLr rfl .fr (fun W hb=>A1.ld hb) Tryz.underlying49),obN (uC1 rfl (.is 2) (fun _ W hb h=>HE.out W (bT B hb))),obN (uC2 rfl (.is 1) (.at 3) (fun _ W hb h=>cIs (H1.out W (bT B hb) _ (pg 3 h)))),obN (uMv 4),obZ 5,obZ 5,obZ 5,obZ 5,obZ 5,obN (uPf rfl (.is 5) .k),obN (uAs 11),trivial⟩ ?_
 case hfl4=>intro ts; simp only [fillT,zA,Nat.reduceAdd,sA,sB,sC]; rfl
 intro ts W2 hb2 hh hap
 have e12:=held_is (hh 12 sP) rfl
 simp only [e12]
 clear hh hap e12
 clear A0 A1
 replace B:=bT B hb2
 clear hb2
 go_wp2
 go_ret
 exact ⟨rfl,B⟩
theorem boxHas_1 (w:World) (b:Bx) (x:Cx) (k:Bool) (P0:Option Addr) (p0 c0:Nat) (s0:Bool) (Q0:Option Addr) (q0 d0:Nat) (t0:Bool) (R0:Option Addr) (r0 e0:Nat) (HE:Hid (∀ W,Below w.heap.size w W -> Calls Tryz.prog 79 #[.agg #[.slice P0 p0 c0,.bool s0,.slice Q0 q0 d0,.bool t0,.slice R0 r0 e0]] W (RetNum W x.real))) (H1:Hid (∀ W,Below w.heap.size w W -> ∀ v,IsNum W v x.real -> Calls Tryz.prog 21 #[.agg #[.float .f64 b.re.lo,.float .f64 b.re.hi],v] W fun e w'=>e = .returned (.bool true) /\ Below W.heap.size W w')) (HM:Hid (∀ W,Below w.heap.size w W -> Calls Tryz.prog 76 #[.agg #[.slice P0 p0 c0,.bool s0,.slice Q0 q0 d0,.bool t0,.slice R0 r0 e0]] W (RetNum W x.imag))) (H2:Hid (∀ W,Below w.heap.size w W -> ∀ v,IsNum W v x.imag -> Calls Tryz.prog 21 #[.agg #[.float .f64 b.im.lo,.float .f64 b.im.hi],v] W fun e w'=>e = .returned (.bool k) /\ Below W.heap.size W w')):Calls Tryz.prog 29 #[.agg #[.float .f64 b.re.lo,.float .f64 b.re.hi,.float .f64 b.im.lo,.float .f64 b.im.hi],.agg #[.slice P0 p0 c0,.bool s0,.slice Q0 q0 d0,.bool t0,.slice R0 r0 e0]] w fun e w'=>e = .returned (.bool k) /\ Below w.heap.size w w':=by
 have hfb:=floatbits_run
 have hsf:=store_float
 go_enter Tryz.func29,Tryz.ntmps29
 go_upto_region 1 with fail
 obtain ⟨W1,hW1⟩:∃ W:World,W = (w.alloc (.cells #[.float .f64 b.re.lo,.float .f64 b.re.hi,.float .f64 b.im.lo,.float .f64 b.im.hi] 65)).alloc (.cells #[.slice P0 p0 c0,.bool s0,.slice Q0 q0 d0,.bool t0,.slice R0 r0 e0] 49):=⟨_,rfl⟩
 rw [<- hW1]
 have A0:HAt W1 (w.heap.size) #[.float .f64 b.re.lo,.float .f64 b.re.hi,.float .f64 b.im.lo,.float .f64 b.im.hi] 65:=by rw [hW1]; exact (HAt.new sP).up
 have A1:HAt W1 (w.heap.size + 1) #[.slice P0 p0 c0,.bool s0,.slice Q0 q0 d0,.bool t0,.slice R0 r0 e0] 49:=by rw [hW1]; exact (HAt.new sP)
 have B:Below w.heap.size w W1:=by rw [hW1]; exact (bT (bT (Below.refl w.heap.size w) (below_alloc _ _)) (below_alloc _ _))
 clear hW1
 refine region_litA [.val (kIs (.pointer (some ⟨w.heap.size,0,none⟩))),.val (kIs (.agg #[.float .f64 b.re.lo,.float .f64 b.re.hi])),.val (kIs (.agg #[.slice P0 p0 c0,.bool s0,.slice Q0 q0 d0,.bool t0,.slice R0 r0 e0])),.val (kNum (x.real)),.val (kIs (.bool true)),.val (kIs (.bool true)),.val (kIs (.pointer (some ⟨w.heap.size,2,none⟩))),.val (kIs (.agg #[.float .f64 b.im.lo,.float .f64 b.im.hi])),.val (kIs (.agg #[.slice P0 p0 c0,.bool s0,.slice Q0 q0 d0,.bool t0,.slice R0 r0 e0])),.val (kNum (x.imag)),.val (kIs (.bool k)),.val (kIs (.bool k)),.val (kIs (.bool k))]
  ?fl5 ?hfl5 kR kR kR kR kR ⟨Stab.b (stab_is _),Stab.b (stab_is _),Stab.b (stab_is _),Stab.b (stab_num _),Stab.b (stab_is _),Stab.b (stab_is _),Stab.b (stab_is _),Stab.b (stab_is _),Stab.b (stab_is _),Stab.b (stab_num _),Stab.b (stab_is _),Stab.b (stab_is _),Stab.b (stab_is _),trivial⟩ sP ⟨obN (uFa (u:=.pointer (some ⟨w.heap.size,0,none⟩)) rfl .fr (fun W=>kR)),obN (uLd rfl (.is 0) (fun W hb=>by obtain ⟨p0,p1,p2,p3,-⟩:=bx4 (A0.ld hb); simp [go_sem,p0,p1,p2,p3])),obN (uLr rfl .fr (fun W hb=>A1.ld hb) Tryz.underlying49),obN (uC1 rfl (.is 2) (fun _ W hb h=>HE.out W (bT B hb))),obN (uC2 rfl (.is 1) (.at 3) (fun _ W hb h=>cIs (H1.out W (bT B hb) _ (pg 3 h)))),obN (uMv 4),obG 5 (uFa (u:=.pointer (some ⟨w.heap.size,0,none⟩)) rfl .fr (fun W=>kR)),obG 5 (uLd rfl (.is 6) (fun W hb=>by obtain ⟨p0,p1,p2,p3,-⟩:=bx4 (A0.ld hb); simp [go_sem,p0,p1,p2,p3])),obG 5 (uLr rfl .fr (fun W hb=>A1.ld hb) Tryz.underlying49),obG 5 (uC1 rfl (.is 8) (fun _ W hb h=>HM.out W (bT B hb))),obG 5 (uC2 rfl (.is 7) (.at 9) (fun _ W hb h=>cIs (H2.out W (bT B hb) _ (pg 9 h)))),obN (uPt rfl (.is 5) (.is 10)),obN (uAs 11),trivial⟩ ?_
 case hfl5=>intro ts; simp only [fillT,zA,Nat.reduceAdd,sA,sB,sC]; rfl
 intro ts W2 hb2 hh hap
 have e12:=held_is (hh 12 sP) rfl
 simp only [e12]
 clear hh hap e12
 clear A0 A1
 replace B:=bT B hb2
 clear hb2
 go_wp2
 go_ret
 exact ⟨rfl,B⟩
def ptB (a b:Int) (d:Nat):Bx:=⟨arS a d,arS b d⟩
theorem ptB_ok (a b:Int) {d:Nat} (hd:0 < d):(ptB a b d).Ok:=⟨ar_ok a hd,ar_ok b hd⟩
theorem crossB {r:Rat} {a a1:Int} {d d1:Nat} (h:r * (d:Rat) = (a:Rat)) (h1:r * (d1:Rat) = (a1:Rat)):a1 * (d:Int) = a * (d1:Int):=by
 have:((a1 * (d:Int):Int):Rat) = ((a * (d1:Int):Int):Rat):=by
  simp only [Rat.intCast_mul,Rat.intCast_natCast]
  rw [<- h,<- h1]
  grind
 exact Rat.intCast_inj.1 this
theorem boxOf_any (bb:Bx) (v:Value) (x:Cx) (a b:Int) (d:Nat) (w:World) (h:IsNum w v x) (hx:Low x a b d) (hT:Tab w) (hs:Sz x 1000) :
  Calls Tryz.prog 27 #[bb.v,v] w fun e w'=>e = .returned (ptB a b d).v /\ Below w.heap.size w w':=by
 obtain ⟨a2,b2,d2,hx2⟩:=Low.ex x.imag
 have s1:=hs _ _ _ hx
 have s2:=hs.imag _ _ _ hx2
 have HA:=fun W (hb:Below w.heap.size w W)=>around_any v x a b d _ _ W (h.below hb) hx oM oM rfl rfl
 have HM:=fun W (hb:Below w.heap.size w W)=>imN_any v x W (h.below hb) (hT.below hb) 1000 hs oM
 have HA2:=fun W (_:Below w.heap.size w W) v (h:IsNum W v x.imag)=>around_any v x.imag a2 b2 d2 _ _ W h hx2 oM oM rfl rfl
 have e:arS a2 d2 = arS b d:=(arS_scale hx.pos hx2.pos (crossB (r:=x.im) hx2.2.2.1 hx.2.2.2)).symm
 unfold ptB
 rw [<- e]
 obtain ⟨P0,p0,c0,s0,Q0,q0,d0,t0,R0,r0,e0,-,-,-,rfl,-⟩:=h.parts
 exact boxOf_raw w _ _ _ _ _ _ _ _ _ _ _ _ _ _ _ _ _ (hid HA) (hid HM) (hid HA2)
theorem boxHas_any (bb:Bx) (v:Value) (x:Cx) (a b:Int) (d:Nat) (w:World) (h:IsNum w v x) (hx:Low x a b d) (hT:Tab w) (hs:Sz x 1000) :
  Calls Tryz.prog 29 #[bb.v,v] w fun e w'=>e = .returned (.bool ((ptB a b d).within bb)) /\ Below w.heap.size w w':=by
 obtain ⟨a1,b1,d1,hx1⟩:=Low.ex x.real
 obtain ⟨a2,b2,d2,hx2⟩:=Low.ex x.imag
 have s1:=hs.real _ _ _ hx1
 have s2:=hs.imag _ _ _ hx2
 have HE:=fun W (hb:Below w.heap.size w W)=>reN_any v x W (h.below hb) (hT.below hb) 1000 hs oM
 have HM:=fun W (hb:Below w.heap.size w W)=>imN_any v x W (h.below hb) (hT.below hb) 1000 hs oM
 have H1:=fun W (_:Below w.heap.size w W) v (h:IsNum W v x.real)=>spanHas_any bb.re v x.real a1 b1 d1 W h hx1 oM oM
 have H2:=fun W (_:Below w.heap.size w W) v (h:IsNum W v x.imag)=>spanHas_any bb.im v x.imag a2 b2 d2 W h hx2 oM oM
 have e1:arS a1 d1 = arS a d:=(arS_scale hx.pos hx1.pos (crossB (r:=x.re) hx1.2.2.1 hx.2.2.1)).symm
 have e2:arS a2 d2 = arS b d:=(arS_scale hx.pos hx2.pos (crossB (r:=x.im) hx2.2.2.1 hx.2.2.2)).symm
 rw [e1,show decide (x.real.im = 0) = true from decide_eq_true rfl,Bool.true_and] at H1
 rw [e2,show decide (x.imag.im = 0) = true from decide_eq_true rfl,Bool.true_and] at H2
 unfold Bx.within ptB
 obtain ⟨P0,p0,c0,s0,Q0,q0,d0,t0,R0,r0,e0,-,-,-,rfl,-⟩:=h.parts
 cases h1:(arS a d).within bb.re
 ·rw [h1] at H1
  exact boxHas_0 w _ _ _ _ _ _ _ _ _ _ _ _ _ (hid HE) (hid H1)
 ·rw [h1] at H1
  exact boxHas_1 w _ _ _ _ _ _ _ _ _ _ _ _ _ _ (hid HE) (hid H1) (hid HM) (hid H2)
end Go.Proofs.YtjodlmanheeajaaGreatDoor
