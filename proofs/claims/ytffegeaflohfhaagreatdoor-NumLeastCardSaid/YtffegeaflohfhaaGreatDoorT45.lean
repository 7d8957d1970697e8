import Derived.Test.YtffegeaflohfhaaGreatDoorS38
import Derived.Test.YtffegeaflohfhaaGreatDoorS40
import Derived.Test.YtffegeaflohfhaaGreatDoorT41
import Derived.Test.YtffegeaflohfhaaGreatDoorT42
import Derived.Test.YtffegeaflohfhaaGreatDoorT44
import Derived.Test.YtffegeaflohfhaaGreatDoorS02
set_option linter.unusedVariables false
set_option linter.unusedSimpArgs false
set_option maxRecDepth 100000
set_option maxHeartbeats 8000000
namespace Go.Proofs.YtffegeaflohfhaaGreatDoor
open Go.RowKit
theorem empty_run (W:World):(Instr.buildSlice 50 0 #[]).run Tryz.prog W = .ok (.slice (some ⟨W.heap.size,0,none⟩) 0 0) (W.alloc (.cells #[] 42)):=by
 simp [Instr.buildSlice,run_underlying Tryz.underlying50,Sem.run_bind,sQ,Instr.fill,newRow,go_sem]
theorem upf_back {α:Type} (f:Nat -> α) (i:Nat):upf f i (f i) = f:=funext fun j=>by
 by_cases e:j = i
 ·rw [e,upf_same]
 ·rw [upf_other _ _ e]
theorem wpl_app {P:Program} {ops:Array Oper} {rest:List Oper} {o:Oper} {a:Act} {w w':World} {Q:Exit -> Act -> World -> Prop} (hgd:o.guard = none) {x y:Operand} {t:TypeId} (ho:o.op = .call ⟨.builtin .append,#[x,y],#[t,t]⟩) {v u r:Value}
  (hx:a.eval x = v) (hy:a.eval y = u) (hr:∀ ty,(Builtin.append_ #[t,t] ty #[v,u]).run P w = .ok r w') (h:wpList P ops Q rest (a.put o.dst r) w'):wpList P ops Q (o :: rest) a w :=
 wpList_plain hgd fun _ hK=>wp_append ho hx hy hr (hK _ _ h)
theorem size_alloc' (w:World) (o:Obj):(w.alloc o).heap.size = w.heap.size + 1:=sP
def RetCopy (w:World) (n m:Nat) (F:Nat -> Nat -> Cx) (e:Ending) (w':World):Prop :=
 ∃ go gk ck,e = .returned (.slice (some ⟨go,0,none⟩) n n) /\ RowsQ w.heap.size w' go gk (fun _=>m) ck n n (fun _ j=>j < m) F /\ (∀ i,i < n -> m <= ck i) /\ Below w.heap.size w w'
theorem rCopy_any (w:World) (ga:Nat) (gi:Nat -> Nat) (n m cap:Nat) (F:Nat -> Nat -> Cx) (h:MatQ w ga gi n m F) (hn:n <= 40) (hm:m <= 40) :
  Calls Tryz.prog 55 #[.slice (some ⟨ga,0,none⟩) n cap] w (RetCopy w n m F):=by
 obtain ⟨W1,hr1,hb1,hs1,hP1⟩:=make_matq n m oM w F gi
 have HB1:=hid hb1
 have HR1:=hid (show RowsQ w.heap.size W1 w.heap.size gi (fun _=>m) (fun _=>m) n 0 (fun _ j=>j < m) F from hP1.rows0)
 have HA:=hid h
 have EB:=empty_run
 clear h hP1 hb1
 go_enter Tryz.func55,Tryz.ntmps55
 go_wp2
 clear hr1
 go_loopw [4] (fun iv wr=>∃ (i:Nat) (gk ck:Nat -> Nat),iv = .int .i64 (i:Int) /\ i <= n /\ RowsQ w.heap.size wr w.heap.size gk (fun _=>m) ck n i (fun _ j=>j < m) F /\ (∀ j,j < i -> m <= ck j) /\ Below w.heap.size w wr) (fun iv _=>n - (intOf iv).toNat)
 case atStart=>exact ⟨0,gi,fun _=>m,rfl,oM,HR1.out,fun j hj=>oM,HB1.out⟩
 case round =>
  obtain ⟨i,gk,ck,rfl,hi,hR,hc,hB⟩:=hrel
  have HR:=hid hR
  have HC:=hid hc
  have KB:=hid hB
  clear hR hc hB HB1 HR1
  by_cases hlt:i < n
  ·have hrow:=(HA.out.below KB.out).row hlt
   have hx1:=(HA.out.below (bT KB.out (below_alloc wr (.cells #[] 42)))).cell hlt
   obtain ⟨W3,gN,c',hap,hb3,hgN,hmc,hQ⟩:=row_copy (w:=wr.alloc (.cells #[] 42)) (e:=wr.heap.size) (g:=gi i) (cc:=m) (heap_alloc_new wr _) (hrow.below (below_alloc _ _)) oM
   have HB3:=hid (show Below wr.heap.size wr W3 from (below_alloc wr (.cells #[] 42)).trans hb3)
   have hgl:wr.heap.size <= gN:=by
    rcases hgN with e | e
    ·omega
    ·have:=size_alloc' wr (.cells #[] 42)
     omega
   have hgo:w.heap.size < wr.heap.size:=HR.out.lt
   have HL:=hid (HR.out.below HB3.out)
   have HL2:=hid (HL.out.lay (i:=i) (l:=m) (c:=c') lR hlt (g:=gN) (U:=fun j=>j < m) (f:=F i) oM oM (fun j hj _=>by have:=(HR.out.rows j hj).lt; omega) hQ)
   have HCT:=hid (HL.out.cut (i:=i) (l:=m) (c:=c') (A:=some ⟨gN,0,none⟩))
   have HMC:=hid hmc
   have hfr:W3.frozen? ⟨w.heap.size,i,none⟩ = false:=HL.out.frozen i
   have hce:=HL.out.cell_nil lR hlt
   have hi0:(0:Int) <= (i:Int):=oM
   have hi1:(i:Int) < (n:Int):=oM
   clear hrow hb3 hgN hmc hQ hgl
   have HAP:=hid hap
   clear hap
   go_wp2_with (at_builtin; refine wpl_app rfl rfl rfl rfl HAP.out ?_)
   go_roundw
   case rel =>
    refine ⟨i + 1,upf gk i gN,upf ck i c',by go_num,oM,?_,fun j hj=>?_,?_⟩
    ·have:=HL2.out
     rw [show max i (i + 1) = i + 1 by omega] at this
     rw [show upf (fun _:Nat=>m) i m = fun _=>m from upf_back _ i,show upf (fun (_:Nat) j=>j < m) i (fun j=>j < m) = fun _ j=>j < m from upf_back _ i,upf_back] at this
     exact this
    ·by_cases e:j = i
     ·rw [e,upf_same]; exact HMC.out
     ·rw [upf_other _ _ e]; exact HC.out j oM
    ·exact (HCT.out.1).below (bT KB.out HB3.out) lR
   case measure=>exact mS
  ·obtain rfl:i = n:=oM
   go_wp2
   go_ret
   exact ⟨_,gk,ck,rfl,HR.out,HC.out,KB.out⟩
theorem sz_swp {F:Nat -> Nat -> Cx} {n m c p s:Nat} (hS:∀ a b,a < n -> b < m -> Sz (F a b) s) (hc:c < n) (hp:p < n):∀ a b,a < n -> b < m -> Sz (swp F c p a b) s:=fun a b ha hb=>by
 unfold swp
 split
 ·exact hS _ _ hp hb
 ·split
  ·exact hS _ _ hc hb
  ·exact hS _ _ ha hb
theorem swp_comm {α:Type} (f:Nat -> α) (c p:Nat):swp f c p = swp f p c:=by
 funext j
 unfold swp
 by_cases h1:j = c
 ·by_cases h2:j = p
  ·rw [if_pos h1,if_pos h2,<- h1,<- h2]
  ·rw [if_pos h1,if_neg h2,if_pos h1]
 ·by_cases h2:j = p
  ·rw [if_neg h1,if_pos h2,if_pos h2]
  ·rw [if_neg h1,if_neg h2,if_neg h2,if_neg h1]
theorem swp_const {α:Type} (x:α) (c p:Nat):swp (fun _=>x) c p = fun _=>x:=by
 funext j
 unfold swp
 split
 ·rfl
 ·split <;> rfl
theorem QBlk.one {W:World} {g:Nat} {A B C:Option Addr} {p q:Bool} {na ca nb cb nc cc:Nat} {V:Nat -> Prop} {x:Cx} (h:W.heap[g]? = some (.cells #[.bool p,.slice A na ca,.bool q,.slice B nb cb,.slice C nc cc] 42 (0,0))) (hx:V 0 -> IsQ W (.agg #[.bool p,.slice A na ca,.bool q,.slice B nb cb,.slice C nc cc]) x) :
  QBlk W g 1 V (fun _=>x):=⟨_,h,rfl,by simp [Value.oneCell'],fun j hj=>by
 obtain rfl:j = 0:=oM
 exact ⟨_,_,_,_,_,_,_,_,_,_,_,rfl,rfl,rfl,rfl,rfl,hx⟩⟩
def kQE (x:Cx) (k:Int):Value -> World -> Prop:=fun v W=>∃ u,v = .tuple #[u,.int .i64 k] /\ IsQ W u x
theorem stab_qe (x:Cx) (k:Int):Stab (kQE x k):=fun _ _ _ he ⟨u,e,h⟩=>⟨u,e,IsQ.ext h he⟩
theorem pivF_is {F:Nat -> Nat -> Cx} {c r n p:Nat} (h1:r <= p) (h2:p < n) (hz:∀ a,r <= a -> a < p -> F a c = .zero) (hp:F p c ≠ .zero):pivF F c r (n - r) = (p:Int):=by
 rcases pivF_cases F c (n - r) r with ⟨-,h⟩ | ⟨q,q1,q2,q3,q4,q5⟩
 ·exact absurd (h p h1 oM) hp
 ·rcases Nat.lt_trichotomy p q with c | c | c
  ·exact absurd (q5 p h1 c) hp
  ·rw [c]; exact q3
  ·exact absurd (hz q q1 c) q4
theorem pivF_no {F:Nat -> Nat -> Cx} {c r n:Nat} (hz:∀ a,r <= a -> a < n -> F a c = .zero):pivF F c r (n - r) = -1:=by
 rcases pivF_cases F c (n - r) r with ⟨h,-⟩ | ⟨q,q1,q2,q3,q4,q5⟩
 ·exact h
 ·exact absurd (hz q q1 oM) q4
theorem rQE {f:FuncId} {xs:Array Value} {W:World} {x:Cx} {k:Int} (h:Calls Tryz.prog f xs W (RetQE W x k)):Calls Tryz.prog f xs W fun e w'=>∃ v,e = .returned v /\ kQE x k v w' /\ Below W.heap.size W w' :=
 h.mono fun _ _ ⟨u,h1,h2,h3⟩=>⟨_,h1,⟨u,rfl,h2⟩,h3⟩
section
variable {ops:Array Oper} {kl:List RK} {B:Nat} {w0:World} {a0:Act} {o:Oper} {i:Nat}
theorem uX0 (j:Nat) {s:Nat} {x:Cx} {k:Int} (ho:o.op = .extract (.tmp s) 0) (hs:∀ ts,slot ops a0 ts s = ts j:=by intro ts; kernel_rfl) (hk:rk kl j = .val (kQE x k):=by rfl) (hj:predB ops i j = true:=by kernel_rfl):ObU Tryz.prog ops kl B w0 a0 o i (kQ x) :=
 fun ts W a ha hb hB hp K hK=>⟨by
  obtain ⟨u,e,hu⟩:=(hp j hj).of hk
  have e1:=(ha s).trans ((hs ts).trans e)
  unfold Oper.wp execOp
  simp only [ho,e1]
  simp [go_sem]
  exact hK _ _ hu rfB⟩
theorem uX1 (j:Nat) {s:Nat} {x:Cx} {k:Int} (ho:o.op = .extract (.tmp s) 1) (hs:∀ ts,slot ops a0 ts s = ts j:=by intro ts; kernel_rfl) (hk:rk kl j = .val (kQE x k):=by rfl) (hj:predB ops i j = true:=by kernel_rfl):ObU Tryz.prog ops kl B w0 a0 o i (kIs (.int .i64 k)) :=
 fun ts W a ha hb hB hp K hK=>⟨by
  obtain ⟨u,e,hu⟩:=(hp j hj).of hk
  have e1:=(ha s).trans ((hs ts).trans e)
  unfold Oper.wp execOp
  simp only [ho,e1]
  simp [go_sem]
  exact hK _ _ rfl rfB⟩
end
theorem rSquare_any (w:World) (v:Value) (n:Nat) (ml:Nat -> Nat) (F:Nat -> Nat -> Cx) (h:QSS w v n ml F) (hn:n <= 1099511627776) (hml:∀ i,i < n -> ml i <= 1099511627776) :
  Calls Tryz.prog 48 #[v] w fun e w'=>∃ b,e = .returned (.bool b) /\ (b = true ↔ Vld n ml /\ n = (if n = 0 then 0 else ml 0)) /\ Below w.heap.size w w':=by
 have HV:=hid (rValid_any w v n ml F h hn hml)
 have HC:=hid (fun W (hb:Below w.heap.size w W)=>rColumns_any W v n ml F (h.below hb))
 obtain ⟨A,c,rfl,-⟩:=h
 obtain ⟨m,hm⟩:∃ m,m = (if n = 0 then 0 else ml 0):=⟨_,rfl⟩
 rw [<- hm] at HC ⊢
 clear hm hml
 go_enter Tryz.func48,Tryz.ntmps48
 go_wp2_with fail
 refine HV.out.mono ?_
 rintro e W2 ⟨b,rfl,hb,hB⟩
 have HB2:=hid hB
 have HV2:=hid hb
 clear hb hB HV
 cases b
 ·go_wp2
  go_ret
  exact ⟨false,rfl,by have:=HV2.out; simp at this; simp [this],HB2.out⟩
 ·go_wp2_with fail
  refine (HC.out _ HB2.out).mono ?_
  rintro e W3 ⟨rfl,rfl⟩
  go_wp2
  go_ret
  refine ⟨_,rfl,?_,HB2.out⟩
  have:=HV2.out.1 (by trivial)
  simp [this]
  omega
theorem vld_mat {n m:Nat} (hn:n <= 32) (hm:m <= 32):Vld n (fun _=>m):=⟨hn,fun _ _=>⟨rfl,hm⟩⟩
end Go.Proofs.YtffegeaflohfhaaGreatDoor
