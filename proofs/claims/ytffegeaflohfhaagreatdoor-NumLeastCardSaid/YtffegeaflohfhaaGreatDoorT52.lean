import Derived.Test.YtffegeaflohfhaaGreatDoorS13
import Derived.Test.YtffegeaflohfhaaGreatDoorT29
import Derived.Test.YtffegeaflohfhaaGreatDoorS43
import Derived.Test.YtffegeaflohfhaaGreatDoorT44
import Derived.Test.YtffegeaflohfhaaGreatDoorS02
set_option linter.unusedVariables false
set_option linter.unusedSimpArgs false
set_option maxRecDepth 100000
set_option maxHeartbeats 8000000
namespace Go.Proofs.YtffegeaflohfhaaGreatDoor
open Go.RowKit
abbrev nM:TypeId:=26
abbrev nR:TypeId:=46
abbrev nQ:TypeId:=35
theorem vM:Tryz.prog.underlying nM = some (.slice nR):=Tryz.underlying26
theorem vR:Tryz.prog.underlying nR = some (.slice nQ):=Tryz.underlying46
theorem svR:∀ w,(sizeOf nR).run Tryz.prog w = .ok 1 w:=fun w=>kR
theorem svQ:∀ w,(sizeOf nQ).run Tryz.prog w = .ok 5 w:=fun w=>kR
theorem avR:∀ w,(isAgg nR).run Tryz.prog w = .ok false w:=fun w=>by
 unfold isAgg
 rw [Sem.run_bind,run_underlying vR w]
 rfl
section
variable {ops:Array Oper} {kl:List RK} {B:Nat} {w0:World} {a0:Act} {o:Oper} {i:Nat}
theorem nNe {x:Operand} {g n k:Nat} {f:Nat -> Cx} (ho:o.op = .load nQ x) (hx:Kn ops kl a0 i x (fun _=>.pointer (some ⟨g,5 * k,none⟩))) (hQ:∀ W,Below B w0 W -> NBlk W g n f) (hk:k < n):ObU Tryz.prog ops kl B w0 a0 o i (kNum (f k)) :=
 fun ts W a ha hb hB hp K hK=>⟨wp_load_elem ho (hx ts W a ha hp) (hQ W hb) hk fun v hv=>hK _ _ hv rfB⟩
theorem nIr {g l c k:Nat} {x y:Operand} (ho:o.op = .indexAddr nM x y) (hx:Kn ops kl a0 i x (fun _=>.slice (some ⟨g,0,none⟩) l c)) (hy:Kn ops kl a0 i y (fun _=>.int .i64 (k:Int))) (hk:k < l):ObU Tryz.prog ops kl B w0 a0 o i (kIs (.pointer (some ⟨g,k,none⟩))) :=
 uIx ho hx hy hk (Nat.mul_one k) vM svR
theorem nIq {g l c k:Nat} {x y:Operand} (ho:o.op = .indexAddr nR x y) (hx:Kn ops kl a0 i x (fun _=>.slice (some ⟨g,0,none⟩) l c)) (hy:Kn ops kl a0 i y (fun _=>.int .i64 (k:Int))) (hk:k < l):ObU Tryz.prog ops kl B w0 a0 o i (kIs (.pointer (some ⟨g,5 * k,none⟩))) :=
 uIx ho hx hy hk (Nat.mul_comm k 5) vR svQ
theorem nIo {g q l c k:Nat} {x y:Operand} (ho:o.op = .indexAddr nR x y) (hx:Kn ops kl a0 i x (fun _=>.slice (some ⟨g,5 * q,none⟩) l c)) (hy:Kn ops kl a0 i y (fun _=>.int .i64 (k:Int))) (hk:k < l):ObU Tryz.prog ops kl B w0 a0 o i (kIs (.pointer (some ⟨g,5 * (q + k),none⟩))) :=
 fun ts W a ha hb hB hp K hK=>⟨by
  have e1:=hx ts W a ha hp
  have e2:=hy ts W a ha hp
  have hk':(0:Int) <= (k:Int) /\ (k:Int) < (l:Int):=oM
  unfold Oper.wp execOp
  simp only [ho,e1,e2]
  have e3:(Instr.indexAt nR (.slice (some ⟨g,5 * q,none⟩) l c) (.int .i64 (k:Int))).run Tryz.prog W = .ok (.pointer (some ⟨g,5 * (q + k),none⟩)) W:=by
   have e4:(⟨g,5 * q,none⟩:Addr).add (k * 5) = ⟨g,5 * (q + k),none⟩:=by
    unfold Addr.add
    split <;> simp_all
    omega
   simp [Instr.indexAt,run_underlying vR,asIntOf,Sem.run_bind,svQ,hk'.2,e4]
   intro h
   omega
  simp only [Sem.run_bind,e3,Sem.run_pure,Result.andThen_ok]
  exact hK _ _ rfl rfB⟩
theorem nLr {x:Operand} {b:Addr} {v:Value} (ho:o.op = .load nR x) (hx:Kn ops kl a0 i x (fun _=>.pointer (some b))) (hc:∀ W,Below B w0 W -> W.cell? b = some v):ObU Tryz.prog ops kl B w0 a0 o i (kIs v):=uLc ho hx hc avR
end
theorem NBlk.one' {W:World} {g:Nat} {A B C:Option Addr} {p q:Bool} {na ca nb cb nc cc:Nat} {x:Cx} (h:W.heap[g]? = some (.cells #[.slice A na ca,.bool p,.slice B nb cb,.bool q,.slice C nc cc] nQ (0,0))) (hx:IsNum W (.agg #[.slice A na ca,.bool p,.slice B nb cb,.bool q,.slice C nc cc]) x) :
  NBlk W g 1 (fun _=>x):=⟨_,h,rfl,by simp [Value.oneCell'],fun j hj=>by
 obtain rfl:j = 0:=oM
 exact ⟨_,_,_,_,_,_,_,_,_,_,_,rfl,rfl,rfl,rfl,rfl,hx⟩⟩
theorem NBlk.cells1 {W:World} {g:Nat} {f:Nat -> Cx} (h:NBlk W g 1 f):∃ A B C p q na ca nb cb nc cc,W.cell? ⟨g,0,none⟩ = some (.slice A na ca) /\ W.cell? ⟨g,1,none⟩ = some (.bool p) /\ W.cell? ⟨g,2,none⟩ = some (.slice B nb cb) /\ W.cell? ⟨g,3,none⟩ = some (.bool q) /\ W.cell? ⟨g,4,none⟩ = some (.slice C nc cc) /\
  IsNum W (.agg #[.slice A na ca,.bool p,.slice B nb cb,.bool q,.slice C nc cc]) (f 0):=by
 obtain ⟨cs,h1,h2,h3,h4⟩:=h
 obtain ⟨A,B,C,p,q,na,ca,nb,cb,nc,cc,a1,a2,a3,a4,a5,a6⟩:=h4 0 oM
 refine ⟨A,B,C,p,q,na,ca,nb,cb,nc,cc,?_,?_,?_,?_,?_,a6⟩
 ·rw [cell_of_row W g _ cs _ (0,0) h1]; exact a1
 ·rw [cell_of_row W g _ cs _ (0,0) h1]; exact a2
 ·rw [cell_of_row W g _ cs _ (0,0) h1]; exact a3
 ·rw [cell_of_row W g _ cs _ (0,0) h1]; exact a4
 ·rw [cell_of_row W g _ cs _ (0,0) h1]; exact a5
end Go.Proofs.YtffegeaflohfhaaGreatDoor
namespace Go.Proofs.YtffegeaflohfhaaGreatDoor
def mulV (n:Nat) (G:Nat -> Nat -> Cx) (b:Nat -> Cx):Nat -> Cx:=fun k=>sm (fun i=>(G k i).mul (b i)) 0 n
def leftF (m:Nat) (F:Nat -> Nat -> Cx) (b x:Nat -> Cx) (i:Nat):Nat -> Cx:=fun t=>(b i).neg.add (sm (fun j=>(F i j).mul (x j)) 0 t)
theorem least_orth {n m:Nat} (G F:Nat -> Nat -> Cx) (b x:Nat -> Cx) (h:Solves m (mulM n G F) (mulV n G b) x):∀ k,k < m -> sm (fun i=>(G k i).mul (leftF m F b x i m)) 0 n = .zero:=by
 intro k hk
 have h1:=h k hk
 have e:sm (fun i=>(G k i).mul (sm (fun j=>(F i j).mul (x j)) 0 m)) 0 n = sm (fun j=>(mulM n G F k j).mul (x j)) 0 m:=by
  rw [sm_congr (g:=fun i=>sm (fun j=>(G k i).mul ((F i j).mul (x j))) 0 m) n 0 fun i _ _=>(sm_mul _ _ _ _).symm,sm_swap]
  refine sm_congr _ _ fun j _ _=>?_
  unfold mulM
  rw [Cx.mul_comm,<- sm_mul]
  refine sm_congr _ _ fun i _ _=>?_
  generalize G k i = p
  generalize F i j = q
  generalize x j = r
  apply Cx.ext <;> simp only [Cx.mul] <;> grind
 have e2:=sm_subc (.int 1) (fun i=>(G k i).mul (sm (fun j=>(F i j).mul (x j)) 0 m)) (fun i=>(G k i).mul (b i)) n 0
 rw [Cx.one_mul,e,h1] at e2
 unfold mulV at e2
 rw [Cx.sub_self'] at e2
 rw [<- e2]
 refine sm_congr _ _ fun i _ _=>?_
 unfold leftF
 rw [Cx.one_mul]
 generalize sm (fun j=>(F i j).mul (x j)) 0 m = s
 generalize G k i = p
 generalize b i = q
 apply Cx.ext <;> simp only [Cx.mul,Cx.add,Cx.sub,Cx.neg] <;> grind
end Go.Proofs.YtffegeaflohfhaaGreatDoor
namespace Go.Proofs.YtffegeaflohfhaaGreatDoor
open Go.RowKit
theorem dot_any (w:World) (ga gb oa ob na nb n m ca cb p:Nat) (f g:Nat -> Cx) (hA:NBlk w ga na f) (hB:NBlk w gb nb g) (h1:oa + n <= na) (h2:ob + n <= nb) (h3:n <= m) (h4:n <= 1024) (hT:Tab w)
  (hf:∀ i,i < n -> Sz (f (oa + i)) p) (hg:∀ i,i < n -> Sz (g (ob + i)) p) (h5:1 + 1026 * (2 * p + 3) < 549755813888) :
  Calls Tryz.prog 70 #[.slice (some ⟨ga,5 * oa,none⟩) n ca,.slice (some ⟨gb,5 * ob,none⟩) m cb] w (RetNum w (sm (fun i=>(f (oa + i)).mul (g (ob + i))) 0 n)):=by
 obtain ⟨S,hS⟩:∃ S:Nat -> Cx,S = sm (fun i=>(f (oa + i)).mul (g (ob + i))) 0:=⟨_,rfl⟩
 rw [<- hS]
 have HS0:=hid (show S 0 = .zero by rw [hS]; rfl)
 have HSN:=hid (fun i=>show S (i + 1) = (S i).add ((f (oa + i)).mul (g (ob + i))) by rw [hS,sm_last,Nat.zero_add])
 have HSS:=hid (fun i (hi:i < n)=>show Sz (S i) (1 + 1024 * (2 * p + 2)) by
  rw [hS]
  refine (sm_sz (p:=p + p + 1) i 0 fun j _ hj=>(hf j oM).mul (hg j oM)).mono ?_
  have:=Nat.mul_le_mul_right (2 * p + 2) (show i <= 1024 by omega)
  rw [show p + p + 1 + 1 = 2 * p + 2 by omega]
  omega)
 have HAD:=hid (fun i (hi:i < n) W (hb:Below w.heap.size w W) v u (k1:IsNum W v (S i)) (k2:IsNum W u ((f (oa + i)).mul (g (ob + i))))=>addN_any v u (S i) _ W k1 k2 _ _ (HSS.out i hi) ((hf i hi).mul (hg i hi)) oM (hT.below hb))
 have HMU:=hid (fun i (hi:i < n) W (hb:Below w.heap.size w W) v u (k1:IsNum W v (f (oa + i))) (k2:IsNum W u (g (ob + i)))=>mulN_any v u _ _ W k1 k2 p p (hf i hi) (hg i hi) oM (hT.below hb))
 have HA0:=hid hA
 have HB0:=hid hB
 have hga:=hA.lt
 have hgb:=hB.lt
 clear hA hB hf hg h5 hS hT HSS
 go_enter Tryz.func70,Tryz.ntmps70
 go_upto_region 2 with fail
 obtain ⟨W1,hW1⟩:∃ W1:World,W1 = ((w.alloc (.cells zNum 35)).alloc (.cells zNum 35)):=⟨_,rfl⟩
 have HB1:=hid (show Below w.heap.size w W1 by rw [hW1]; exact bel)
 have z4:W1.heap.size = w.heap.size + 2:=by rw [hW1]; simp
 have HX2:=hid (show W1.heap[w.heap.size]? = some (.cells zNum 35 (0,0)) by rw [hW1]; exact heap_alloc2_old _ _ _)
 have X3:W1.heap[w.heap.size + 1]? = some (.cells zNum 35 (0,0)):=by rw [hW1,show w.heap.size + 1 = (w.alloc (.cells zNum 35)).heap.size by simp]; exact heap_alloc_new _ _
 have HS1:=hid (show NBlk W1 (w.heap.size + 1) 1 (fun _=>S 0) by rw [HS0.out]; exact NBlk.one' X3 (IsNum.zero W1))
 unfold zNum at hW1
 rw [<- hW1]
 obtain ⟨g5,hg5⟩:∃ g5,g5 = w.heap.size + 1:=⟨_,rfl⟩
 rw [<- hg5] at HS1 ⊢
 have hg5w:w.heap.size + 1 <= g5:=oM
 clear hW1 X3 hg5
 have KB1:=hid (Below.refl (w.heap.size + 1) W1)
 go_wp2_with fail
 go_loopw [10] (fun iv wx=>∃ i:Nat,iv = .int .i64 (i:Int) /\ i <= n /\ NBlk wx g5 1 (fun _=>S i) /\ Below (w.heap.size + 1) W1 wx) (fun iv _=>n - (intOf iv).toNat)
 case atStart=>exact ⟨0,rfl,oM,HS1.out,KB1.out⟩
 case round =>
  clear HS1 KB1
  obtain ⟨i,rfl,hin,hF,hB⟩:=hrel
  have HF:=hid hF
  have KB:=hid hB
  have KW:=hid (HB1.out.trans (hB.mono oM))
  clear hF hB
  by_cases hi:i < n
  ·have HMU:=hid (HMU.out i hi)
   have HAD:=hid (HAD.out i hi)
   have HA1:=hid (HA0.out.below KW.out)
   have HB1':=hid (HB0.out.below KW.out)
   have hia:oa + i < na:=oM
   have hib:ob + i < nb:=oM
   have him:i < m:=oM
   go_upto_region 4 with fail
   refine region_litA [.val (kIs (.int .i64 (i:Int))),.val (kIs (.pointer (some ⟨ga,5 * (oa + i),none⟩))),.val (kNum (f (oa + i))),.box 35 zNum,.val (kIs (.int .i64 (i:Int))),.put 3 2]
    ?fl1 ?hfl1 kR kR kR kR kR ⟨stab_is _,stab_is _,stab_num _,stab_is _,trivial⟩ sP ⟨obN (uMf rfl .fr),obN (nIo (g:=ga) (q:=oa) (l:=n) (c:=ca) (k:=i) rfl .fr .fr hi),obN (nNe rfl (.is 1) (fun W hb=>HA1.out.below hb) hia),alloc_num,obN (uAs 0),store_num _,trivial⟩ ?_
   case hfl1=>intro ts; simp only [fillT,zA,Nat.reduceAdd,sA,sB,sC]; rfl
   intro ts W2 hb2 hh hap
   obtain ⟨g7,A7,n7,c7,p7,A7b,n7b,c7b,p7b,A7c,n7c,c7c,e7,lo7,z7,X7,N7⟩:=held_box (x:=f (oa + i)) (hh 3 sP) rfl (hh 5 sP) rfl (hh 2 sP) rfl
   have e4:=held_is (hh 4 sP) rfl
   simp only [e7,e4]
   clear hh hap e7 e4
   have HX2':=hid (NBlk.one' X7 N7)
   have HF2:=hid (HF.out.below hb2)
   have HB2:=hid (HB1'.out.below hb2)
   have KB2:=hid (bT KW.out hb2)
   have KC2:=hid (KB.out.trans (hb2.mono (by have:=KB.out.size; omega)))
   clear hb2 HF KB KW HA1 HB1' X7 N7 lo7 z7
   go_upto_region 5 with fail
   refine region_lastA [.val (kNum (S i)),.val (kNum (f (oa + i))),.val (kIs (.slice (some ⟨gb,5 * ob,none⟩) m cb)),.val (kIs (.int .i64 (i:Int))),.val (kIs (.pointer (some ⟨gb,5 * (ob + i),none⟩))),.val (kNum (g (ob + i))),.val (kNum ((f (oa + i)).mul (g (ob + i)))),.val (kNum ((S i).add ((f (oa + i)).mul (g (ob + i)))))]
    ?fl2 ?hfl2 kR kR kR kR kR ⟨Stab.b (stab_num _),Stab.b (stab_num _),Stab.b (stab_is _),Stab.b (stab_is _),Stab.b (stab_is _),Stab.b (stab_num _),Stab.b (stab_num _),Stab.b (stab_num _),trivial⟩ sP (ol:=_) rfl kR ⟨obN (nNe (k:=0) (f:=fun _=>S i) rfl .fr (fun W hb=>HF2.out.below hb) (by omega:0 < 1)),obN (nNe (k:=0) (f:=fun _=>f (oa + i)) rfl .fr (fun W hb=>HX2'.out.below hb) (by omega:0 < 1)),obN (uMf rfl .fr),obN (uMf rfl .fr),obN (nIo rfl (.is 2) (.is 3) him),obN (nNe rfl (.is 4) (fun W hb=>HB2.out.below hb) hib),obN (uC2 rfl (.at 1) (.at 5) fun _ W hb h=>HMU.out W (bT KB2.out hb) _ _ (pg 1 h) (pg 5 h)),obN (uC2 rfl (.at 0) (.at 6) fun _ W hb h=>HAD.out W (bT KB2.out hb) _ _ (pg 0 h) (pg 6 h)),trivial⟩ ?_
   case hfl2=>intro ts; simp only [fillT,zA,Nat.reduceAdd,sA,sB,sC]; rfl
   intro ts W9 a9 ha9 hb9 hh K hK
   have hz:IsNum W9 (ts 7) ((S i).add ((f (oa + i)).mul (g (ob + i)))):=hh 7 sP
   have ex:=(ha9 5).trans (show _ = Value.pointer (some ⟨g5,5 * 0,none⟩) by kernel_rfl)
   have ez:=(ha9 22).trans (by kernel_rfl:_ = ts 7)
   have HK:=hid hK
   clear hK hh
   refine ⟨wp_store_elem rfl (k:=0) ex ez (HF2.out.below hb9) oM hz fun W5 hbut hext hrow=>⟨rfl,HK.out _ ?_⟩⟩
   have HF5:=hid (show NBlk W5 g5 1 (fun _=>S (i + 1)) from hrow.congr fun j hj=>by
    obtain rfl:j = 0:=oM
    rw [upf_same,HSN.out])
   have KB5:=hid (hbut.below (KC2.out.trans (hb9.mono (by have:=KC2.out.size; omega))) oM)
   clear HK hz ex ez hbut hext hrow HF2 KB2 KC2 HX2' HB2 hb9 ha9 HMU HAD
   go_wp2
   go_roundw
   case rel=>exact ⟨i + 1,by go_num,oM,HF5.out,KB5.out⟩
   case measure=>exact mS
  ·obtain rfl:n = i:=oM
   obtain ⟨A,B,C,p,q,na',ca',nb',cb',nc',cc',f0,f1,f2,f3,f4,hq⟩:=HF.out.cells1
   have X0:=(KB.out.block w.heap.size oM).trans HX2.out
   unfold zNum at X0
   obtain ⟨d0,d1,d2,d3,d4,k0,k1,k2,k3,k4⟩:=bx5 X0
   have NB:=hid (NumBox.nil d0 d1 d2 d3 d4)
   have HQ:=hid hq
   clear X0 hq HF HMU HAD
   go_wp2
   refine bodyPost_ret (v:=.agg #[.slice A na' ca',.bool p,.slice B nb' cb',.bool q,.slice C nc' cc']) (by simp [results,Tryz.results70]; exact run_load5 NB.out _ _ _ _ _) rfl ?_
   exact RetNum.box KW.out oM NB.out HQ.out _ _ _ _ _
end Go.Proofs.YtffegeaflohfhaaGreatDoor
