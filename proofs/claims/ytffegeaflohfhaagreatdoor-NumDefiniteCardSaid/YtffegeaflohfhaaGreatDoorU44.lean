import Derived.Test.YtffegeaflohfhaaGreatDoorS13
import Derived.Test.YtffegeaflohfhaaGreatDoorS38
import Derived.Test.YtffegeaflohfhaaGreatDoorU36
import Derived.Test.YtffegeaflohfhaaGreatDoorU37
import Derived.Test.YtffegeaflohfhaaGreatDoorU39
import Derived.Test.YtffegeaflohfhaaGreatDoorU41
import Derived.Test.YtffegeaflohfhaaGreatDoorU42
import Derived.Test.YtffegeaflohfhaaGreatDoorU43
import Derived.Test.YtffegeaflohfhaaGreatDoorU15
import Derived.Test.YtffegeaflohfhaaGreatDoorU27
import Derived.Test.YtffegeaflohfhaaGreatDoorU35
import Derived.Test.YtffegeaflohfhaaGreatDoorS02
set_option linter.unusedVariables false
set_option linter.unusedSimpArgs false
set_option maxRecDepth 100000
set_option maxHeartbeats 8000000
namespace Go.Proofs.YtffegeaflohfhaaGreatDoor
open Go.RowKit
abbrev nM:TypeId:=26
abbrev nR:TypeId:=46
abbrev nQ:TypeId:=35
theorem vM:Tryz.prog.underlying nM = some (.slice nR):=Tryz.underlying26
theorem vR:Tryz.prog.underlying nR = some (.slice nQ):=Tryz.underlying46
theorem svR:∀ w,(sizeOf nR).run Tryz.prog w = .ok 1 w:=fun w=>kR
theorem svQ:∀ w,(sizeOf nQ).run Tryz.prog w = .ok 5 w:=fun w=>kR
theorem avR:∀ w,(isAgg nR).run Tryz.prog w = .ok false w:=fun w=>by
 unfold isAgg
 rw [Sem.run_bind,run_underlying vR w]
 rfl
section
variable {ops:Array Oper} {kl:List RK} {B:Nat} {w0:World} {a0:Act} {o:Oper} {i:Nat}
theorem nNe {x:Operand} {g n k:Nat} {f:Nat -> Cx} (ho:o.op = .load nQ x) (hx:Kn ops kl a0 i x (fun _=>.pointer (some ⟨g,5 * k,none⟩))) (hQ:∀ W,Below B w0 W -> NBlk W g n f) (hk:k < n):ObU Tryz.prog ops kl B w0 a0 o i (kNum (f k)) :=
 fun ts W a ha hb hB hp K hK=>⟨wp_load_elem ho (hx ts W a ha hp) (hQ W hb) hk fun v hv=>hK _ _ hv rfB⟩
theorem nIr {g l c k:Nat} {x y:Operand} (ho:o.op = .indexAddr nM x y) (hx:Kn ops kl a0 i x (fun _=>.slice (some ⟨g,0,none⟩) l c)) (hy:Kn ops kl a0 i y (fun _=>.int .i64 (k:Int))) (hk:k < l):ObU Tryz.prog ops kl B w0 a0 o i (kIs (.pointer (some ⟨g,k,none⟩))) :=
 uIx ho hx hy hk (Nat.mul_one k) vM svR
theorem nIq {g l c k:Nat} {x y:Operand} (ho:o.op = .indexAddr nR x y) (hx:Kn ops kl a0 i x (fun _=>.slice (some ⟨g,0,none⟩) l c)) (hy:Kn ops kl a0 i y (fun _=>.int .i64 (k:Int))) (hk:k < l):ObU Tryz.prog ops kl B w0 a0 o i (kIs (.pointer (some ⟨g,5 * k,none⟩))) :=
 uIx ho hx hy hk (Nat.mul_comm k 5) vR svQ
theorem nIo {g q l c k:Nat} {x y:Operand} (ho:o.op = .indexAddr nR x y) (hx:Kn ops kl a0 i x (fun _=>.slice (some ⟨g,5 * q,none⟩) l c)) (hy:Kn ops kl a0 i y (fun _=>.int .i64 (k:Int))) (hk:k < l):ObU Tryz.prog ops kl B w0 a0 o i (kIs (.pointer (some ⟨g,5 * (q + k),none⟩))) :=
 fun ts W a ha hb hB hp K hK=>⟨by
  have e1:=hx ts W a ha hp
  have e2:=hy ts W a ha hp
  have hk':(0:Int) <= (k:Int) /\ (k:Int) < (l:Int):=oM
  unfold Oper.wp execOp
  simp only [ho,e1,e2]
  have e3:(Instr.indexAt nR (.slice (some ⟨g,5 * q,none⟩) l c) (.int .i64 (k:Int))).run Tryz.prog W = .ok (.pointer (some ⟨g,5 * (q + k),none⟩)) W:=by
   have e4:(⟨g,5 * q,none⟩:Addr).add (k * 5) = ⟨g,5 * (q + k),none⟩:=by
    unfold Addr.add
    split <;> simp_all
    omega
   simp [Instr.indexAt,run_underlying vR,asIntOf,Sem.run_bind,svQ,hk'.2,e4]
   intro h
   omega
  simp only [Sem.run_bind,e3,Sem.run_pure,Result.andThen_ok]
  exact hK _ _ rfl rfB⟩
theorem nLr {x:Operand} {b:Addr} {v:Value} (ho:o.op = .load nR x) (hx:Kn ops kl a0 i x (fun _=>.pointer (some b))) (hc:∀ W,Below B w0 W -> W.cell? b = some v):ObU Tryz.prog ops kl B w0 a0 o i (kIs v):=uLc ho hx hc avR
end
theorem NBlk.one' {W:World} {g:Nat} {A B C:Option Addr} {p q:Bool} {na ca nb cb nc cc:Nat} {x:Cx} (h:W.heap[g]? = some (.cells #[.slice A na ca,.bool p,.slice B nb cb,.bool q,.slice C nc cc] nQ (0,0))) (hx:IsNum W (.agg #[.slice A na ca,.bool p,.slice B nb cb,.bool q,.slice C nc cc]) x) :
  NBlk W g 1 (fun _=>x):=⟨_,h,rfl,by simp [Value.oneCell'],fun j hj=>by
 obtain rfl:j = 0:=oM
 exact ⟨_,_,_,_,_,_,_,_,_,_,_,rfl,rfl,rfl,rfl,rfl,hx⟩⟩
theorem NBlk.cells1 {W:World} {g:Nat} {f:Nat -> Cx} (h:NBlk W g 1 f):∃ A B C p q na ca nb cb nc cc,W.cell? ⟨g,0,none⟩ = some (.slice A na ca) /\ W.cell? ⟨g,1,none⟩ = some (.bool p) /\ W.cell? ⟨g,2,none⟩ = some (.slice B nb cb) /\ W.cell? ⟨g,3,none⟩ = some (.bool q) /\ W.cell? ⟨g,4,none⟩ = some (.slice C nc cc) /\
  IsNum W (.agg #[.slice A na ca,.bool p,.slice B nb cb,.bool q,.slice C nc cc]) (f 0):=by
 obtain ⟨cs,h1,h2,h3,h4⟩:=h
 obtain ⟨A,B,C,p,q,na,ca,nb,cb,nc,cc,a1,a2,a3,a4,a5,a6⟩:=h4 0 oM
 refine ⟨A,B,C,p,q,na,ca,nb,cb,nc,cc,?_,?_,?_,?_,?_,a6⟩
 ·rw [cell_of_row W g _ cs _ (0,0) h1]; exact a1
 ·rw [cell_of_row W g _ cs _ (0,0) h1]; exact a2
 ·rw [cell_of_row W g _ cs _ (0,0) h1]; exact a3
 ·rw [cell_of_row W g _ cs _ (0,0) h1]; exact a4
 ·rw [cell_of_row W g _ cs _ (0,0) h1]; exact a5
end Go.Proofs.YtffegeaflohfhaaGreatDoor
namespace Go.Proofs.YtffegeaflohfhaaGreatDoor
def mulV (n:Nat) (G:Nat -> Nat -> Cx) (b:Nat -> Cx):Nat -> Cx:=fun k=>sm (fun i=>(G k i).mul (b i)) 0 n
end Go.Proofs.YtffegeaflohfhaaGreatDoor
namespace Go.Proofs.YtffegeaflohfhaaGreatDoor
open Go.RowKit
theorem dot_any (w:World) (ga gb oa ob na nb n m ca cb p:Nat) (f g:Nat -> Cx) (hA:NBlk w ga na f) (hB:NBlk w gb nb g) (h1:oa + n <= na) (h2:ob + n <= nb) (h3:n <= m) (h4:n <= 1024) (hT:Tab w)
  (hf:∀ i,i < n -> Sz (f (oa + i)) p) (hg:∀ i,i < n -> Sz (g (ob + i)) p) (h5:1 + 1026 * (2 * p + 3) < 549755813888) :
  Calls Tryz.prog 70 #[.slice (some ⟨ga,5 * oa,none⟩) n ca,.slice (some ⟨gb,5 * ob,none⟩) m cb] w (RetNum w (sm (fun i=>(f (oa + i)).mul (g (ob + i))) 0 n)):=by
 obtain ⟨S,hS⟩:∃ S:Nat -> Cx,S = sm (fun i=>(f (oa + i)).mul (g (ob + i))) 0:=⟨_,rfl⟩
 rw [<- hS]
 have HS0:=hid (show S 0 = .zero by rw [hS]; rfl)
 have HSN:=hid (fun i=>show S (i + 1) = (S i).add ((f (oa + i)).mul (g (ob + i))) by rw [hS,sm_last,Nat.zero_add])
 have HSS:=hid (fun i (hi:i < n)=>show Sz (S i) (1 + 1024 * (2 * p + 2)) by
  rw [hS]
  refine (sm_sz (p:=p + p + 1) i 0 fun j _ hj=>(hf j oM).mul (hg j oM)).mono ?_
  have:=Nat.mul_le_mul_right (2 * p + 2) (show i <= 1024 by omega)
  rw [show p + p + 1 + 1 = 2 * p + 2 by omega]
  omega)
 have HAD:=hid (fun i (hi:i < n) W (hb:Below w.heap.size w W) v u (k1:IsNum W v (S i)) (k2:IsNum W u ((f (oa + i)).mul (g (ob + i))))=>addN_any v u (S i) _ W k1 k2 _ _ (HSS.out i hi) ((hf i hi).mul (hg i hi)) oM (hT.below hb))
 have HMU:=hid (fun i (hi:i < n) W (hb:Below w.heap.size w W) v u (k1:IsNum W v (f (oa + i))) (k2:IsNum W u (g (ob + i)))=>mulN_any v u _ _ W k1 k2 p p (hf i hi) (hg i hi) oM (hT.below hb))
 have HA0:=hid hA
 have HB0:=hid hB
 have hga:=hA.lt
 have hgb:=hB.lt
 clear hA hB hf hg h5 hS hT HSS
 go_enter Tryz.func70,Tryz.ntmps70
 go_upto_region 2 with fail
 obtain ⟨W1,hW1⟩:∃ W1:World,W1 = ((w.alloc (.cells zNum 35)).alloc (.cells zNum 35)):=⟨_,rfl⟩
 have HB1:=hid (show Below w.heap.size w W1 by rw [hW1]; exact bel)
 have z4:W1.heap.size = w.heap.size + 2:=by rw [hW1]; simp
 have HX2:=hid (show W1.heap[w.heap.size]? = some (.cells zNum 35 (0,0)) by rw [hW1]; exact heap_alloc2_old _ _ _)
 have X3:W1.heap[w.heap.size + 1]? = some (.cells zNum 35 (0,0)):=by rw [hW1,show w.heap.size + 1 = (w.alloc (.cells zNum 35)).heap.size by simp]; exact heap_alloc_new _ _
 have HS1:=hid (show NBlk W1 (w.heap.size + 1) 1 (fun _=>S 0) by rw [HS0.out]; exact NBlk.one' X3 (IsNum.zero W1))
 unfold zNum at hW1
 rw [<- hW1]
 obtain ⟨g5,hg5⟩:∃ g5,g5 = w.heap.size + 1:=⟨_,rfl⟩
 rw [<- hg5] at HS1 ⊢
 have hg5w:w.heap.size + 1 <= g5:=oM
 clear hW1 X3 hg5
 have KB1:=hid (Below.refl (w.heap.size + 1) W1)
 go_wp2_with fail
 go_loopw [10] (fun iv wx=>∃ i:Nat,iv = .int .i64 (i:Int) /\ i <= n /\ NBlk wx g5 1 (fun _=>S i) /\ Below (w.heap.size + 1) W1 wx) (fun iv _=>n - (intOf iv).toNat)
 case atStart=>exact ⟨0,rfl,oM,HS1.out,KB1.out⟩
 case round =>
  clear HS1 KB1
  obtain ⟨i,rfl,hin,hF,hB⟩:=hrel
  have HF:=hid hF
  have KB:=hid hB
  have KW:=hid (HB1.out.trans (hB.mono oM))
  clear hF hB
  by_cases hi:i < n
  ·have HMU:=hid (HMU.out i hi)
   have HAD:=hid (HAD.out i hi)
   have HA1:=hid (HA0.out.below KW.out)
   have HB1':=hid (HB0.out.below KW.out)
   have hia:oa + i < na:=oM
   have hib:ob + i < nb:=oM
   have him:i < m:=oM
   go_upto_region 4 with fail
   refine region_litA [.val (kIs (.int .i64 (i:Int))),.val (kIs (.pointer (some ⟨ga,5 * (oa + i),none⟩))),.val (kNum (f (oa + i))),.box 35 zNum,.val (kIs (.int .i64 (i:Int))),.put 3 2]
    ?fl1 ?hfl1 kR kR kR kR kR ⟨stab_is _,stab_is _,stab_num _,stab_is _,trivial⟩ sP ⟨obN (uMf rfl .fr),obN (nIo (g:=ga) (q:=oa) (l:=n) (c:=ca) (k:=i) rfl .fr .fr hi),obN (nNe rfl (.is 1) (fun W hb=>HA1.out.below hb) hia),alloc_num,obN (uAs 0),store_num _,trivial⟩ ?_
   case hfl1=>intro ts; simp only [fillT,zA,Nat.reduceAdd,sA,sB,sC]; rfl
   intro ts W2 hb2 hh hap
   obtain ⟨g7,A7,n7,c7,p7,A7b,n7b,c7b,p7b,A7c,n7c,c7c,e7,lo7,z7,X7,N7⟩:=held_box (x:=f (oa + i)) (hh 3 sP) rfl (hh 5 sP) rfl (hh 2 sP) rfl
   have e4:=held_is (hh 4 sP) rfl
   simp only [e7,e4]
   clear hh hap e7 e4
   have HX2':=hid (NBlk.one' X7 N7)
   have HF2:=hid (HF.out.below hb2)
   have HB2:=hid (HB1'.out.below hb2)
   have KB2:=hid (bT KW.out hb2)
   have KC2:=hid (KB.out.trans (hb2.mono (by have:=KB.out.size; omega)))
   clear hb2 HF KB KW HA1 HB1' X7 N7 lo7 z7
   go_upto_region 5 with fail
   refine region_lastA [.val (kNum (S i)),.val (kNum (f (oa + i))),.val (kIs (.slice (some ⟨gb,5 * ob,none⟩) m cb)),.val (kIs (.int .i64 (i:Int))),.val (kIs (.pointer (some ⟨gb,5 * (ob + i),none⟩))),.val (kNum (g (ob + i))),.val (kNum ((f (oa + i)).mul (g (ob + i)))),.val (kNum ((S i).add ((f (oa + i)).mul (g (ob + i)))))]
    ?fl2 ?hfl2 kR kR kR kR kR ⟨Stab.b (stab_num _),Stab.b (stab_num _),Stab.b (stab_is _),Stab.b (stab_is _),Stab.b (stab_is _),Stab.b (stab_num _),Stab.b (stab_num _),Stab.b (stab_num _),trivial⟩ sP (ol:=_) rfl kR ⟨obN (nNe (k:=0) (f:=fun _=>S i) rfl .fr (fun W hb=>HF2.out.below hb) (by omega:0 < 1)),obN (nNe (k:=0) (f:=fun _=>f (oa + i)) rfl .fr (fun W hb=>HX2'.out.below hb) (by omega:0 < 1)),obN (uMf rfl .fr),obN (uMf rfl .fr),obN (nIo rfl (.is 2) (.is 3) him),obN (nNe rfl (.is 4) (fun W hb=>HB2.out.below hb) hib),obN (uC2 rfl (.at 1) (.at 5) fun _ W hb h=>HMU.out W (bT KB2.out hb) _ _ (pg 1 h) (pg 5 h)),obN (uC2 rfl (.at 0) (.at 6) fun _ W hb h=>HAD.out W (bT KB2.out hb) _ _ (pg 0 h) (pg 6 h)),trivial⟩ ?_
   case hfl2=>intro ts; simp only [fillT,zA,Nat.reduceAdd,sA,sB,sC]; rfl
   intro ts W9 a9 ha9 hb9 hh K hK
   have hz:IsNum W9 (ts 7) ((S i).add ((f (oa + i)).mul (g (ob + i)))):=hh 7 sP
   have ex:=(ha9 5).trans (show _ = Value.pointer (some ⟨g5,5 * 0,none⟩) by kernel_rfl)
   have ez:=(ha9 22).trans (by kernel_rfl:_ = ts 7)
   have HK:=hid hK
   clear hK hh
   refine ⟨wp_store_elem rfl (k:=0) ex ez (HF2.out.below hb9) oM hz fun W5 hbut hext hrow=>⟨rfl,HK.out _ ?_⟩⟩
   have HF5:=hid (show NBlk W5 g5 1 (fun _=>S (i + 1)) from hrow.congr fun j hj=>by
    obtain rfl:j = 0:=oM
    rw [upf_same,HSN.out])
   have KB5:=hid (hbut.below (KC2.out.trans (hb9.mono (by have:=KC2.out.size; omega))) oM)
   clear HK hz ex ez hbut hext hrow HF2 KB2 KC2 HX2' HB2 hb9 ha9 HMU HAD
   go_wp2
   go_roundw
   case rel=>exact ⟨i + 1,by go_num,oM,HF5.out,KB5.out⟩
   case measure=>exact mS
  ·obtain rfl:n = i:=oM
   obtain ⟨A,B,C,p,q,na',ca',nb',cb',nc',cc',f0,f1,f2,f3,f4,hq⟩:=HF.out.cells1
   have X0:=(KB.out.block w.heap.size oM).trans HX2.out
   unfold zNum at X0
   obtain ⟨d0,d1,d2,d3,d4,k0,k1,k2,k3,k4⟩:=bx5 X0
   have NB:=hid (NumBox.nil d0 d1 d2 d3 d4)
   have HQ:=hid hq
   clear X0 hq HF HMU HAD
   go_wp2
   refine bodyPost_ret (v:=.agg #[.slice A na' ca',.bool p,.slice B nb' cb',.bool q,.slice C nc' cc']) (by simp [results,Tryz.results70]; exact run_load5 NB.out _ _ _ _ _) rfl ?_
   exact RetNum.box KW.out oM NB.out HQ.out _ _ _ _ _
theorem upf_back' {α:Type} (f:Nat -> α) (i:Nat):upf f i (f i) = f:=funext fun j=>by
 by_cases e:j = i
 ·rw [e,upf_same]
 ·rw [upf_other _ _ e]
theorem rApply_any (w:World) (ga gb:Nat) (gi:Nat -> Nat) (n m cap cb p:Nat) (F:Nat -> Nat -> Cx) (b:Nat -> Cx) (hA:MatQ w ga gi n m F) (hB:QBlk w gb m (fun _=>True) b) (hn:n <= 1024) (hm:m <= 1024)
  (hF:∀ i k,i < n -> k < m -> Sz (F i k) p) (hb:∀ k,k < m -> Sz (b k) p) (h5:1 + 1026 * (2 * p + 3) < 549755813888) :
  Calls Tryz.prog 73 #[.slice (some ⟨ga,0,none⟩) n cap,.slice (some ⟨gb,0,none⟩) m cb] w fun e w'=>∃ go,e = .returned (.slice (some ⟨go,0,none⟩) n n) /\ QBlk w' go n (fun _=>True) (mulV m F b) /\ Below w.heap.size w w' /\ w.heap.size <= go:=by
 obtain ⟨W1,hr1,hb1,hs1,hN1⟩:=make_q' n oM w
 obtain ⟨V,hV⟩:∃ V,V = mulV m F b:=⟨_,rfl⟩
 obtain ⟨S,hS⟩:∃ S:Nat -> Nat -> Cx,S = fun i=>sm (fun k=>(F i k).mul (b k)) 0:=⟨_,rfl⟩
 rw [<- hV]
 have HS0:=hid (fun i=>show S i 0 = .zero by rw [hS]; rfl)
 have HSM:=hid (fun i=>show S i m = V i by rw [hS,hV]; rfl)
 have HSN:=hid (fun i k=>show S i (k + 1) = (S i k).add ((F i k).mul (b k)) by rw [hS]; simp only [sm_last,Nat.zero_add])
 have HSS:=hid (fun i k (hi:i < n) (hk:k < m)=>show Sz (S i k) (1 + 1024 * (2 * p + 2)) by
  rw [hS]
  refine (sm_sz (p:=p + p + 1) k 0 fun j _ hj=>(hF i j hi oM).mul (hb j oM)).mono ?_
  have:=Nat.mul_le_mul_right (2 * p + 2) (show k <= 1024 by omega)
  rw [show p + p + 1 + 1 = 2 * p + 2 by omega]
  omega)
 have HAD0:=hid (fun i k (hi:i < n) (hk:k < m) W v u (k1:IsQ W v (S i k)) (k2:IsQ W u ((F i k).mul (b k)))=>rAdd_any v u (S i k) _ W k1 k2 _ _ (HSS.out i k hi hk) ((hF i k hi hk).mul (hb k hk)) oM)
 have HMU0:=hid (fun i k (hi:i < n) (hk:k < m) W v u (k1:IsQ W v (F i k)) (k2:IsQ W u (b k))=>rMul_any v u _ _ W k1 k2 p p (hF i k hi hk) (hb k hk) oM)
 have HW:=hid (fun W=>rWhole_any 0 W oM oM)
 rw [Cx.int_zero'] at HW
 have HA0:=hid hA
 have HB0:=hid hB
 have HO0:=hid (show QBlk W1 w.heap.size n (fun j=>j < 0) V from hN1.to fun j _ h=>absurd h oM)
 have KB0:=hid hb1
 have hga:=hA.lt
 have hgb:=hB.lt
 have hgi:∀ i,i < n -> gi i < w.heap.size:=fun i hi=>(hA.row hi).lt
 clear hA hB hF hb h5 hS hV HSS hN1 hb1
 go_enter Tryz.func73,Tryz.ntmps73
 go_wp2
 clear hr1
 go_loopw [6] (fun iv wx=>∃ i:Nat,iv = .int .i64 (i:Int) /\ i <= n /\ QBlk wx w.heap.size n (fun j=>j < i) V /\ Below w.heap.size w wx) (fun iv _=>n - (intOf iv).toNat)
 case atStart=>exact ⟨0,rfl,oM,HO0.out,KB0.out⟩
 case round =>
  clear HO0 KB0
  obtain ⟨i,rfl,hin,hO,hB⟩:=hrel
  have HO1:=hid hO
  have KB:=hid hB
  clear hO hB
  by_cases hi:i < n
  ·go_upto_region 5 with fail
   refine region_lastA [.val (kIs (.slice (some ⟨w.heap.size,0,none⟩) n n)),.val (kIs (.int .i64 (i:Int))),.val (kQ (.zero)),.val (kIs (.pointer (some ⟨w.heap.size,5 * i,none⟩)))]
    ?fl1 ?hfl1 kR kR kR kR kR ⟨Stab.b (stab_is _),Stab.b (stab_is _),Stab.b (stab_q _),Stab.b (stab_is _),trivial⟩ sP (ol:=_) rfl kR ⟨obN (uMf rfl .fr),obN (uMf rfl .fr),obN (uC1 rfl .k fun _ W hb h=>HW.out W),obN (uIq rfl (.is 0) (.is 1) hi),trivial⟩ ?_
   case hfl1=>intro ts; simp only [fillT,zA,Nat.reduceAdd,sA,sB,sC]; rfl
   intro ts W9 a9 ha9 hb9 hh K hK
   have hz:IsQ W9 (ts 2) .zero:=hh 2 sP
   have hx:ts 3 = _:=hh 3 sP
   have ex:=(ha9 20).trans (by kernel_rfl:_ = ts 3)
   have ez:=(ha9 19).trans (by kernel_rfl:_ = ts 2)
   have HK:=hid hK
   clear hK hh
   refine ⟨wp_store_qe rfl (k:=i) (ex.trans hx) ez (HO1.out.below hb9) hi hz fun W5 hbut hext hrow=>⟨rfl,HK.out _ ?_⟩⟩
   have HO5:=hid (show QBlk W5 w.heap.size n (fun j=>j < i + 1) (upf V i (S i 0)) from hrow.to fun j hj hv=>⟨by (show j < i ∨ j = i); omega,by rw [HS0.out]⟩)
   have KB5:=hid (hbut.below (bT KB.out hb9) lR)
   clear HK hz hx ex ez hbut hext hrow HO1 KB hb9 ha9
   go_wp2_with fail
   go_loopw [7] (fun kv wx=>∃ k:Nat,kv = .int .i64 (k:Int) /\ k <= m /\ QBlk wx w.heap.size n (fun j=>j < i + 1) (upf V i (S i k)) /\ Below w.heap.size w wx) (fun kv _=>m - (intOf kv).toNat)
   case atStart=>exact ⟨0,rfl,oM,HO5.out,KB5.out⟩
   case round =>
    clear HO5 KB5
    obtain ⟨k,rfl,hkm,hO,hB⟩:=hrel
    obtain ⟨P,hP⟩:∃ P,P = upf V i (S i k):=⟨_,rfl⟩
    rw [<- hP] at hO
    have HP:=hid (show P i = S i k by rw [hP,upf_same])
    have HPe:=hid hP
    have HO:=hid hO
    have KB:=hid hB
    have HA:=hid (HA0.out.below hB)
    have HB:=hid (HB0.out.below hB)
    clear hO hB hP
    have hcell:=HA.out.cell hi
    by_cases hk:k < m
    ·have HMU:=hid (HMU0.out i k hi hk)
     have HAD:=hid (HAD0.out i k hi hk)
     rw [<- HP.out] at HAD
     go_upto_region 9 with fail
     clear hcell
     refine region_lastA [.val (kIs (.slice (some ⟨w.heap.size,0,none⟩) n n)),.val (kIs (.int .i64 (i:Int))),.val (kIs (.slice (some ⟨w.heap.size,0,none⟩) n n)),.val (kIs (.int .i64 (i:Int))),.val (kIs (.pointer (some ⟨w.heap.size,5 * i,none⟩))),.val (kQ (P i)),.val (kIs (.slice (some ⟨ga,0,none⟩) n cap)),.val (kIs (.int .i64 (i:Int))),.val (kIs (.pointer (some ⟨ga,i,none⟩))),.val (kIs (.slice (some ⟨gi i,0,none⟩) m m)),.val (kIs (.int .i64 (k:Int))),.val (kIs (.pointer (some ⟨(gi i),5 * k,none⟩))),.val (kQ (F i k)),.val (kIs (.slice (some ⟨gb,0,none⟩) m cb)),.val (kIs (.int .i64 (k:Int))),.val (kIs (.pointer (some ⟨gb,5 * k,none⟩))),.val (kQ (b k)),.val (kQ ((F i k).mul (b k))),.val (kQ ((P i).add ((F i k).mul (b k)))),.val (kIs (.pointer (some ⟨w.heap.size,5 * i,none⟩)))]
      ?fl2 ?hfl2 kR kR kR kR kR ⟨Stab.b (stab_is _),Stab.b (stab_is _),Stab.b (stab_is _),Stab.b (stab_is _),Stab.b (stab_is _),Stab.b (stab_q _),Stab.b (stab_is _),Stab.b (stab_is _),Stab.b (stab_is _),Stab.b (stab_is _),Stab.b (stab_is _),Stab.b (stab_is _),Stab.b (stab_q _),Stab.b (stab_is _),Stab.b (stab_is _),Stab.b (stab_is _),Stab.b (stab_q _),Stab.b (stab_q _),Stab.b (stab_q _),Stab.b (stab_is _),trivial⟩ sP (ol:=_) rfl kR ⟨obN (uMf rfl .fr),obN (uMf rfl .fr),obN (uMf rfl .fr),obN (uMf rfl .fr),obN (uIq rfl (.is 2) (.is 3) hi),obN (uQe rfl (.is 4) (fun W hb=>HO.out.below hb) hi (by (show i < i + 1); omega)),obN (uMf rfl .fr),obN (uMf rfl .fr),obN (uIr rfl (.is 6) (.is 7) hi),obN (uLr' rfl (.is 8) fun W hb=>(HA.out.below hb).cell hi),obN (uMf rfl .fr),obN (uIq rfl (.is 9) (.is 10) hk),obN (uQe rfl (.is 11) (fun W hb=>(HA.out.below hb).row hi) hk trivial),obN (uMf rfl .fr),obN (uMf rfl .fr),obN (uIq rfl (.is 13) (.is 14) hk),obN (uQe rfl (.is 15) (fun W hb=>HB.out.below hb) hk trivial),obN (uC2 rfl (.at 12) (.at 16) fun _ W hb h=>HMU.out W _ _ (pg 12 h) (pg 16 h)),obN (uC2 rfl (.at 5) (.at 17) fun _ W hb h=>HAD.out W _ _ (pg 5 h) (pg 17 h)),obN (uIq rfl (.is 0) (.is 1) hi),trivial⟩ ?_
     case hfl2=>intro ts; simp only [fillT,zA,Nat.reduceAdd,sA,sB,sC]; rfl
     intro ts W9 a9 ha9 hb9 hh K hK
     have hz:IsQ W9 (ts 18) ((P i).add ((F i k).mul (b k))):=hh 18 sP
     have hx:ts 19 = _:=hh 19 sP
     have ex:=(ha9 49).trans (by kernel_rfl:_ = ts 19)
     have ez:=(ha9 48).trans (by kernel_rfl:_ = ts 18)
     have HK:=hid hK
     clear hK hh
     refine ⟨wp_store_qe rfl (k:=i) (ex.trans hx) ez (HO.out.below hb9) hi hz fun W5 hbut hext hrow=>⟨rfl,HK.out _ ?_⟩⟩
     have HO5:=hid (show QBlk W5 w.heap.size n (fun j=>j < i + 1) (upf V i (S i (k + 1))) from hrow.to fun j hj hv=>⟨.inl hv,by
      rw [HP.out,HSN.out,HPe.out]
      by_cases e:j = i
      ·rw [e,upf_same,upf_same]
      ·rw [upf_other _ _ e,upf_other _ _ e,upf_other _ _ e]⟩)
     have KB5:=hid (hbut.below (bT KB.out hb9) lR)
     clear HK hz hx ex ez hbut hext hrow HO KB hb9 ha9 HMU HAD HA HB HP HPe
     go_wp2
     go_roundw
     case rel=>exact ⟨k + 1,by go_num,oM,HO5.out,KB5.out⟩
     case measure=>exact mS
    ·obtain rfl:m = k:=oM
     have HO5:=hid (show QBlk wr w.heap.size n (fun j=>j < i + 1) V from HO.out.to fun j _ hv=>⟨hv,by rw [HPe.out,HSM.out,upf_back']⟩)
     clear HO HA HB HP HPe
     go_wp2
     go_roundw
     case rel=>exact ⟨i + 1,by go_num,oM,HO5.out,KB.out⟩
     case measure=>exact mS
  ·obtain rfl:n = i:=oM
   have HO5:=hid (HO1.out.to (V':=fun _=>True) (f':=V) fun j hj _=>⟨hj,rfl⟩)
   go_wp2
   go_ret
   exact ⟨_,rfl,HO5.out,KB.out,Nat.le_refl _⟩
theorem dot0_any (w:World) (ga gb n p:Nat) (f g:Nat -> Cx) (hA:NBlk w ga n f) (hB:NBlk w gb n g) (h4:n <= 1024) (hT:Tab w) (hf:∀ i,i < n -> Sz (f i) p) (hg:∀ i,i < n -> Sz (g i) p) (h5:1 + 1026 * (2 * p + 3) < 549755813888) :
  Calls Tryz.prog 70 #[.slice (some ⟨ga,0,none⟩) n n,.slice (some ⟨gb,0,none⟩) n n] w (RetNum w (sm (fun i=>(f i).mul (g i)) 0 n)):=by
 have h:=dot_any w ga gb 0 0 n n n n n n p f g hA hB oM oM lR h4 hT (fun i hi=>by rw [Nat.zero_add]; exact hf i hi) (fun i hi=>by rw [Nat.zero_add]; exact hg i hi) h5
 simp only [Nat.zero_add,Nat.mul_zero] at h
 exact h
end Go.Proofs.YtffegeaflohfhaaGreatDoor
