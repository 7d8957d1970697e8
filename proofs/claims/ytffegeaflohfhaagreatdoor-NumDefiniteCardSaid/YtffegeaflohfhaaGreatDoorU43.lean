import Derived.Test.YtffegeaflohfhaaGreatDoorS27
import Derived.Test.YtffegeaflohfhaaGreatDoorU27
import Derived.Test.YtffegeaflohfhaaGreatDoorS30
import Derived.Test.YtffegeaflohfhaaGreatDoorS36
import Derived.Test.YtffegeaflohfhaaGreatDoorS38
import Derived.Test.YtffegeaflohfhaaGreatDoorU36
import Derived.Test.YtffegeaflohfhaaGreatDoorU37
import Derived.Test.YtffegeaflohfhaaGreatDoorU38
import Derived.Test.YtffegeaflohfhaaGreatDoorU39
import Derived.Test.YtffegeaflohfhaaGreatDoorU40
import Derived.Test.YtffegeaflohfhaaGreatDoorU41
import Derived.Test.YtffegeaflohfhaaGreatDoorU42
import Derived.Test.YtffegeaflohfhaaGreatDoorU15
import Derived.Test.YtffegeaflohfhaaGreatDoorU35
import Derived.Test.YtffegeaflohfhaaGreatDoorS02
set_option linter.unusedVariables false
set_option linter.unusedSimpArgs false
set_option maxRecDepth 100000
set_option maxHeartbeats 8000000
namespace Go.Proofs.YtffegeaflohfhaaGreatDoor
open Go.RowKit
theorem empty_run (W:World):(Instr.buildSlice 50 0 #[]).run Tryz.prog W = .ok (.slice (some ⟨W.heap.size,0,none⟩) 0 0) (W.alloc (.cells #[] 42)):=by
 simp [Instr.buildSlice,run_underlying Tryz.underlying50,Sem.run_bind,sQ,Instr.fill,newRow,go_sem]
theorem upf_back {α:Type} (f:Nat -> α) (i:Nat):upf f i (f i) = f:=funext fun j=>by
 by_cases e:j = i
 ·rw [e,upf_same]
 ·rw [upf_other _ _ e]
theorem wpl_app {P:Program} {ops:Array Oper} {rest:List Oper} {o:Oper} {a:Act} {w w':World} {Q:Exit -> Act -> World -> Prop} (hgd:o.guard = none) {x y:Operand} {t:TypeId} (ho:o.op = .call ⟨.builtin .append,#[x,y],#[t,t]⟩) {v u r:Value}
  (hx:a.eval x = v) (hy:a.eval y = u) (hr:∀ ty,(Builtin.append_ #[t,t] ty #[v,u]).run P w = .ok r w') (h:wpList P ops Q rest (a.put o.dst r) w'):wpList P ops Q (o :: rest) a w :=
 wpList_plain hgd fun _ hK=>wp_append ho hx hy hr (hK _ _ h)
theorem size_alloc' (w:World) (o:Obj):(w.alloc o).heap.size = w.heap.size + 1:=sP
def RetCopy (w:World) (n m:Nat) (F:Nat -> Nat -> Cx) (e:Ending) (w':World):Prop :=
 ∃ go gk ck,e = .returned (.slice (some ⟨go,0,none⟩) n n) /\ RowsQ w.heap.size w' go gk (fun _=>m) ck n n (fun _ j=>j < m) F /\ (∀ i,i < n -> m <= ck i) /\ Below w.heap.size w w'
theorem rCopy_any (w:World) (ga:Nat) (gi:Nat -> Nat) (n m cap:Nat) (F:Nat -> Nat -> Cx) (h:MatQ w ga gi n m F) (hn:n <= 40) (hm:m <= 40) :
  Calls Tryz.prog 55 #[.slice (some ⟨ga,0,none⟩) n cap] w (RetCopy w n m F):=by
 obtain ⟨W1,hr1,hb1,hs1,hP1⟩:=make_matq n m oM w F gi
 have HB1:=hid hb1
 have HR1:=hid (show RowsQ w.heap.size W1 w.heap.size gi (fun _=>m) (fun _=>m) n 0 (fun _ j=>j < m) F from hP1.rows0)
 have HA:=hid h
 have EB:=empty_run
 clear h hP1 hb1
 go_enter Tryz.func55,Tryz.ntmps55
 go_wp2
 clear hr1
 go_loopw [4] (fun iv wr=>∃ (i:Nat) (gk ck:Nat -> Nat),iv = .int .i64 (i:Int) /\ i <= n /\ RowsQ w.heap.size wr w.heap.size gk (fun _=>m) ck n i (fun _ j=>j < m) F /\ (∀ j,j < i -> m <= ck j) /\ Below w.heap.size w wr) (fun iv _=>n - (intOf iv).toNat)
 case atStart=>exact ⟨0,gi,fun _=>m,rfl,oM,HR1.out,fun j hj=>oM,HB1.out⟩
 case round =>
  obtain ⟨i,gk,ck,rfl,hi,hR,hc,hB⟩:=hrel
  have HR:=hid hR
  have HC:=hid hc
  have KB:=hid hB
  clear hR hc hB HB1 HR1
  by_cases hlt:i < n
  ·have hrow:=(HA.out.below KB.out).row hlt
   have hx1:=(HA.out.below (bT KB.out (below_alloc wr (.cells #[] 42)))).cell hlt
   obtain ⟨W3,gN,c',hap,hb3,hgN,hmc,hQ⟩:=row_copy (w:=wr.alloc (.cells #[] 42)) (e:=wr.heap.size) (g:=gi i) (cc:=m) (heap_alloc_new wr _) (hrow.below (below_alloc _ _)) oM
   have HB3:=hid (show Below wr.heap.size wr W3 from (below_alloc wr (.cells #[] 42)).trans hb3)
   have hgl:wr.heap.size <= gN:=by
    rcases hgN with e | e
    ·omega
    ·have:=size_alloc' wr (.cells #[] 42)
     omega
   have hgo:w.heap.size < wr.heap.size:=HR.out.lt
   have HL:=hid (HR.out.below HB3.out)
   have HL2:=hid (HL.out.lay (i:=i) (l:=m) (c:=c') lR hlt (g:=gN) (U:=fun j=>j < m) (f:=F i) oM oM (fun j hj _=>by have:=(HR.out.rows j hj).lt; omega) hQ)
   have HCT:=hid (HL.out.cut (i:=i) (l:=m) (c:=c') (A:=some ⟨gN,0,none⟩))
   have HMC:=hid hmc
   have hfr:W3.frozen? ⟨w.heap.size,i,none⟩ = false:=HL.out.frozen i
   have hce:=HL.out.cell_nil lR hlt
   have hi0:(0:Int) <= (i:Int):=oM
   have hi1:(i:Int) < (n:Int):=oM
   clear hrow hb3 hgN hmc hQ hgl
   have HAP:=hid hap
   clear hap
   go_wp2_with (at_builtin; refine wpl_app rfl rfl rfl rfl HAP.out ?_)
   go_roundw
   case rel =>
    refine ⟨i + 1,upf gk i gN,upf ck i c',by go_num,oM,?_,fun j hj=>?_,?_⟩
    ·have:=HL2.out
     rw [show max i (i + 1) = i + 1 by omega] at this
     rw [show upf (fun _:Nat=>m) i m = fun _=>m from upf_back _ i,show upf (fun (_:Nat) j=>j < m) i (fun j=>j < m) = fun _ j=>j < m from upf_back _ i,upf_back] at this
     exact this
    ·by_cases e:j = i
     ·rw [e,upf_same]; exact HMC.out
     ·rw [upf_other _ _ e]; exact HC.out j oM
    ·exact (HCT.out.1).below (bT KB.out HB3.out) lR
   case measure=>exact mS
  ·obtain rfl:i = n:=oM
   go_wp2
   go_ret
   exact ⟨_,gk,ck,rfl,HR.out,HC.out,KB.out⟩
theorem QBlk.one {W:World} {g:Nat} {A B C:Option Addr} {p q:Bool} {na ca nb cb nc cc:Nat} {V:Nat -> Prop} {x:Cx} (h:W.heap[g]? = some (.cells #[.bool p,.slice A na ca,.bool q,.slice B nb cb,.slice C nc cc] 42 (0,0))) (hx:V 0 -> IsQ W (.agg #[.bool p,.slice A na ca,.bool q,.slice B nb cb,.slice C nc cc]) x) :
  QBlk W g 1 V (fun _=>x):=⟨_,h,rfl,by simp [Value.oneCell'],fun j hj=>by
 obtain rfl:j = 0:=oM
 exact ⟨_,_,_,_,_,_,_,_,_,_,_,rfl,rfl,rfl,rfl,rfl,hx⟩⟩
def kQE (x:Cx) (k:Int):Value -> World -> Prop:=fun v W=>∃ u,v = .tuple #[u,.int .i64 k] /\ IsQ W u x
theorem stab_qe (x:Cx) (k:Int):Stab (kQE x k):=fun _ _ _ he ⟨u,e,h⟩=>⟨u,e,IsQ.ext h he⟩
theorem rQE {f:FuncId} {xs:Array Value} {W:World} {x:Cx} {k:Int} (h:Calls Tryz.prog f xs W (RetQE W x k)):Calls Tryz.prog f xs W fun e w'=>∃ v,e = .returned v /\ kQE x k v w' /\ Below W.heap.size W w' :=
 h.mono fun _ _ ⟨u,h1,h2,h3⟩=>⟨_,h1,⟨u,rfl,h2⟩,h3⟩
section
variable {ops:Array Oper} {kl:List RK} {B:Nat} {w0:World} {a0:Act} {o:Oper} {i:Nat}
theorem uX0 (j:Nat) {s:Nat} {x:Cx} {k:Int} (ho:o.op = .extract (.tmp s) 0) (hs:∀ ts,slot ops a0 ts s = ts j:=by intro ts; kernel_rfl) (hk:rk kl j = .val (kQE x k):=by rfl) (hj:predB ops i j = true:=by kernel_rfl):ObU Tryz.prog ops kl B w0 a0 o i (kQ x) :=
 fun ts W a ha hb hB hp K hK=>⟨by
  obtain ⟨u,e,hu⟩:=(hp j hj).of hk
  have e1:=(ha s).trans ((hs ts).trans e)
  unfold Oper.wp execOp
  simp only [ho,e1]
  simp [go_sem]
  exact hK _ _ hu rfB⟩
theorem uX1 (j:Nat) {s:Nat} {x:Cx} {k:Int} (ho:o.op = .extract (.tmp s) 1) (hs:∀ ts,slot ops a0 ts s = ts j:=by intro ts; kernel_rfl) (hk:rk kl j = .val (kQE x k):=by rfl) (hj:predB ops i j = true:=by kernel_rfl):ObU Tryz.prog ops kl B w0 a0 o i (kIs (.int .i64 k)) :=
 fun ts W a ha hb hB hp K hK=>⟨by
  obtain ⟨u,e,hu⟩:=(hp j hj).of hk
  have e1:=(ha s).trans ((hs ts).trans e)
  unfold Oper.wp execOp
  simp only [ho,e1]
  simp [go_sem]
  exact hK _ _ rfl rfB⟩
end
theorem rSquare_any (w:World) (v:Value) (n:Nat) (ml:Nat -> Nat) (F:Nat -> Nat -> Cx) (h:QSS w v n ml F) (hn:n <= 1099511627776) (hml:∀ i,i < n -> ml i <= 1099511627776) :
  Calls Tryz.prog 48 #[v] w fun e w'=>∃ b,e = .returned (.bool b) /\ (b = true ↔ Vld n ml /\ n = (if n = 0 then 0 else ml 0)) /\ Below w.heap.size w w':=by
 have HV:=hid (rValid_any w v n ml F h hn hml)
 have HC:=hid (fun W (hb:Below w.heap.size w W)=>rColumns_any W v n ml F (h.below hb))
 obtain ⟨A,c,rfl,-⟩:=h
 obtain ⟨m,hm⟩:∃ m,m = (if n = 0 then 0 else ml 0):=⟨_,rfl⟩
 rw [<- hm] at HC ⊢
 clear hm hml
 go_enter Tryz.func48,Tryz.ntmps48
 go_wp2_with fail
 refine HV.out.mono ?_
 rintro e W2 ⟨b,rfl,hb,hB⟩
 have HB2:=hid hB
 have HV2:=hid hb
 clear hb hB HV
 cases b
 ·go_wp2
  go_ret
  exact ⟨false,rfl,by have:=HV2.out; simp at this; simp [this],HB2.out⟩
 ·go_wp2_with fail
  refine (HC.out _ HB2.out).mono ?_
  rintro e W3 ⟨rfl,rfl⟩
  go_wp2
  go_ret
  refine ⟨_,rfl,?_,HB2.out⟩
  have:=HV2.out.1 (by trivial)
  simp [this]
  omega
theorem QBlk.cells1 {W:World} {g:Nat} {V:Nat -> Prop} {f:Nat -> Cx} (h:QBlk W g 1 V f) (hV:V 0):∃ A B C p q na ca nb cb nc cc,W.cell? ⟨g,0,none⟩ = some (.bool p) /\ W.cell? ⟨g,1,none⟩ = some (.slice A na ca) /\ W.cell? ⟨g,2,none⟩ = some (.bool q) /\ W.cell? ⟨g,3,none⟩ = some (.slice B nb cb) /\ W.cell? ⟨g,4,none⟩ = some (.slice C nc cc) /\
  IsQ W (.agg #[.bool p,.slice A na ca,.bool q,.slice B nb cb,.slice C nc cc]) (f 0):=by
 obtain ⟨cs,h1,h2,h3,h4⟩:=h
 obtain ⟨A,B,C,p,q,na,ca,nb,cb,nc,cc,a1,a2,a3,a4,a5,a6⟩:=h4 0 oM
 refine ⟨A,B,C,p,q,na,ca,nb,cb,nc,cc,?_,?_,?_,?_,?_,a6 hV⟩
 ·rw [cell_of_row W g _ cs _ (0,0) h1]; exact a1
 ·rw [cell_of_row W g _ cs _ (0,0) h1]; exact a2
 ·rw [cell_of_row W g _ cs _ (0,0) h1]; exact a3
 ·rw [cell_of_row W g _ cs _ (0,0) h1]; exact a4
 ·rw [cell_of_row W g _ cs _ (0,0) h1]; exact a5
section
variable {P:Program} {ops:Array Oper} {a0:Act}
def pv (kl:List RK) (j:Nat):Value -> World -> Prop:=match rk kl j with | .val q=>q | _=>fun _ _=>True
theorem pv_stab {kl:List RK} (h:stabs true kl) (j:Nat):Stab (pv kl j):=by
 unfold pv
 cases e:rk kl j with
 | val q=>exact h.at j q e
 | box _ _=>intro _ _ _ _ _; trivial
 | put _ _=>intro _ _ _ _ _; trivial
def valB (r:List RK):Bool:=r.all fun | .val _=>true | _=>false
theorem AllFree.of {I:World -> Prop} {p:Nat -> Value -> World -> Prop} {m:Nat -> World -> Prop} {r:Nat -> World -> World -> Prop}:∀ (os:List Oper) (i0:Nat),(∀ i o,os[i]? = some o -> FreeOb P ops a0 I p m r o (i0 + i)) -> AllFree P ops a0 I p m r os i0:=by
 intro os
 induction os with
 | nil=>intro _ _; trivial
 | cons o os ih =>
  intro i0 h
  refine ⟨h 0 o rfl,ih (i0 + 1) fun i o' ho=>?_⟩
  have:=h (i + 1) o' (by simpa using ho)
  rwa [show i0 + (i + 1) = i0 + 1 + i by omega] at this
theorem AllObA.at' {kl:List RK} {B:Nat} {w0:World}:∀ (os:List Oper) (r:List RK) (i0:Nat),valB r = true -> AllObA P ops kl B w0 a0 os r i0 -> ∀ i o,os[i]? = some o -> ObA P ops kl B w0 a0 o (i0 + i) (match r.getD i (.val fun _ _=>True) with | .val q=>q | _=>fun _ _=>True):=by
 intro os
 induction os with
 | nil=>intro _ _ _ _ i o ho; simp at ho
 | cons o' os ih =>
  intro r i0 hv h i o ho
  cases r with
  | nil=>exact h.elim
  | cons k r =>
   unfold valB at hv
   rw [List.all_cons,Bool.and_eq_true] at hv
   cases k with
   | val q =>
    cases i with
    | zero =>
     simp at ho
     subst ho
     exact h.1
    | succ i =>
     have:=ih r (i0 + 1) hv.2 h.2 i o (by simpa using ho)
     rw [show i0 + 1 + i = i0 + (i + 1) by omega] at this
     simpa using this
   | box _ _=>simp at hv
   | put _ _=>simp at hv
theorem region_lateA {id:Nat} {dr:Bool} {w:World} {Q:Exit -> Act -> World -> Prop} (kl:List RK) (late:Nat) (R:World -> Prop) (fl:(Nat -> Value) -> Array Value) (hfl:∀ ts,fillT ts ops.toList 0 a0.tmps = fl ts)
  (hm:P.follows .mixedOrders = true) (hb:backB ops = true) (hd:dstB ops a0.tmps.size = true) (hl:looksB ops = true) (hg:(ops.toList.all fun o=>o.guard.isNone) = true)
  (hst:stabs true kl) (hv:valB kl = true) (hlen:kl.length + 1 = ops.size) {ol:Oper} (hol:ops.toList[kl.length]? = some ol) (hlast:((List.range kl.length).all fun j=>j == late || predB ops kl.length j) = true)
  (hob:AllObA P ops kl w.heap.size w a0 (ops.toList.take kl.length) kl 0) (hll:late < kl.length) {o1:Oper} (ho1:ops.toList[late]? = some o1) (hlate:∀ B w0,ObA P ops kl B w0 a0 o1 late (pv kl late))
  (hR:∀ W W',Below W.heap.size W W' -> R W -> R W')
  (store:∀ (ts:Nat -> Value) (W:World) (a:Act),(∀ t,a.eval (.tmp t) = slot ops a0 ts t) -> Below w.heap.size w W -> (∀ j,predB ops kl.length j = true -> PAt kl ts W j) ->
   ∀ K:Act -> World -> Prop,(∀ W',R W' -> Ext W W' -> K (a.put ol.dst undef) W') -> Goes (Oper.wp P ol a W K (fun _ _ _=>False)))
  (fin:∀ (ts:Nat -> Value) (W:World),R W -> Q .normal ⟨fl ts,a0.defers⟩ W) :
  (Code.region id ops dr).wp P Q a0 w:=by
 obtain rfl:fl = fun ts=>fillT ts ops.toList 0 a0.tmps:=funext fun ts=>(hfl ts).symm
 obtain ⟨N,hN⟩:∃ N,N = kl.length:=⟨_,rfl⟩
 rw [<- hN] at hlen hol hlast hob store hll
 refine region_free (fun _=>True) (fun j v W=>if j < N then pv kl j v W else if j = N then R W else True) (fun j W=>if j = late ∨ N < j then True else Below w.heap.size w W) (fun i W W'=>if i = N then Ext W W' else Below W.heap.size W W') hm hb hd hl hg ?_ ?_ ?_ (fun _ _ _ _ h=>h) (AllFree.of _ _ ?_) ?_
 ·intro W hW
  refine ⟨trivial,fun i=>?_⟩
  split
  ·trivial
  ·rcases hW with rfl | rfl
   ·exact Below.refl _ _
   ·exact rfB.drew
 ·intro i j v W W' hij hpr _ hr hp
  by_cases hj:j < N
  ·simp only [if_pos hj] at hp ⊢
   by_cases hi:i = N
   ·simp only [if_pos hi] at hr
    exact pv_stab hst j _ _ _ hr hp
   ·simp only [if_neg hi] at hr
    exact pv_stab hst j _ _ _ (Ext.of_below hr) hp
  ·simp only [if_neg hj] at hp ⊢
   by_cases hjN:j = N
   ·simp only [if_pos hjN] at hp ⊢
    simp only [if_neg (show ¬ i = N by omega)] at hr
    exact hR _ _ hr hp
   ·simp only [if_neg hjN]
 ·intro i j W W' hij hpr _ hr hm0
  by_cases hj:j = late ∨ N < j
  ·simp only [if_pos hj]
  ·simp only [if_neg hj] at hm0 ⊢
   by_cases hi:i = N
   ·exfalso
    subst hi
    have:=List.all_eq_true.1 hlast j (List.mem_range.2 oM)
    rw [hpr] at this
    simp at this
    omega
   ·simp only [if_neg hi] at hr
    exact bT hm0 hr
 ·intro i o ho ts W _ hm0 hp K hK
  rw [Nat.zero_add] at hm0 hp hK
  have hi:i < N + 1:=by
   have:=(List.getElem?_eq_some_iff.1 ho).1
   simpa [hlen] using this
  have hog:o.guard = none:=by simpa using List.all_eq_true.1 hg o (List.mem_of_getElem? ho)
  have hp':∀ j,predB ops i j = true -> PAt kl ts W j:=fun j hj=>by
   have h:=hp j hj
   unfold PAt
   by_cases hjN:j < N
   ·simp only [if_pos hjN] at h
    unfold pv at h
    cases e:rk kl j with
    | val q=>rw [e] at h; exact h
    | box _ _=>trivial
    | put _ _=>trivial
   ·have:rk kl j = .val fun _ _=>True:=by
     unfold rk
     rw [List.getD_eq_getElem?_getD,List.getElem?_eq_none oM]
     rfl
    rw [this]
    trivial
  by_cases hiN:i = N
  ·subst hiN
   rw [hol] at ho
   cases ho
   refine store ts W ⟨fillT ts ops.toList 0 a0.tmps,a0.defers⟩ (fun t=>fill_slot hd ts t) ?_ hp' K fun W' h1 h2=>hK _ _ ?_ ?_
   ·simp only [if_neg (show ¬ (i = late ∨ i < i) from fun c=>by
     rcases c with c | c
     ·omega
     ·omega)] at hm0
    exact hm0
   ·simpa using h1
   ·simpa using h2
  ·have hK':∀ v W',pv kl i v W' -> Below W.heap.size W W' -> K (Act.put ⟨fillT ts ops.toList 0 a0.tmps,a0.defers⟩ o.dst v) W':=fun v W' h1 h2=>hK v W' (by simp only [if_pos (show i < N by omega)]; exact h1) (by simp only [if_neg hiN]; exact h2)
   by_cases hil:i = late
   ·subst hil
    rw [ho1] at ho
    cases ho
    have:=hlate W.heap.size W ts W ⟨fillT ts ops.toList 0 a0.tmps,a0.defers⟩ (fun t=>fill_slot hd ts t) rfB lR hp'
    rw [hog] at this
    exact this K hK'
   ·simp only [if_neg (show ¬ (i = late ∨ N < i) by omega)] at hm0
    have:=AllObA.at' _ _ 0 hv hob i o (by rw [List.getElem?_take_of_lt oM]; exact ho) ts W ⟨fillT ts ops.toList 0 a0.tmps,a0.defers⟩ (fun t=>fill_slot hd ts t) hm0 hm0.size (by rw [Nat.zero_add]; exact hp')
    rw [hog] at this
    exact this K hK'
 ·intro ts W _ hp
  have h:=hp N oM
  simp only [Nat.lt_irrefl,if_false,if_true] at h
  exact fin ts W h
end
def Tn (g:Nat) (W W':World):Prop:=Ext W W' /\ W.heap.size <= W'.heap.size /\ (∀ b,b < W.heap.size -> b ≠ g -> W'.heap[b]? = W.heap[b]?) /\ ∀ B w0,Below B w0 W -> B <= g -> B <= W.heap.size -> Below B w0 W'
section
variable (go gr gb i n c capb B0:Nat) (x:Cx) (Ai Ay b:Nat -> Cx) (M R:World -> Prop)
def p8:Nat -> Value -> World -> Prop
 | 0,v,_=>v = .slice (some ⟨go,0,none⟩) n n
 | 1,v,_=>v = .int .i64 (i:Int)
 | 2,v,_=>v = .slice (some ⟨go,0,none⟩) n n
 | 3,v,_=>v = .int .i64 (i:Int)
 | 4,v,_=>v = .pointer (some ⟨go,i,none⟩)
 | 5,v,_=>v = .slice (some ⟨gr,0,none⟩) n c
 | 6,v,_=>v = .slice (some ⟨gb,0,none⟩) n capb
 | 7,v,_=>v = .int .i64 (i:Int)
 | 8,v,_=>v = .pointer (some ⟨gb,5 * i,none⟩)
 | 9,v,W=>IsQ W v x
 | 10,v,W=>∃ g1,v = .slice (some ⟨g1,0,none⟩) 1 1 /\ B0 <= g1 /\ QBlk W g1 1 (fun _=>True) (fun _=>x)
 | 11,v,W=>∃ gN c',v = .slice (some ⟨gN,0,none⟩) (n + 1) c' /\ n + 1 <= c' /\ QBlk W gN c' (fun j=>j < n + 1) Ay /\ (gN = gr /\ c' = c ∨ B0 <= gN)
 | 12,v,_=>v = .pointer (some ⟨go,i,none⟩)
 | 13,_,W=>R W
 | _,_,_=>True
def r8 (j:Nat) (W W':World):Prop:=if j = 11 then Tn gr W W' /\ QBlk W' gr c (fun _=>False) Ai else if j = 13 then Tn go W W' else Below W.heap.size W W'
variable {go gr gb i n c capb B0 x Ai Ay b M R}
end
def Sqr (n:Nat) (ml:Nat -> Nat):Prop:=Vld n ml /\ n = colsOf n ml
def RetB (w:World) (p:Prop) (e:Ending) (w':World):Prop:=∃ b:Bool,e = .returned (.bool b) /\ (b = true ↔ p) /\ Below w.heap.size w w'
theorem squareN_all (w:World) (v:Value) (n:Nat) (ml:Nat -> Nat) (F:Nat -> Nat -> Cx) (h:NSS w v n ml F) (hn:n <= 1099511627776) (hml:∀ i,i < n -> ml i <= 1099511627776) :
  Calls Tryz.prog 43 #[v] w (RetB w (Sqr n ml)):=by
 have HV:=hid (sidesN_all w v n ml F h hn hml)
 obtain ⟨A,c,rfl,-⟩:=h
 clear hml
 go_enter Tryz.func43,Tryz.ntmps43
 go_wp2_with fail
 refine HV.out.mono ?_
 rintro e W2 ⟨r,cc,b,rfl,hb1,hb2,hb3⟩
 have X1:=hid hb1
 have X2:=hid hb2
 have X3:=hid hb3
 clear hb1 hb2 hb3 HV
 cases b
 ·go_wp2
  go_ret
  exact ⟨false,rfl,⟨fun h=>absurd h sP,fun h=>X1.out.2 h.1⟩,X3.out⟩
 ·go_wp2
  go_ret
  refine ⟨_,rfl,?_,X3.out⟩
  obtain ⟨e1,e2⟩:=X2.out (by trivial)
  have hv:=X1.out.1 (by trivial)
  have:Sqr n ml ↔ r = cc:=⟨fun h=>by rw [e1,e2]; exact h.2,fun h=>⟨hv,by rw [<- e2,<- h]; exact e1.symm⟩⟩
  rw [this]
  simp
  try omega
theorem Sqr.all {n:Nat} {ml:Nat -> Nat} (h:Sqr n ml):∀ i,i < n -> ml i = n:=fun i hi=>by
 have h1:=(h.1.2 i hi).1
 have h2:=h.2
 unfold colsOf at h2
 rw [if_neg oM] at h2
 omega
section
variable {n:Nat} {ml:Nat -> Nat} {F:Nat -> Nat -> Cx} (hF:∀ i k,Sz (F i k) 2) (hn:n <= 40) (hml:∀ i,i < n -> ml i <= 40) (hV:Vld n ml -> n <= 5 /\ colsOf n ml <= 5)
include hF hn hml hV
end
end Go.Proofs.YtffegeaflohfhaaGreatDoor
namespace Go.Proofs.YtffegeaflohfhaaGreatDoor
open Go Go.ChangeShapes Go.WideShapes Go.ChangeAt Go.WideMaps Go.WideElems Go.RowKit Go.Joins
theorem list_size:Tryz.prog.cellsOf 23 = 1:=kR
section
variable {H:Type} {enc:TypeId × Value -> H} {W:World} {base b0:Nat} {v:Value} {d:DataW H} {p:List MemPlace}
theorem open_ratioss (hv:Value.okWide Tryz.prog W .any b0 22 v) (h:DataW.Trod enc Tryz.prog W base (fun _=>true) true 22 v d p) :
  ∃ A len cap ml f,v = .slice A len cap /\ len <= 9223372036854775807 /\ (∀ i,i < len -> ml i <= 9223372036854775807) /\ RatSS W A len ml f /\ ∀ i,Rat64 (f i):=by
 obtain ⟨A,len,cap,rfl⟩:=okWide_slice Tryz.underlying22 hv
 obtain ⟨fuel,hf⟩:=h
 rcases Go.Deep.open_slice Tryz.underlying22 hf with ⟨hcs,-⟩ | ⟨a,len',cap',m,n,D,Pl,hcs,-,hl,hm,hmm,-,hi⟩
 ·simp [Value.cells] at hcs
  obtain ⟨rfl,rfl,rfl⟩:=hcs
  exact ⟨none,0,0,fun _=>0,fun _ _=>(0,0,0),rfl,oM,fun i hi=>oM,fun h=>absurd h oM,fun _ _=>zero64⟩
 ·simp [Value.cells] at hcs
  obtain ⟨rfl,rfl,rfl⟩:=hcs
  have hmx:cap <= 9223372036854775807:=by
   have:maxLen = 9223372036854775807:=dE
   omega
  have hlm:len <= m:=by rw [hmm]; simp; exact hl
  have el:∀ j,j < len -> ∃ (l:Nat) (g:Nat -> Int × Int × Int),l <= 9223372036854775807 /\ Rat64 g /\ ∃ Ai ci,W.cell? (a.add j) = some (.slice Ai l ci) /\ RatS W Ai l g:=fun j hj=>by
   obtain ⟨cs,hc,ht⟩:=hi j oM
   rw [list_size] at hc
   obtain ⟨-,hlen,hat⟩:=World.cells?_some hc
   obtain ⟨Ai,l,ci,g,rfl,h1,h2,h3⟩:=open_ratioc ht
   have k0:=hat 0 oM
   rw [Go.Deep.add_add,Nat.mul_one,Nat.add_zero] at k0
   exact ⟨l,g,h1,h3,Ai,ci,by simpa using k0,h2⟩
  let ml:Nat -> Nat:=fun j=>if hj:j < len then Classical.choose (el j hj) else 0
  let f:Nat -> Nat -> Int × Int × Int:=fun j=>if hj:j < len then Classical.choose (Classical.choose_spec (el j hj)) else fun _=>(0,0,0)
  have hs:∀ j,j < len -> ml j <= 9223372036854775807 /\ Rat64 (f j) /\ ∃ Ai ci,W.cell? (a.add j) = some (.slice Ai (ml j) ci) /\ RatS W Ai (ml j) (f j):=fun j hj=>by
   have:=Classical.choose_spec (Classical.choose_spec (el j hj))
   simp only [ml,f,dif_pos hj]
   exact this
  refine ⟨some a,len,cap,ml,f,rfl,oM,fun i hi=>(hs i hi).1,fun h0=>?_,fun j=>?_⟩
  ·obtain ⟨b,off,spot⟩:=a
   obtain ⟨-,-,A0,c0,g0,-⟩:=hs 0 h0
   have hspot:spot = none:=by simpa [Addr.add] using World.cell?_spot g0
   subst hspot
   have hadd:∀ k,(⟨b,off,none⟩:Addr).add k = ⟨b,off + k,none⟩:=fun k=>by unfold Addr.add; split <;> simp_all
   refine ⟨b,off,rfl,?_,fun j hj=>?_⟩
   ·have:=World.block_lt_of_cell? W _ g0
    simpa [Addr.add] using this
   ·obtain ⟨-,-,Ai,ci,k0,k1⟩:=hs j hj
    rw [hadd] at k0
    exact ⟨Ai,ci,k0,k1⟩
  ·by_cases hj:j < len
   ·exact (hs j hj).2.1
   ·have e:f j = fun _=>(0,0,0):=by simp only [f,dif_neg hj]
    rw [e]
    exact fun _=>zero64
end
end Go.Proofs.YtffegeaflohfhaaGreatDoor
