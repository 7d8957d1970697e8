import Derived.Test.YtffegeaflohfhaaGreatDoorS43
import Derived.Test.YtffegeaflohfhaaGreatDoorT44
import Derived.Test.YtffegeaflohfhaaGreatDoorT45
import Derived.Test.YtffegeaflohfhaaGreatDoorS02
set_option linter.unusedVariables false
set_option linter.unusedSimpArgs false
set_option maxRecDepth 100000
set_option maxHeartbeats 8000000
namespace Go.Proofs.YtffegeaflohfhaaGreatDoor
open Go.RowKit
theorem RowsQ.but {B:Nat} {W W':World} {go:Nat} {gi li ci:Nat -> Nat} {n k:Nat} {V:Nat -> Nat -> Prop} {F:Nat -> Nat -> Cx} (h:RowsQ B W go gi li ci n k V F) {g:Nat} (hb:But W W' g) (he:Ext W W') (h1:go ≠ g) (h2:∀ i,i < k -> gi i ≠ g):RowsQ B W' go gi li ci n k V F:=by
 obtain ⟨cs,c1,c2,c3,c4⟩:=h.cells
 exact ⟨h.sep,h.kn,⟨cs,(hb.other _ h1).trans c1,c2,c3,c4⟩,fun i hi=>(h.rows i hi).but hb he (h2 i hi)⟩
theorem QBlk.cells1 {W:World} {g:Nat} {V:Nat -> Prop} {f:Nat -> Cx} (h:QBlk W g 1 V f) (hV:V 0):∃ A B C p q na ca nb cb nc cc,W.cell? ⟨g,0,none⟩ = some (.bool p) /\ W.cell? ⟨g,1,none⟩ = some (.slice A na ca) /\ W.cell? ⟨g,2,none⟩ = some (.bool q) /\ W.cell? ⟨g,3,none⟩ = some (.slice B nb cb) /\ W.cell? ⟨g,4,none⟩ = some (.slice C nc cc) /\
  IsQ W (.agg #[.bool p,.slice A na ca,.bool q,.slice B nb cb,.slice C nc cc]) (f 0):=by
 obtain ⟨cs,h1,h2,h3,h4⟩:=h
 obtain ⟨A,B,C,p,q,na,ca,nb,cb,nc,cc,a1,a2,a3,a4,a5,a6⟩:=h4 0 oM
 refine ⟨A,B,C,p,q,na,ca,nb,cb,nc,cc,?_,?_,?_,?_,?_,a6 hV⟩
 ·rw [cell_of_row W g _ cs _ (0,0) h1]; exact a1
 ·rw [cell_of_row W g _ cs _ (0,0) h1]; exact a2
 ·rw [cell_of_row W g _ cs _ (0,0) h1]; exact a3
 ·rw [cell_of_row W g _ cs _ (0,0) h1]; exact a4
 ·rw [cell_of_row W g _ cs _ (0,0) h1]; exact a5
section
variable {P:Program} {ops:Array Oper} {a0:Act}
def pv (kl:List RK) (j:Nat):Value -> World -> Prop:=match rk kl j with | .val q=>q | _=>fun _ _=>True
theorem pv_stab {kl:List RK} (h:stabs true kl) (j:Nat):Stab (pv kl j):=by
 unfold pv
 cases e:rk kl j with
 | val q=>exact h.at j q e
 | box _ _=>intro _ _ _ _ _; trivial
 | put _ _=>intro _ _ _ _ _; trivial
def valB (r:List RK):Bool:=r.all fun | .val _=>true | _=>false
theorem AllFree.of {I:World -> Prop} {p:Nat -> Value -> World -> Prop} {m:Nat -> World -> Prop} {r:Nat -> World -> World -> Prop}:∀ (os:List Oper) (i0:Nat),(∀ i o,os[i]? = some o -> FreeOb P ops a0 I p m r o (i0 + i)) -> AllFree P ops a0 I p m r os i0:=by
 intro os
 induction os with
 | nil=>intro _ _; trivial
 | cons o os ih =>
  intro i0 h
  refine ⟨h 0 o rfl,ih (i0 + 1) fun i o' ho=>?_⟩
  have:=h (i + 1) o' (by simpa using ho)
  rwa [show i0 + (i + 1) = i0 + 1 + i by omega] at this
theorem AllObA.at' {kl:List RK} {B:Nat} {w0:World}:∀ (os:List Oper) (r:List RK) (i0:Nat),valB r = true -> AllObA P ops kl B w0 a0 os r i0 -> ∀ i o,os[i]? = some o -> ObA P ops kl B w0 a0 o (i0 + i) (match r.getD i (.val fun _ _=>True) with | .val q=>q | _=>fun _ _=>True):=by
 intro os
 induction os with
 | nil=>intro _ _ _ _ i o ho; simp at ho
 | cons o' os ih =>
  intro r i0 hv h i o ho
  cases r with
  | nil=>exact h.elim
  | cons k r =>
   unfold valB at hv
   rw [List.all_cons,Bool.and_eq_true] at hv
   cases k with
   | val q =>
    cases i with
    | zero =>
     simp at ho
     subst ho
     exact h.1
    | succ i =>
     have:=ih r (i0 + 1) hv.2 h.2 i o (by simpa using ho)
     rw [show i0 + 1 + i = i0 + (i + 1) by omega] at this
     simpa using this
   | box _ _=>simp at hv
   | put _ _=>simp at hv
theorem region_lateA {id:Nat} {dr:Bool} {w:World} {Q:Exit -> Act -> World -> Prop} (kl:List RK) (late:Nat) (R:World -> Prop) (fl:(Nat -> Value) -> Array Value) (hfl:∀ ts,fillT ts ops.toList 0 a0.tmps = fl ts)
  (hm:P.follows .mixedOrders = true) (hb:backB ops = true) (hd:dstB ops a0.tmps.size = true) (hl:looksB ops = true) (hg:(ops.toList.all fun o=>o.guard.isNone) = true)
  (hst:stabs true kl) (hv:valB kl = true) (hlen:kl.length + 1 = ops.size) {ol:Oper} (hol:ops.toList[kl.length]? = some ol) (hlast:((List.range kl.length).all fun j=>j == late || predB ops kl.length j) = true)
  (hob:AllObA P ops kl w.heap.size w a0 (ops.toList.take kl.length) kl 0) (hll:late < kl.length) {o1:Oper} (ho1:ops.toList[late]? = some o1) (hlate:∀ B w0,ObA P ops kl B w0 a0 o1 late (pv kl late))
  (hR:∀ W W',Below W.heap.size W W' -> R W -> R W')
  (store:∀ (ts:Nat -> Value) (W:World) (a:Act),(∀ t,a.eval (.tmp t) = slot ops a0 ts t) -> Below w.heap.size w W -> (∀ j,predB ops kl.length j = true -> PAt kl ts W j) ->
   ∀ K:Act -> World -> Prop,(∀ W',R W' -> Ext W W' -> K (a.put ol.dst undef) W') -> Goes (Oper.wp P ol a W K (fun _ _ _=>False)))
  (fin:∀ (ts:Nat -> Value) (W:World),R W -> Q .normal ⟨fl ts,a0.defers⟩ W) :
  (Code.region id ops dr).wp P Q a0 w:=by
 obtain rfl:fl = fun ts=>fillT ts ops.toList 0 a0.tmps:=funext fun ts=>(hfl ts).symm
 obtain ⟨N,hN⟩:∃ N,N = kl.length:=⟨_,rfl⟩
 rw [<- hN] at hlen hol hlast hob store hll
 refine region_free (fun _=>True) (fun j v W=>if j < N then pv kl j v W else if j = N then R W else True) (fun j W=>if j = late ∨ N < j then True else Below w.heap.size w W) (fun i W W'=>if i = N then Ext W W' else Below W.heap.size W W') hm hb hd hl hg ?_ ?_ ?_ (fun _ _ _ _ h=>h) (AllFree.of _ _ ?_) ?_
 ·intro W hW
  refine ⟨trivial,fun i=>?_⟩
  split
  ·trivial
  ·rcases hW with rfl | rfl
   ·exact Below.refl _ _
   ·exact rfB.drew
 ·intro i j v W W' hij hpr _ hr hp
  by_cases hj:j < N
  ·simp only [if_pos hj] at hp ⊢
   by_cases hi:i = N
   ·simp only [if_pos hi] at hr
    exact pv_stab hst j _ _ _ hr hp
   ·simp only [if_neg hi] at hr
    exact pv_stab hst j _ _ _ (Ext.of_below hr) hp
  ·simp only [if_neg hj] at hp ⊢
   by_cases hjN:j = N
   ·simp only [if_pos hjN] at hp ⊢
    simp only [if_neg (show ¬ i = N by omega)] at hr
    exact hR _ _ hr hp
   ·simp only [if_neg hjN]
 ·intro i j W W' hij hpr _ hr hm0
  by_cases hj:j = late ∨ N < j
  ·simp only [if_pos hj]
  ·simp only [if_neg hj] at hm0 ⊢
   by_cases hi:i = N
   ·exfalso
    subst hi
    have:=List.all_eq_true.1 hlast j (List.mem_range.2 oM)
    rw [hpr] at this
    simp at this
    omega
   ·simp only [if_neg hi] at hr
    exact bT hm0 hr
 ·intro i o ho ts W _ hm0 hp K hK
  rw [Nat.zero_add] at hm0 hp hK
  have hi:i < N + 1:=by
   have:=(List.getElem?_eq_some_iff.1 ho).1
   simpa [hlen] using this
  have hog:o.guard = none:=by simpa using List.all_eq_true.1 hg o (List.mem_of_getElem? ho)
  have hp':∀ j,predB ops i j = true -> PAt kl ts W j:=fun j hj=>by
   have h:=hp j hj
   unfold PAt
   by_cases hjN:j < N
   ·simp only [if_pos hjN] at h
    unfold pv at h
    cases e:rk kl j with
    | val q=>rw [e] at h; exact h
    | box _ _=>trivial
    | put _ _=>trivial
   ·have:rk kl j = .val fun _ _=>True:=by
     unfold rk
     rw [List.getD_eq_getElem?_getD,List.getElem?_eq_none oM]
     rfl
    rw [this]
    trivial
  by_cases hiN:i = N
  ·subst hiN
   rw [hol] at ho
   cases ho
   refine store ts W ⟨fillT ts ops.toList 0 a0.tmps,a0.defers⟩ (fun t=>fill_slot hd ts t) ?_ hp' K fun W' h1 h2=>hK _ _ ?_ ?_
   ·simp only [if_neg (show ¬ (i = late ∨ i < i) from fun c=>by
     rcases c with c | c
     ·omega
     ·omega)] at hm0
    exact hm0
   ·simpa using h1
   ·simpa using h2
  ·have hK':∀ v W',pv kl i v W' -> Below W.heap.size W W' -> K (Act.put ⟨fillT ts ops.toList 0 a0.tmps,a0.defers⟩ o.dst v) W':=fun v W' h1 h2=>hK v W' (by simp only [if_pos (show i < N by omega)]; exact h1) (by simp only [if_neg hiN]; exact h2)
   by_cases hil:i = late
   ·subst hil
    rw [ho1] at ho
    cases ho
    have:=hlate W.heap.size W ts W ⟨fillT ts ops.toList 0 a0.tmps,a0.defers⟩ (fun t=>fill_slot hd ts t) rfB lR hp'
    rw [hog] at this
    exact this K hK'
   ·simp only [if_neg (show ¬ (i = late ∨ N < i) by omega)] at hm0
    have:=AllObA.at' _ _ 0 hv hob i o (by rw [List.getElem?_take_of_lt oM]; exact ho) ts W ⟨fillT ts ops.toList 0 a0.tmps,a0.defers⟩ (fun t=>fill_slot hd ts t) hm0 hm0.size (by rw [Nat.zero_add]; exact hp')
    rw [hog] at this
    exact this K hK'
 ·intro ts W _ hp
  have h:=hp N oM
  simp only [Nat.lt_irrefl,if_false,if_true] at h
  exact fin ts W h
end
def Tn (g:Nat) (W W':World):Prop:=Ext W W' /\ W.heap.size <= W'.heap.size /\ (∀ b,b < W.heap.size -> b ≠ g -> W'.heap[b]? = W.heap[b]?) /\ ∀ B w0,Below B w0 W -> B <= g -> B <= W.heap.size -> Below B w0 W'
theorem Tn.of {g:Nat} {W W':World} (h:Below W.heap.size W W'):Tn g W W':=⟨Ext.of_below h,h.size,fun b hb _=>h.block b hb,fun _ _ k _ hB=>k.trans (h.mono hB)⟩
theorem Tn.but {g:Nat} {W W':World} (h:But W W' g) (he:Ext W W'):Tn g W W':=⟨he,Nat.le_of_eq h.size.symm,fun b _ hb=>h.other b hb,fun _ _ k hg _=>h.below k hg⟩
theorem QBlk.tn {g:Nat} {W W':World} (ht:Tn g W W') {x n:Nat} {V:Nat -> Prop} {f:Nat -> Cx} (h:QBlk W x n V f) (hx:x ≠ g):QBlk W' x n V f:=h.ext ht.1 (ht.2.2.1 _ h.lt hx)
theorem RowsQ.tn {B:Nat} {W W':World} {go:Nat} {gi li ci:Nat -> Nat} {n k:Nat} {V:Nat -> Nat -> Prop} {F:Nat -> Nat -> Cx} (h:RowsQ B W go gi li ci n k V F) {i:Nat} (ht:Tn (gi i) W W') (hi:i < k) (hV:∀ j,¬ V i j) (hq:QBlk W' (gi i) (ci i) (fun _=>False) (F i)):RowsQ B W' go gi li ci n k V F:=by
 obtain ⟨cs,c1,c2,c3,c4⟩:=h.cells
 refine ⟨h.sep,h.kn,⟨cs,(ht.2.2.1 _ h.lt (Ne.symm (h.sep.ne i hi))).trans c1,c2,c3,c4⟩,fun j hj=>?_⟩
 by_cases e:j = i
 ·rw [e]; exact hq.to fun k _ hv=>absurd hv (hV k)
 ·exact QBlk.tn ht (h.rows j hj) fun e'=>e (h.sep.inj j i hj hi e')
section
variable (go gr gb i n c capb B0:Nat) (x:Cx) (Ai Ay b:Nat -> Cx) (M R:World -> Prop)
def p8:Nat -> Value -> World -> Prop
 | 0,v,_=>v = .slice (some ⟨go,0,none⟩) n n
 | 1,v,_=>v = .int .i64 (i:Int)
 | 2,v,_=>v = .slice (some ⟨go,0,none⟩) n n
 | 3,v,_=>v = .int .i64 (i:Int)
 | 4,v,_=>v = .pointer (some ⟨go,i,none⟩)
 | 5,v,_=>v = .slice (some ⟨gr,0,none⟩) n c
 | 6,v,_=>v = .slice (some ⟨gb,0,none⟩) n capb
 | 7,v,_=>v = .int .i64 (i:Int)
 | 8,v,_=>v = .pointer (some ⟨gb,5 * i,none⟩)
 | 9,v,W=>IsQ W v x
 | 10,v,W=>∃ g1,v = .slice (some ⟨g1,0,none⟩) 1 1 /\ B0 <= g1 /\ QBlk W g1 1 (fun _=>True) (fun _=>x)
 | 11,v,W=>∃ gN c',v = .slice (some ⟨gN,0,none⟩) (n + 1) c' /\ n + 1 <= c' /\ QBlk W gN c' (fun j=>j < n + 1) Ay /\ (gN = gr /\ c' = c ∨ B0 <= gN)
 | 12,v,_=>v = .pointer (some ⟨go,i,none⟩)
 | 13,_,W=>R W
 | _,_,_=>True
def m8:Nat -> World -> Prop
 | 5,W=>W.cell? ⟨go,i,none⟩ = some (.slice (some ⟨gr,0,none⟩) n c)
 | 9,W=>QBlk W gb n (fun _=>True) b
 | 11,W=>QBlk W gr c (fun j=>j < n) Ai
 | 13,W=>M W
 | _,_=>True
def r8 (j:Nat) (W W':World):Prop:=if j = 11 then Tn gr W W' /\ QBlk W' gr c (fun _=>False) Ai else if j = 13 then Tn go W W' else Below W.heap.size W W'
variable {go gr gb i n c capb B0 x Ai Ay b M R}
theorem r8.any {j:Nat} {W W':World} (h:r8 go gr c Ai j W W'):∃ g,(g = gr ∨ g = go) /\ Tn g W W':=by
 unfold r8 at h
 split at h
 ·exact ⟨gr,.inl rfl,h.1⟩
 ·split at h
  ·exact ⟨go,.inr rfl,h⟩
  ·exact ⟨go,.inr rfl,Tn.of h⟩
theorem r8.bel {j:Nat} {W W':World} (h:r8 go gr c Ai j W W') (h1:j ≠ 11) (h2:j ≠ 13):Below W.heap.size W W':=by
 unfold r8 at h
 rwa [if_neg h1,if_neg h2] at h
theorem r8_of {j:Nat} {W W':World} (h1:j ≠ 11) (h2:j ≠ 13) (h:Below W.heap.size W W'):r8 go gr c Ai j W W':=by
 unfold r8
 rwa [if_neg h1,if_neg h2]
theorem m8_start {W:World} (h5:W.cell? ⟨go,i,none⟩ = some (.slice (some ⟨gr,0,none⟩) n c)) (h9:QBlk W gb n (fun _=>True) b) (h11:QBlk W gr c (fun j=>j < n) Ai) (h13:M W):∀ j,m8 go gr gb i n c Ai b M j W
 | 5=>h5
 | 9=>h9
 | 11=>h11
 | 13=>h13
 | 0 | 1 | 2 | 3 | 4 | 6 | 7 | 8 | 10 | 12 | _ + 14=>trivial
theorem one_q {W:World} {v:Value} {x:Cx} (h:IsQ W v x) {B:Nat} (hB:B <= W.heap.size):∃ W' g1,(Instr.buildSlice 50 1 #[(0,v)]).run Tryz.prog W = .ok (.slice (some ⟨g1,0,none⟩) 1 1) W' /\ Below W.heap.size W W' /\ B <= g1 /\ QBlk W' g1 1 (fun _=>True) (fun _=>x):=by
 obtain ⟨A,n,c,p,A',n',c',p',A'',n'',c'',-,-,-,rfl,-⟩:=h.parts
 have hb:Below W.heap.size W (W.alloc (.cells #[.bool p,.slice A n c,.bool p',.slice A' n' c',.slice A'' n'' c''] 42 (0,0))):=below_alloc _ _
 exact ⟨_,W.heap.size,kR,hb,hB,QBlk.one (heap_alloc_new _ _) fun _=>h.below hb⟩
theorem p8_keeps {ops:Array Oper} (h1:gr < B0) (h2:go < B0) (h3:gr ≠ go) (hR:∀ W W',Below W.heap.size W W' -> R W -> R W') (hq:predB ops 13 11 = true) (k j:Nat) (v:Value) (W W':World) (hkj:k ≠ j) (hp:predB ops j k = false) (hr:r8 go gr c Ai k W W') (h:p8 go gr gb i n c capb B0 x Ay R j v W):p8 go gr gb i n c capb B0 x Ay R j v W':=by
 obtain ⟨g,hg,ht⟩:=hr.any
 match j,hp,hkj,h with
 | 0,_,_,h | 1,_,_,h | 2,_,_,h | 3,_,_,h | 4,_,_,h | 5,_,_,h | 6,_,_,h | 7,_,_,h | 8,_,_,h | 12,_,_,h=>exact h
 | 9,_,_,h=>exact IsQ.ext h ht.1
 | 10,_,_,⟨g1,e,hb,h⟩=>exact ⟨g1,e,hb,QBlk.tn ht h oM⟩
 | 11,_,hk,⟨gN,c',e,hc,h,hor⟩ =>
  refine ⟨gN,c',e,hc,?_,hor⟩
  by_cases h13:k = 13
  ·subst h13
   unfold r8 at hr
   simp at hr
   exact QBlk.tn hr h oM
  ·exact h.below (hr.bel hk h13)
 | 13,hp,hk,h =>
  refine hR _ _ (hr.bel (fun e=>?_) hk) h
  rw [e,hq] at hp
  cases hp
 | _ + 14,_,_,_=>trivial
theorem m8_keeps {ops:Array Oper} (h1:gr < B0) (h2:go < B0) (h3:gr ≠ go) (h4:gb ≠ gr) (h5:gb ≠ go) (hM:∀ W W',Below W.heap.size W W' -> M W -> M W') (hM2:∀ W W',Tn gr W W' -> QBlk W' gr c (fun _=>False) Ai -> M W -> M W') (hgo:∀ W:World,B0 <= W.heap.size -> go < W.heap.size) (hq:predB ops 13 5 = true)
  (k j:Nat) (W W':World) (hB:B0 <= W.heap.size) (hkj:k ≠ j) (hp:predB ops k j = false) (hr:r8 go gr c Ai k W W') (h:m8 go gr gb i n c Ai b M j W):m8 go gr gb i n c Ai b M j W':=by
 obtain ⟨g,hg,ht⟩:=hr.any
 match j,hp,hkj,h with
 | 0,_,_,_ | 1,_,_,_ | 2,_,_,_ | 3,_,_,_ | 4,_,_,_ | 6,_,_,_ | 7,_,_,_ | 8,_,_,_ | 10,_,_,_ | 12,_,_,_=>trivial
 | 5,hp,_,h =>
  have hk:k ≠ 13:=fun e=>by rw [e,hq] at hp; cases hp
  have hgg:Tn gr W W':=by
   unfold r8 at hr
   by_cases h11:k = 11
   ·rw [if_pos h11] at hr; exact hr.1
   ·rw [if_neg h11,if_neg hk] at hr; exact Tn.of hr
  exact (World.cell?_of_block (w:=W) (hgg.2.2.1 _ (hgo W hB) (Ne.symm h3))).trans h
 | 9,_,_,h=>exact QBlk.tn ht h oM
 | 11,_,hk,h =>
  by_cases h13:k = 13
  ·subst h13
   unfold r8 at hr
   simp at hr
   exact QBlk.tn hr h h3
  ·exact QBlk.below h (hr.bel hk h13)
 | 13,_,hk,h =>
  by_cases h11:k = 11
  ·subst h11
   unfold r8 at hr
   simp at hr
   exact hM2 _ _ hr.1 hr.2 h
  ·exact hM _ _ (hr.bel h11 hk) h
 | _ + 14,_,_,_=>trivial
end
end Go.Proofs.YtffegeaflohfhaaGreatDoor
