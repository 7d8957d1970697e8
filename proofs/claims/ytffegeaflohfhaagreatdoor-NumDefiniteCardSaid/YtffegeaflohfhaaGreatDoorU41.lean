import Derived.Test.YtffegeaflohfhaaGreatDoorS12
import Derived.Test.YtffegeaflohfhaaGreatDoorS13
import Derived.Test.YtffegeaflohfhaaGreatDoorS20
import Derived.Laws.Append
import Derived.Laws.AppendOwn
import Derived.Test.YtffegeaflohfhaaGreatDoorS02
set_option linter.unusedVariables false
set_option linter.unusedSimpArgs false
set_option maxRecDepth 100000
set_option maxHeartbeats 8000000
namespace Go.Proofs.YtffegeaflohfhaaGreatDoor
open Go.RowKit
section
variable {T:TypeId} {Is:World -> Value -> Cx -> Prop} {W W':World} {g c n:Nat} {F:Nat -> Cx}
theorem one_mem {cs:Array Value} (h:∀ v ∈ cs.toList,∃ ds:Array Value,ds.all (·.oneCell') = true /\ v ∈ ds.toList):cs.all (·.oneCell') = true:=by
 rw [Array.all_eq_true_iff_forall_mem]
 intro v hv
 obtain ⟨ds,h1,h2⟩:=h v (by simpa using hv)
 exact Array.all_eq_true_iff_forall_mem.1 h1 v (by simpa using h2)
theorem wp_append {P:Program} {o:Oper} {a:Act} {K:Act -> World -> Prop} {Q:Exit -> Act -> World -> Prop} {x y:Operand} {t:TypeId} (ho:o.op = .call ⟨.builtin .append,#[x,y],#[t,t]⟩) {v u r:Value} (hx:a.eval x = v) (hy:a.eval y = u)
  (hr:∀ ty,(Builtin.append_ #[t,t] ty #[v,u]).run P W = .ok r W') (hK:K (a.put o.dst r) W'):o.wp P a W K Q:=by
 unfold Oper.wp execOp
 simp only [ho,resolve,invoke,builtin,List.map_toArray,List.map_cons,List.map_nil,hx,hy,Sem.run_bind,Sem.run_pure,Result.andThen_ok,hr]
 exact hK
theorem one_app {a b:Array Value} (ha:a.all (·.oneCell') = true) (hb:b.all (·.oneCell') = true):(a ++ b).all (·.oneCell') = true:=by
 rw [Array.all_append,ha,hb]; rfl
theorem one_sub {a b:Array Value} (ha:a.all (·.oneCell') = true) (h:∀ v ∈ b.toList,v ∈ a.toList):b.all (·.oneCell') = true:=one_mem fun v hv=>⟨a,ha,h v hv⟩
theorem zero_sub (z:Array Value) (h:0 < z.size) (k:Nat):∀ v ∈ (Builtin.zeroCells z k).toList,v ∈ z.toList:=fun v hv=>by
 unfold Builtin.zeroCells at hv
 simp only [Array.toList_map,List.mem_map] at hv
 obtain ⟨i,-,rfl⟩:=hv
 have hlt:i % z.size < z.size:=Nat.mod_lt _ h
 rw [getElem!_pos z _ hlt]
 exact Array.mem_toList_iff.2 (Array.getElem_mem hlt)
end
section
variable {P:Program} {ops:Array Oper} {a0:Act}
def FreeOb (P:Program) (ops:Array Oper) (a0:Act) (I:World -> Prop) (p:Nat -> Value -> World -> Prop) (m:Nat -> World -> Prop) (r:Nat -> World -> World -> Prop) (o:Oper) (i:Nat):Prop :=
 ∀ (ts:Nat -> Value) (W:World),I W -> m i W -> (∀ j,predB ops i j = true -> p j (ts j) W) -> ∀ K:Act -> World -> Prop,(∀ v W',p i v W' -> r i W W' -> K (Act.put ⟨fillT ts ops.toList 0 a0.tmps,a0.defers⟩ o.dst v) W') ->
  Goes (Oper.wp P o ⟨fillT ts ops.toList 0 a0.tmps,a0.defers⟩ W K (fun _ _ _=>False))
def AllFree (P:Program) (ops:Array Oper) (a0:Act) (I:World -> Prop) (p:Nat -> Value -> World -> Prop) (m:Nat -> World -> Prop) (r:Nat -> World -> World -> Prop):List Oper -> Nat -> Prop
 | [],_=>True
 | o :: os,i=>FreeOb P ops a0 I p m r o i /\ AllFree P ops a0 I p m r os (i + 1)
theorem AllFree.at {I:World -> Prop} {p:Nat -> Value -> World -> Prop} {m:Nat -> World -> Prop} {r:Nat -> World -> World -> Prop} {os:List Oper} {i0:Nat} (h:AllFree P ops a0 I p m r os i0) {i:Nat} {o:Oper} (ho:os[i]? = some o):FreeOb P ops a0 I p m r o (i0 + i):=by
 induction os generalizing i0 i with
 | nil=>simp at ho
 | cons o1 os ih =>
  cases i with
  | zero=>simp at ho; subst ho; exact h.1
  | succ i =>
   have:=ih h.2 (i:=i) (by simpa using ho)
   rw [show i0 + 1 + i = i0 + (i + 1) by omega] at this
   exact this
def anyK (n:Nat):List RK:=List.replicate n (.val fun _ _=>True)
theorem rk_any (n i:Nat):rk (anyK n) i = .val fun _ _=>True:=by
 unfold rk anyK
 rw [List.getD_eq_getElem?_getD,List.getElem?_replicate]
 split <;> rfl
theorem wp_transfer0 {o:Oper} {a a1:Act} {W:World} (he:execOp a1.eval o = execOp a.eval o) (hd:o.dst = none) {k:World -> Prop}
  (h:Oper.wp P o a1 W (fun a' W'=>a'.defers = a1.defers /\ k W') (fun _ _ _=>False)) {K:Act -> World -> Prop} {Q:Exit -> Act -> World -> Prop}
  (hk:∀ W',k W' -> K a W'):Oper.wp P o a W K Q:=by
 have hput:∀ (b:Act) v,b.put none v = b:=fun b v=>rfl
 unfold Oper.wp at *
 rw [he] at h
 generalize (execOp a.eval o).run P W = r at *
 cases r with
 | ok n w' =>
  cases n <;> simp only [Oper.upon,hd,hput] at h ⊢
  case value v=>exact hk w' h.2
  case skip=>exact hk w' h.2
  case defer d' =>
   exfalso
   have h1:=h.1
   simp at h1
  case enter f args =>
   refine Calls.mono h fun e w'' h'=>?_
   cases e with
   | returned v=>exact hk w'' h'.2
   | panicked c=>exact h'.elim
   | outgrown=>obtain ⟨_,_,h⟩:=h'; exact h.elim
  case row row args=>exact Rows.mono h fun v w'' h'=>hk w'' h'.2
 | halt x w' =>
  cases x <;> simp only [Oper.upon] at h ⊢
theorem free_step {w:World} {Q:Exit -> Act -> World -> Prop} (I:World -> Prop) (p:Nat -> Value -> World -> Prop) (m:Nat -> World -> Prop) (r:Nat -> World -> World -> Prop)
  (hb:backB ops = true) (hd:dstB ops a0.tmps.size = true) (hl:looksB ops = true)
  (hpp:∀ i j v W W',i ≠ j -> predB ops j i = false -> I W -> r i W W' -> p j v W -> p j v W') (hmm:∀ i j W W',i ≠ j -> predB ops i j = false -> I W -> r i W W' -> m j W -> m j W') (hII:∀ i W W',r i W W' -> I W -> I W')
  (hob:AllFree P ops a0 I p m r ops.toList 0) {L:Nat -> Bool} {ts:Nat -> Value} {a:Act} {W:World} (h:Lin ops (anyK ops.size) w.heap.size w a0 L ts a w) (hI:I W) (hp:∀ i,i < ops.size -> L i = true -> p i (ts i) W) (hmem:∀ i,L i = false -> m i W)
  {i:Nat} {o:Oper} (ho:ops[i]? = some o) (hLi:L i = false) (hpre:∀ e ∈ o.after,Region.binds .any e = true -> L e.on = true) :
  Oper.wp P o a W (fun a' W'=>∃ ts,Lin ops (anyK ops.size) w.heap.size w a0 (fun j=>j == i || L j) ts a' w /\ I W' /\ (∀ k,k < ops.size -> (k == i || L k) = true -> p k (ts k) W') /\ (∀ k,(k == i || L k) = false -> m k W')) Q:=by
 have hlen:(anyK ops.size).length = ops.size:=by simp [anyK]
 have hi:=lt_of_op ho
 have hobi:=hob.at (i:=i) (o:=o) (by simpa using ho)
 rw [Nat.zero_add] at hobi
 have hpk:∀ j,predB ops i j = true -> p j (ts j) W:=fun j hj=>by
  obtain ⟨e,he,hbd,rfl⟩:=predB_spec ho hj
  exact hp _ (by have:=backB_spec hb ho e he hbd; omega) (hpre e he hbd)
 have hbehind:∀ v W',p i v W' -> r i W W' -> ∃ ts,Lin ops (anyK ops.size) w.heap.size w a0 (fun j=>j == i || L j) ts (a.put o.dst v) w /\ I W' /\ (∀ k,k < ops.size -> (k == i || L k) = true -> p k (ts k) W') /\ (∀ k,(k == i || L k) = false -> m k W'):=fun v W' hpv hrW=>by
  obtain ⟨f1,f2,f3,f4⟩:=h.put_frame hd ho v
  refine ⟨fun j=>if j = i then v else ts j,⟨h.below,f1,f2,f3,f4,fun j hj _=>?_,fun j k T z T' z' _ _ hk=>(by rw [rk_any] at hk; cases hk),fun j o' hj hL e he hbd=>?_,fun j hL=>?_⟩,hII i W W' hrW hI,fun j hj hL=>?_,fun j hL=>?_⟩
  ·unfold Held
   rw [rk_any]
   trivial
  ·by_cases hji:j = i
   ·subst hji
    rw [ho] at hj
    cases hj
    simp [hpre e he hbd]
   ·simp [h.shut j o' hj (by simpa [hji] using hL) e he hbd]
  ·rw [hlen]
   by_cases hji:j = i
   ·rw [hji]; exact hi
   ·have:=h.dom j (by simpa [hji] using hL)
    rwa [hlen] at this
  ·by_cases hji:j = i
   ·subst hji
    simpa using hpv
   ·simp only [if_neg hji]
    have hLj:L j = true:=by simpa [hji] using hL
    have hoj:ops[j]? = some ops[j]:=Array.getElem?_eq_getElem hj
    have hpr:predB ops j i = false:=by
     cases hq:predB ops j i with
     | false=>rfl
     | true =>
      obtain ⟨e,he,hbd,rfl⟩:=predB_spec hoj hq
      rw [h.shut j _ hoj hLj e he hbd] at hLi
      cases hLi
    exact hpp i j _ W W' (Ne.symm hji) hpr hI hrW (hp j hj hLj)
  ·have hji:j ≠ i:=fun e=>by simp [e] at hL
   have hLj:L j = false:=by simpa [hji] using hL
   have hpr:predB ops i j = false:=by
    cases hq:predB ops i j with
    | false=>rfl
    | true =>
     obtain ⟨e,he,hbd,rfl⟩:=predB_spec ho hq
     rw [hpre e he hbd] at hLj
     cases hLj
   exact hmm i j W W' (Ne.symm hji) hpr hI hrW (hmem j hLj)
 cases hod:o.dst with
 | some d =>
  have hsz:d < (fillT ts ops.toList 0 a0.tmps).size:=by rw [fillT_size]; exact dstB_lt hd ho hod
  refine wp_transfer (k:=fun v W'=>p i v W' /\ r i W W') (execOp_lin hd hl h ho hpre) hod hsz (hobi ts W hI (hmem i hLi) hpk _ fun v W' hpv hrW=>?_).out ?_
  ·rw [hod]
   simp only [Act.put]
   refine ⟨trivial,?_⟩
   have e:(Array.setIfInBounds (fillT ts ops.toList 0 a0.tmps) d v).getD d undef = v:=by
    simp [Array.getD_eq_getD_getElem?,Array.getElem?_setIfInBounds,hsz]
   rw [e]
   exact ⟨hpv,hrW⟩
  ·rintro v W' ⟨hpv,hrW⟩
   exact hbehind v W' hpv hrW
 | none =>
  refine wp_transfer0 (k:=fun W'=>∃ v,p i v W' /\ r i W W') (execOp_lin hd hl h ho hpre) hod (hobi ts W hI (hmem i hLi) hpk _ fun v W' hpv hrW=>?_).out ?_
  ·rw [hod]
   exact ⟨rfl,v,hpv,hrW⟩
  ·rintro W' ⟨v,hpv,hrW⟩
   have:=hbehind v W' hpv hrW
   rw [hod] at this
   exact this
theorem region_free {id:Nat} {dr:Bool} {w:World} {Q:Exit -> Act -> World -> Prop} (I:World -> Prop) (p:Nat -> Value -> World -> Prop) (m:Nat -> World -> Prop) (r:Nat -> World -> World -> Prop)
  (hm:P.follows .mixedOrders = true) (hb:backB ops = true) (hd:dstB ops a0.tmps.size = true) (hl:looksB ops = true) (hg:(ops.toList.all fun o=>o.guard.isNone) = true)
  (hs:∀ W,W = w ∨ W = w.drew -> I W /\ ∀ i,m i W)
  (hpp:∀ i j v W W',i ≠ j -> predB ops j i = false -> I W -> r i W W' -> p j v W -> p j v W') (hmm:∀ i j W W',i ≠ j -> predB ops i j = false -> I W -> r i W W' -> m j W -> m j W') (hII:∀ i W W',r i W W' -> I W -> I W')
  (hob:AllFree P ops a0 I p m r ops.toList 0)
  (fin:∀ (ts:Nat -> Value) (W:World),I W -> (∀ i,i < ops.size -> p i (ts i) W) -> Q .normal ⟨fillT ts ops.toList 0 a0.tmps,a0.defers⟩ W) :
  (Code.region id ops dr).wp P Q a0 w:=by
 have hlen:(anyK ops.size).length = ops.size:=by simp [anyK]
 refine wp_region_lin' (fun L a W=>∃ ts,Lin ops (anyK ops.size) w.heap.size w a0 L ts a w /\ I W /\ (∀ i,i < ops.size -> L i = true -> p i (ts i) W) /\ (∀ i,L i = false -> m i W)) hm hb ?_ ?_ fun w' hw'=>?_
 ·rintro L a W ⟨ts,h,hI,hp,hmem⟩ i o ho hLi hpre
  have hi:=lt_of_op ho
  have hog:o.guard = none:=by simpa using List.all_eq_true.1 hg o (Array.mem_toList_iff.2 (Array.mem_of_getElem? ho))
  have hwant:Region.wanted o (yielded ops a.tmps) = true:=by unfold Region.wanted; rw [hog]
  unfold wpOp
  rw [ho]
  simp only [hwant,if_true]
  exact .inl (free_step I p m r hb hd hl hpp hmm hII hob h hI hp hmem ho hLi hpre)
 ·rintro L a W ⟨ts,h,hI,hp,-⟩ hall
  obtain ⟨ha,-,-⟩:=lin_fin hd h oM (fun j hj=>hall j oM) (fun i o ho hi=>by have:=lt_of_op ho; omega)
  rw [ha]
  exact fin ts W hI fun i hi=>hp i hi (hall i hi)
 ·obtain ⟨hI,hmw⟩:=hs w' hw'
  obtain ⟨ts,h⟩:=lin_start (ops:=ops) (kl:=anyK ops.size) (a0:=a0) (w:=w) (.inl rfl)
  exact ⟨ts,h,hI,(fun i _ hL=>absurd hL sP),fun i _=>hmw i⟩
theorem wp_move {o:Oper} {a:Act} {w:World} {K:Act -> World -> Prop} {Q:Exit -> Act -> World -> Prop} {x:Operand} (ho:o.op = .move x) {v:Value} (hx:a.eval x = v) (hK:K (a.put o.dst v) w):o.wp P a w K Q:=by
 unfold Oper.wp execOp
 simp only [ho,hx,Sem.run_pure]
 exact hK
end
section
variable {P:Program} {ops:Array Oper} {a0:Act}
def slot (ops:Array Oper) (a0:Act) (ts:Nat -> Value) (t:Nat):Value :=
 match (List.range ops.size).find? (fun k=>((ops[k]?).bind (·.dst)) == some t) with
 | some k=>ts k
 | none=>a0.tmps.getD t undef
theorem fill_slot (hd:dstB ops a0.tmps.size = true) (ts:Nat -> Value) (t:Nat):(fillT ts ops.toList 0 a0.tmps).getD t undef = slot ops a0 ts t:=by
 unfold slot
 cases hf:(List.range ops.size).find? (fun k=>((ops[k]?).bind (·.dst)) == some t) with
 | some k =>
  have h:=List.find?_some hf
  simp only [beq_iff_eq] at h
  cases ho:ops[k]? with
  | none=>rw [ho] at h; cases h
  | some o =>
   rw [ho] at h
   have h2:o.dst = some t:=h
   simp only
   rw [fillT_at ts t ops.toList 0 k o a0.tmps (by simpa using ho) h2 (dstB_lt hd ho h2) (fun j o' hj hd'=>dstB_one hd (by simpa using hj) ho hd' h2),Nat.zero_add]
 | none =>
  simp only
  refine fillT_other _ _ _ _ _ fun o ho=>?_
  obtain ⟨j,hj⟩:=List.getElem?_of_mem ho
  have hj':ops[j]? = some o:=by simpa using hj
  have:=List.find?_eq_none.1 hf j (List.mem_range.2 (lt_of_op hj'))
  simp only [hj',Option.bind_some,beq_iff_eq] at this
  exact this
def ObA (P:Program) (ops:Array Oper) (kl:List RK) (B:Nat) (w0:World) (a0:Act) (o:Oper) (i:Nat) (p:Value -> World -> Prop):Prop :=
 ∀ (ts:Nat -> Value) (W:World) (a:Act),(∀ t,a.eval (.tmp t) = slot ops a0 ts t) -> Below B w0 W -> B <= W.heap.size -> (∀ j,predB ops i j = true -> match rk kl j with | .val q=>q (ts j) W | _=>True) ->
  Guarded o.guard ts (p undef W) (∀ K:Act -> World -> Prop,(∀ v W',p v W' -> Below W.heap.size W W' -> K (a.put o.dst v) W') -> Goes (Oper.wp P o a W K (fun _ _ _=>False)))
def AllObA (P:Program) (ops:Array Oper) (kl:List RK) (B:Nat) (w0:World) (a0:Act):List Oper -> List RK -> Nat -> Prop
 | o :: os,.val p :: r,i=>ObA P ops kl B w0 a0 o i p /\ AllObA P ops kl B w0 a0 os r (i + 1)
 | _ :: os,.box T z :: r,i=>AllocOk P T z /\ AllObA P ops kl B w0 a0 os r (i + 1)
 | _ :: os,.put b c :: r,i=>(match rk kl b,rk kl c with | .box T z,.val p=>StoreOk P T z p | _,_=>True) /\ AllObA P ops kl B w0 a0 os r (i + 1)
 | [],_,_=>True
 | _ :: _,[],_=>False
theorem AllObA.all (hd:dstB ops a0.tmps.size = true) {kl:List RK} {B:Nat} {w0:World}:∀ (os:List Oper) (r:List RK) (i:Nat),AllObA P ops kl B w0 a0 os r i -> AllOb P ops kl B w0 a0 os r i
 | _ :: os,.val _ :: r,i,h=>⟨fun ts W hb hB hp=>h.1 ts W ⟨fillT ts ops.toList 0 a0.tmps,a0.defers⟩ (fun t=>fill_slot hd ts t) hb hB hp,AllObA.all hd os r (i + 1) h.2⟩
 | _ :: os,.box _ _ :: r,i,h=>⟨h.1,AllObA.all hd os r (i + 1) h.2⟩
 | _ :: os,.put _ _ :: r,i,h=>⟨h.1,AllObA.all hd os r (i + 1) h.2⟩
 | [],_,_,_=>trivial
 | _ :: _,[],_,h=>h
theorem region_litA {id:Nat} {dr:Bool} {w:World} {Q:Exit -> Act -> World -> Prop} (kl:List RK) (fl:(Nat -> Value) -> Array Value) (hfl:∀ ts,fillT ts ops.toList 0 a0.tmps = fl ts) (hm:P.follows .mixedOrders = true) (hb:backB ops = true) (hd:dstB ops a0.tmps.size = true) (hl:looksB ops = true) (hkd:kindB ops kl = true)
  (hst:stabs (hasPut kl) kl) (hlen:kl.length = ops.size) (hob:AllObA P ops kl w.heap.size w a0 (ops.toList.take kl.length) kl 0)
  (fin:∀ (ts:Nat -> Value) (W:World),Below w.heap.size w W -> (∀ i,i < kl.length -> Held kl w.heap.size ts (fun _=>true) W i) ->
   (∀ i j,i < kl.length -> j < kl.length -> i ≠ j -> (match rk kl i,rk kl j with | .box _ _,.box _ _=>ts i ≠ ts j | _,_=>True)) -> Q .normal ⟨fl ts,a0.defers⟩ W) :
  (Code.region id ops dr).wp P Q a0 w:=by
 obtain rfl:fl = fun ts=>fillT ts ops.toList 0 a0.tmps:=funext fun ts=>(hfl ts).symm
 exact region_lin kl hm hb hd hl hkd hst hlen (AllObA.all hd _ _ _ hob) fin
theorem wp_callf {o:Oper} {a:Act} {w:World} {K:Act -> World -> Prop} {Q:Exit -> Act -> World -> Prop} {f:FuncId} {args:Array Operand} {tys:Array TypeId} (ho:o.op = .call ⟨.value (.func f),args,tys⟩)
  {xs:Array Value} (has:args.map a.eval = xs) (hf:∀ w,(invoke (.fn (.func f) #[]) xs).run P w = .ok (.enter f xs) w) (h:Calls P f xs w fun e w'=>∃ v,e = .returned v /\ K (a.put o.dst v) w'):o.wp P a w K Q:=by
 unfold Oper.wp execOp
 have e:a.eval (.func f) = .func (.func f) #[] #[]:=rfl
 simp only [ho,resolve,e,Deferred.ofValue,has,Sem.run_bind,Sem.run_pure,Result.andThen_ok,Array.empty_append,hf]
 refine Calls.mono h fun e w' h'=>?_
 obtain ⟨v,rfl,h'⟩:=h'
 exact h'
theorem wp_not {o:Oper} {a:Act} {w:World} {K:Act -> World -> Prop} {Q:Exit -> Act -> World -> Prop} {T:TypeId} {x:Operand} (ho:o.op = .unOp .not T x) {b:Bool} (hx:a.eval x = .bool b) (hK:K (a.put o.dst (.bool (!b))) w):o.wp P a w K Q:=by
 unfold Oper.wp execOp
 simp only [ho,hx,Op.unary,Sem.run_bind,Sem.run_pure,Result.andThen_ok]
 exact hK
theorem wp_pick {o:Oper} {a:Act} {w:World} {K:Act -> World -> Prop} {Q:Exit -> Act -> World -> Prop} {c x y:Operand} (ho:o.op = .pick c x y) {b:Bool} (hc:a.eval c = .bool b) {v:Value} (hv:(if b then a.eval x else a.eval y) = v) (hK:K (a.put o.dst v) w):o.wp P a w K Q:=by
 unfold Oper.wp execOp
 simp only [ho,hc,asBool,Sem.run_bind,Sem.run_pure,Result.andThen_ok,hv]
 exact hK
theorem wp_bin {o:Oper} {a:Act} {w:World} {K:Act -> World -> Prop} {Q:Exit -> Act -> World -> Prop} {op:BinOp} {T T':TypeId} {x y:Operand} (ho:o.op = .binOp op T x y T') {u v r:Value} (hx:a.eval x = u) (hy:a.eval y = v)
  (hr:(do eqGuard op T x y u v; binOp op T u v:Sem Value).run P w = .ok r w) (hK:K (a.put o.dst r) w):o.wp P a w K Q:=by
 unfold Oper.wp execOp
 simp only [ho,hx,hy]
 rw [Sem.run_bind,hr]
 simp only [Sem.run_pure,Result.andThen_ok]
 exact hK
end
section
variable {P:Program} {ops:Array Oper} {kl:List RK} {B:Nat} {w0:World} {a0:Act} {o:Oper} {i:Nat} {p:Value -> World -> Prop}
def PAt (kl:List RK) (ts:Nat -> Value) (W:World) (j:Nat):Prop:=match rk kl j with | .val q=>q (ts j) W | _=>True
def ObU (P:Program) (ops:Array Oper) (kl:List RK) (B:Nat) (w0:World) (a0:Act) (o:Oper) (i:Nat) (p:Value -> World -> Prop):Prop :=
 ∀ (ts:Nat -> Value) (W:World) (a:Act),(∀ t,a.eval (.tmp t) = slot ops a0 ts t) -> Below B w0 W -> B <= W.heap.size -> (∀ j,predB ops i j = true -> PAt kl ts W j) ->
  ∀ K:Act -> World -> Prop,(∀ v W',p v W' -> Below W.heap.size W W' -> K (a.put o.dst v) W') -> Goes (Oper.wp P o a W K (fun _ _ _=>False))
theorem obN (h:ObU P ops kl B w0 a0 o i p) (hg:o.guard = none:=by rfl):ObA P ops kl B w0 a0 o i p:=fun ts W a ha hb hB hp=>by
 rw [hg]
 exact h ts W a ha hb hB hp
theorem PAt.of {q:Value -> World -> Prop} {ts:Nat -> Value} {W:World} {j:Nat} (h:PAt kl ts W j) (hk:rk kl j = .val q):q (ts j) W:=by
 unfold PAt at h
 rw [hk] at h
 exact h
theorem pg {q:Value -> World -> Prop} {ts:Nat -> Value} {W:World} (j:Nat) (h:∀ j,predB ops i j = true -> PAt kl ts W j) (hk:rk kl j = .val q:=by rfl) (hj:predB ops i j = true:=by kernel_rfl):q (ts j) W:=(h j hj).of hk
theorem obG (g:Nat) (h:ObU P ops kl B w0 a0 o i p) {want:Bool} (hg:o.guard = some (g,want):=by rfl) (hk:rk kl g = .val (kIs (.bool want)):=by rfl) (hj:predB ops i g = true:=by kernel_rfl):ObA P ops kl B w0 a0 o i p:=fun ts W a ha hb hB hp=>by
 rw [hg]
 exact Guarded.on (PAt.of (hp g hj) hk) (h ts W a ha hb hB hp)
theorem obZ (g:Nat) {want b:Bool} (hg:o.guard = some (g,want):=by rfl) (hk:rk kl g = .val (kIs (.bool b)):=by rfl) (hn:b ≠ want:=by decide) (hj:predB ops i g = true:=by kernel_rfl):ObA P ops kl B w0 a0 o i (kIs undef):=fun ts W a ha hb hB hp=>by
 rw [hg]
 exact Guarded.off (PAt.of (hp g hj) hk) hn rfl
def Kn (ops:Array Oper) (kl:List RK) (a0:Act) (i:Nat) (x:Operand) (v:(Nat -> Value) -> Value):Prop :=
 ∀ (ts:Nat -> Value) (W:World) (a:Act),(∀ t,a.eval (.tmp t) = slot ops a0 ts t) -> (∀ j,predB ops i j = true -> PAt kl ts W j) -> a.eval x = v ts
theorem Kn.k {v:Value}:Kn ops kl a0 i (.const v) (fun _=>v):=fun _ _ _ _ _=>rfl
theorem Kn.fr {s:Nat} {v:Value} (hs:∀ ts,slot ops a0 ts s = v:=by intro ts; kernel_rfl):Kn ops kl a0 i (.tmp s) (fun _=>v):=fun ts _ _ ha _=>(ha s).trans (hs ts)
theorem Kn.is (j:Nat) {s:Nat} {v:Value} (hs:∀ ts,slot ops a0 ts s = ts j:=by intro ts; kernel_rfl) (hk:rk kl j = .val (kIs v):=by rfl) (hj:predB ops i j = true:=by kernel_rfl):Kn ops kl a0 i (.tmp s) (fun _=>v) :=
 fun ts _ _ ha hp=>(ha s).trans ((hs ts).trans ((hp j hj).of hk))
theorem Kn.at (j:Nat) {s:Nat} (hs:∀ ts,slot ops a0 ts s = ts j:=by intro ts; kernel_rfl):Kn ops kl a0 i (.tmp s) (fun ts=>ts j):=fun ts _ _ ha _=>(ha s).trans (hs ts)
theorem uMv (j:Nat) {s:Nat} (ho:o.op = .move (.tmp s):=by rfl) (hs:∀ ts,slot ops a0 ts s = ts j:=by intro ts; kernel_rfl) (hk:rk kl j = .val p:=by rfl) (hj:predB ops i j = true:=by kernel_rfl):ObU P ops kl B w0 a0 o i p :=
 fun ts W a ha hb hB hp K hK=>⟨wp_move ho ((ha s).trans (hs ts)) (hK _ _ ((hp j hj).of hk) rfB)⟩
theorem wp_assign {a:Act} {w:World} {K:Act -> World -> Prop} {Q:Exit -> Act -> World -> Prop} {x:Operand} (ho:o.op = .assign x) {v:Value} (hx:a.eval x = v) (hK:K (a.put o.dst v) w):o.wp P a w K Q:=by
 unfold Oper.wp execOp
 simp only [ho,hx,Sem.run_pure]
 exact hK
theorem uAs (j:Nat) {s:Nat} (ho:o.op = .assign (.tmp s):=by rfl) (hs:∀ ts,slot ops a0 ts s = ts j:=by intro ts; kernel_rfl) (hk:rk kl j = .val p:=by rfl) (hj:predB ops i j = true:=by kernel_rfl):ObU P ops kl B w0 a0 o i p :=
 fun ts W a ha hb hB hp K hK=>⟨wp_assign ho ((ha s).trans (hs ts)) (hK _ _ ((hp j hj).of hk) rfB)⟩
theorem uMf {x:Operand} {v:Value} (ho:o.op = .move x) (hx:Kn ops kl a0 i x (fun _=>v)):ObU P ops kl B w0 a0 o i (kIs v) :=
 fun ts W a ha hb hB hp K hK=>⟨wp_move ho (hx ts W a ha hp) (hK _ _ rfl rfB)⟩
theorem uNt {x:Operand} {T:TypeId} {b:Bool} (ho:o.op = .unOp .not T x) (hx:Kn ops kl a0 i x (fun _=>.bool b)):ObU P ops kl B w0 a0 o i (kIs (.bool (!b))) :=
 fun ts W a ha hb hB hp K hK=>⟨wp_not ho (hx ts W a ha hp) (hK _ _ rfl rfB)⟩
theorem uPt {c x y:Operand} {v:Value} (ho:o.op = .pick c x y) (hc:Kn ops kl a0 i c (fun _=>.bool true)) (hx:Kn ops kl a0 i x (fun _=>v)):ObU P ops kl B w0 a0 o i (kIs v) :=
 fun ts W a ha hb hB hp K hK=>⟨wp_pick ho (hc ts W a ha hp) (by rw [if_pos rfl]; exact hx ts W a ha hp) (hK _ _ rfl rfB)⟩
theorem uPf {c x y:Operand} {v:Value} (ho:o.op = .pick c x y) (hc:Kn ops kl a0 i c (fun _=>.bool false)) (hx:Kn ops kl a0 i y (fun _=>v)):ObU P ops kl B w0 a0 o i (kIs v) :=
 fun ts W a ha hb hB hp K hK=>⟨wp_pick ho (hc ts W a ha hp) (by rw [if_neg dE]; exact hx ts W a ha hp) (hK _ _ rfl rfB)⟩
theorem uBn {op:BinOp} {T T':TypeId} {x y:Operand} {u v r:Value} (ho:o.op = .binOp op T x y T') (hx:Kn ops kl a0 i x (fun _=>u)) (hy:Kn ops kl a0 i y (fun _=>v))
  (hr:∀ w,(do eqGuard op T x y u v; binOp op T u v:Sem Value).run P w = .ok r w:=by intro w; rfl):ObU P ops kl B w0 a0 o i (kIs r) :=
 fun ts W a ha hb hB hp K hK=>⟨wp_bin ho (hx ts W a ha hp) (hy ts W a ha hp) (hr W) (hK _ _ rfl rfB)⟩
theorem uC0 {f:FuncId} {tys:Array TypeId} (ho:o.op = .call ⟨.value (.func f),#[],tys⟩)
  (con:∀ ts W,Below B w0 W -> (∀ j,predB ops i j = true -> PAt kl ts W j) -> Calls P f #[] W fun e w'=>∃ v,e = .returned v /\ p v w' /\ Below W.heap.size W w')
  (hf:∀ w,(invoke (.fn (.func f) #[]) #[]).run P w = .ok (.enter f #[]) w:=by intro w; kernel_rfl):ObU P ops kl B w0 a0 o i p :=
 fun ts W a ha hb hB hp K hK=>⟨wp_callf ho (xs:=#[]) sP hf ((con ts W hb hp).mono fun e w' ⟨v,h1,h2,h3⟩=>⟨v,h1,hK v w' h2 h3⟩)⟩
theorem uC1 {f:FuncId} {tys:Array TypeId} {x:Operand} {u:(Nat -> Value) -> Value} (ho:o.op = .call ⟨.value (.func f),#[x],tys⟩) (hx:Kn ops kl a0 i x u)
  (con:∀ ts W,Below B w0 W -> (∀ j,predB ops i j = true -> PAt kl ts W j) -> Calls P f #[u ts] W fun e w'=>∃ v,e = .returned v /\ p v w' /\ Below W.heap.size W w')
  (hf:∀ w a,(invoke (.fn (.func f) #[]) #[a]).run P w = .ok (.enter f #[a]) w:=by intro w a; kernel_rfl):ObU P ops kl B w0 a0 o i p :=
 fun ts W a ha hb hB hp K hK=>⟨wp_callf ho (xs:=#[u ts]) (by simp [hx ts W a ha hp]) (fun w=>hf w _) ((con ts W hb hp).mono fun e w' ⟨v,h1,h2,h3⟩=>⟨v,h1,hK v w' h2 h3⟩)⟩
theorem uC2 {f:FuncId} {tys:Array TypeId} {x y:Operand} {u v:(Nat -> Value) -> Value} (ho:o.op = .call ⟨.value (.func f),#[x,y],tys⟩) (hx:Kn ops kl a0 i x u) (hy:Kn ops kl a0 i y v)
  (con:∀ ts W,Below B w0 W -> (∀ j,predB ops i j = true -> PAt kl ts W j) -> Calls P f #[u ts,v ts] W fun e w'=>∃ v,e = .returned v /\ p v w' /\ Below W.heap.size W w')
  (hf:∀ w a b,(invoke (.fn (.func f) #[]) #[a,b]).run P w = .ok (.enter f #[a,b]) w:=by intro w a b; kernel_rfl):ObU P ops kl B w0 a0 o i p :=
 fun ts W a ha hb hB hp K hK=>⟨wp_callf ho (xs:=#[u ts,v ts]) (by simp [hx ts W a ha hp,hy ts W a ha hp]) (fun w=>hf w _ _) ((con ts W hb hp).mono fun e w' ⟨v,h1,h2,h3⟩=>⟨v,h1,hK v w' h2 h3⟩)⟩
theorem cIs {f:FuncId} {xs:Array Value} {W:World} {u:Value} (h:Calls P f xs W fun e w'=>e = .returned u /\ Below W.heap.size W w'):Calls P f xs W fun e w'=>∃ v,e = .returned v /\ kIs u v w' /\ Below W.heap.size W w' :=
 h.mono fun _ _ ⟨h1,h2⟩=>⟨u,h1,rfl,h2⟩
end
section
variable {P:Program} {ops:Array Oper} {kl:List RK} {B:Nat} {w0:World} {a0:Act} {o:Oper} {i:Nat} {p:Value -> World -> Prop}
theorem uIx {T E:TypeId} {sz g l c k q:Nat} {x y:Operand} (ho:o.op = .indexAddr T x y) (hx:Kn ops kl a0 i x (fun _=>.slice (some ⟨g,0,none⟩) l c)) (hy:Kn ops kl a0 i y (fun _=>.int .i64 (k:Int))) (hk:k < l) (hq:k * sz = q)
  (hT:P.underlying T = some (.slice E)) (hs:∀ w,(sizeOf E).run P w = .ok sz w):ObU P ops kl B w0 a0 o i (kIs (.pointer (some ⟨g,q,none⟩))) :=
 fun ts W a ha hb hB hp K hK=>⟨by
  have e1:=hx ts W a ha hp
  have e2:=hy ts W a ha hp
  have hk':(0:Int) <= (k:Int) /\ (k:Int) < (l:Int):=oM
  unfold Oper.wp execOp
  simp only [ho,e1,e2]
  have e3:(Instr.indexAt T (.slice (some ⟨g,0,none⟩) l c) (.int .i64 (k:Int))).run P W = .ok (.pointer (some ⟨g,q,none⟩)) W:=by
   simp [Instr.indexAt,run_underlying hT,asIntOf,Sem.run_bind,hs,hk'.2,Addr.add,hq]
   rw [if_pos hk]
   by_cases h0:q = 0 <;> simp [h0]
  simp only [Sem.run_bind,e3,Sem.run_pure,Result.andThen_ok]
  exact hK _ _ rfl rfB⟩
theorem uLc {T:TypeId} {x:Operand} {b:Addr} {v:Value} (ho:o.op = .load T x) (hx:Kn ops kl a0 i x (fun _=>.pointer (some b))) (hc:∀ W,Below B w0 W -> W.cell? b = some v) (hT:∀ w,(isAgg T).run P w = .ok false w):ObU P ops kl B w0 a0 o i (kIs v) :=
 fun ts W a ha hb hB hp K hK=>⟨by
  have e1:=hx ts W a ha hp
  have e3:(loadVar T b).run P W = .ok v W:=by
   simp [loadVar,Sem.run_bind,hT,go_sem,hc W hb]
  unfold Oper.wp execOp
  simp only [ho,e1,Instr.loadAt,Instr.sureAddr,Sem.run_bind,Sem.run_pure,Result.andThen_ok,e3]
  exact hK _ _ rfl rfB⟩
theorem region_lastA {id:Nat} {dr:Bool} {w:World} {Q:Exit -> Act -> World -> Prop} (kl:List RK) (fl:(Nat -> Value) -> Array Value) (hfl:∀ ts,fillT ts ops.toList 0 a0.tmps = fl ts) (hm:P.follows .mixedOrders = true) (hb:backB ops = true) (hd:dstB ops a0.tmps.size = true) (hl:looksB ops = true) (hkd:kindB ops kl = true)
  (hst:stabs (hasPut kl) kl) (hlen:kl.length + 1 = ops.size) {ol:Oper} (hol:ops.toList[kl.length]? = some ol) (hlast:(ol.dst.isNone && ol.guard.isNone && (List.range kl.length).all (predB ops kl.length)) = true)
  (hob:AllObA P ops kl w.heap.size w a0 (ops.toList.take kl.length) kl 0)
  (fin:∀ (ts:Nat -> Value) (W:World) (a:Act),(∀ t,a.eval (.tmp t) = slot ops a0 ts t) -> Below w.heap.size w W -> (∀ i,i < kl.length -> Held kl w.heap.size ts (fun _=>true) W i) ->
   ∀ K:World -> Prop,(∀ W',Q .normal ⟨fl ts,a0.defers⟩ W' -> K W') -> Goes (Oper.wp P ol a W (fun a' W'=>a'.defers = a.defers /\ K W') (fun _ _ _=>False))) :
  (Code.region id ops dr).wp P Q a0 w:=by
 obtain rfl:fl = fun ts=>fillT ts ops.toList 0 a0.tmps:=funext fun ts=>(hfl ts).symm
 have hdn:ol.dst = none:=by
  simp only [Bool.and_eq_true] at hlast
  simpa using hlast.1.1
 refine region_last kl hm hb hd hl hkd hst hlen hol hlast (AllObA.all hd _ _ _ hob) fun ts W hbW hh _ K hK=>?_
 have h:=(fin ts W ⟨fillT ts ops.toList 0 a0.tmps,a0.defers⟩ (fun t=>fill_slot hd ts t) hbW hh (fun W'=>K ⟨fillT ts ops.toList 0 a0.tmps,a0.defers⟩ W') fun W' hq=>hK _ _ hq).out
 exact ⟨wp_transfer0 (k:=fun W'=>K ⟨fillT ts ops.toList 0 a0.tmps,a0.defers⟩ W') rfl hdn h fun W' hk=>hk⟩
end
end Go.Proofs.YtffegeaflohfhaaGreatDoor
