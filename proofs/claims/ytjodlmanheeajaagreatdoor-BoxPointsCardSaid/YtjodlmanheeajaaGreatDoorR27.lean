import Derived.Laws.CopyOwn
import Derived.Laws.CopyRow
import Derived.Test.YtjodlmanheeajaaGreatDoorR12
import Derived.Test.YtjodlmanheeajaaGreatDoorR13
import Derived.Test.YtjodlmanheeajaaGreatDoorR02
set_option linter.unusedVariables false
set_option linter.unusedSimpArgs false
set_option maxRecDepth 100000
set_option maxHeartbeats 8000000
namespace Go.Proofs.YtjodlmanheeajaaGreatDoor
open Go.RowKit
section
variable {P:Program} {ops:Array Oper} {a0:Act}
def anyK (n:Nat):List RK:=List.replicate n (.val fun _ _=>True)
theorem rk_any (n i:Nat):rk (anyK n) i = .val fun _ _=>True:=by
 unfold rk anyK
 rw [List.getD_eq_getElem?_getD,List.getElem?_replicate]
 split <;> rfl
theorem wp_transfer0 {o:Oper} {a a1:Act} {W:World} (he:execOp a1.eval o = execOp a.eval o) (hd:o.dst = none) {k:World -> Prop}
  (h:Oper.wp P o a1 W (fun a' W'=>a'.defers = a1.defers /\ k W') (fun _ _ _=>False)) {K:Act -> World -> Prop} {Q:Exit -> Act -> World -> Prop}
  (hk:∀ W',k W' -> K a W'):Oper.wp P o a W K Q:=by
 have hput:∀ (b:Act) v,b.put none v = b:=fun b v=>rfl
 unfold Oper.wp at *
 rw [he] at h
 generalize (execOp a.eval o).run P W = r at *
 cases r with
 | ok n w' =>
  cases n <;> simp only [Oper.upon,hd,hput] at h ⊢
  case value v=>exact hk w' h.2
  case skip=>exact hk w' h.2
  case defer d' =>
   exfalso
   have h1:=h.1
   simp at h1
  case enter f args =>
   refine Calls.mono h fun e w'' h'=>?_
   cases e with
   | returned v=>exact hk w'' h'.2
   | panicked c=>exact h'.elim
   | outgrown=>obtain ⟨_,_,h⟩:=h'; exact h.elim
  case row row args=>exact Rows.mono h fun v w'' h'=>hk w'' h'.2
 | halt x w' =>
  cases x <;> simp only [Oper.upon] at h ⊢
theorem wp_move {o:Oper} {a:Act} {w:World} {K:Act -> World -> Prop} {Q:Exit -> Act -> World -> Prop} {x:Operand} (ho:o.op = .move x) {v:Value} (hx:a.eval x = v) (hK:K (a.put o.dst v) w):o.wp P a w K Q:=by
 unfold Oper.wp execOp
 simp only [ho,hx,Sem.run_pure]
 exact hK
end
section
variable {P:Program} {ops:Array Oper} {a0:Act}
def slot (ops:Array Oper) (a0:Act) (ts:Nat -> Value) (t:Nat):Value :=
 match (List.range ops.size).find? (fun k=>((ops[k]?).bind (·.dst)) == some t) with
 | some k=>ts k
 | none=>a0.tmps.getD t undef
theorem fill_slot (hd:dstB ops a0.tmps.size = true) (ts:Nat -> Value) (t:Nat):(fillT ts ops.toList 0 a0.tmps).getD t undef = slot ops a0 ts t:=by
 unfold slot
 cases hf:(List.range ops.size).find? (fun k=>((ops[k]?).bind (·.dst)) == some t) with
 | some k =>
  have h:=List.find?_some hf
  simp only [beq_iff_eq] at h
  cases ho:ops[k]? with
  | none=>rw [ho] at h; cases h
  | some o =>
   rw [ho] at h
   have h2:o.dst = some t:=h
   simp only
   rw [fillT_at ts t ops.toList 0 k o a0.tmps (by simpa using ho) h2 (dstB_lt hd ho h2) (fun j o' hj hd'=>dstB_one hd (by simpa using hj) ho hd' h2),Nat.zero_add]
 | none =>
  simp only
  refine fillT_other _ _ _ _ _ fun o ho=>?_
  obtain ⟨j,hj⟩:=List.getElem?_of_mem ho
  have hj':ops[j]? = some o:=by simpa using hj
  have:=List.find?_eq_none.1 hf j (List.mem_range.2 (lt_of_op hj'))
  simp only [hj',Option.bind_some,beq_iff_eq] at this
  exact this
def ObA (P:Program) (ops:Array Oper) (kl:List RK) (B:Nat) (w0:World) (a0:Act) (o:Oper) (i:Nat) (p:Value -> World -> Prop):Prop :=
 ∀ (ts:Nat -> Value) (W:World) (a:Act),(∀ t,a.eval (.tmp t) = slot ops a0 ts t) -> Below B w0 W -> B <= W.heap.size -> (∀ j,predB ops i j = true -> match rk kl j with | .val q=>q (ts j) W | _=>True) ->
  Guarded o.guard ts (p undef W) (∀ K:Act -> World -> Prop,(∀ v W',p v W' -> Below W.heap.size W W' -> K (a.put o.dst v) W') -> Goes (Oper.wp P o a W K (fun _ _ _=>False)))
def AllObA (P:Program) (ops:Array Oper) (kl:List RK) (B:Nat) (w0:World) (a0:Act):List Oper -> List RK -> Nat -> Prop
 | o :: os,.val p :: r,i=>ObA P ops kl B w0 a0 o i p /\ AllObA P ops kl B w0 a0 os r (i + 1)
 | _ :: os,.box T z :: r,i=>AllocOk P T z /\ AllObA P ops kl B w0 a0 os r (i + 1)
 | _ :: os,.put b c :: r,i=>(match rk kl b,rk kl c with | .box T z,.val p=>StoreOk P T z p | _,_=>True) /\ AllObA P ops kl B w0 a0 os r (i + 1)
 | [],_,_=>True
 | _ :: _,[],_=>False
theorem AllObA.all (hd:dstB ops a0.tmps.size = true) {kl:List RK} {B:Nat} {w0:World}:∀ (os:List Oper) (r:List RK) (i:Nat),AllObA P ops kl B w0 a0 os r i -> AllOb P ops kl B w0 a0 os r i
 | _ :: os,.val _ :: r,i,h=>⟨fun ts W hb hB hp=>h.1 ts W ⟨fillT ts ops.toList 0 a0.tmps,a0.defers⟩ (fun t=>fill_slot hd ts t) hb hB hp,AllObA.all hd os r (i + 1) h.2⟩
 | _ :: os,.box _ _ :: r,i,h=>⟨h.1,AllObA.all hd os r (i + 1) h.2⟩
 | _ :: os,.put _ _ :: r,i,h=>⟨h.1,AllObA.all hd os r (i + 1) h.2⟩
 | [],_,_,_=>trivial
 | _ :: _,[],_,h=>h
theorem region_litA {id:Nat} {dr:Bool} {w:World} {Q:Exit -> Act -> World -> Prop} (kl:List RK) (fl:(Nat -> Value) -> Array Value) (hfl:∀ ts,fillT ts ops.toList 0 a0.tmps = fl ts) (hm:P.follows .mixedOrders = true) (hb:backB ops = true) (hd:dstB ops a0.tmps.size = true) (hl:looksB ops = true) (hkd:kindB ops kl = true)
  (hst:stabs (hasPut kl) kl) (hlen:kl.length = ops.size) (hob:AllObA P ops kl w.heap.size w a0 (ops.toList.take kl.length) kl 0)
  (fin:∀ (ts:Nat -> Value) (W:World),Below w.heap.size w W -> (∀ i,i < kl.length -> Held kl w.heap.size ts (fun _=>true) W i) ->
   (∀ i j,i < kl.length -> j < kl.length -> i ≠ j -> (match rk kl i,rk kl j with | .box _ _,.box _ _=>ts i ≠ ts j | _,_=>True)) -> Q .normal ⟨fl ts,a0.defers⟩ W) :
  (Code.region id ops dr).wp P Q a0 w:=by
 obtain rfl:fl = fun ts=>fillT ts ops.toList 0 a0.tmps:=funext fun ts=>(hfl ts).symm
 exact region_lin kl hm hb hd hl hkd hst hlen (AllObA.all hd _ _ _ hob) fin
theorem wp_callf {o:Oper} {a:Act} {w:World} {K:Act -> World -> Prop} {Q:Exit -> Act -> World -> Prop} {f:FuncId} {args:Array Operand} {tys:Array TypeId} (ho:o.op = .call ⟨.value (.func f),args,tys⟩)
  {xs:Array Value} (has:args.map a.eval = xs) (hf:∀ w,(invoke (.fn (.func f) #[]) xs).run P w = .ok (.enter f xs) w) (h:Calls P f xs w fun e w'=>∃ v,e = .returned v /\ K (a.put o.dst v) w'):o.wp P a w K Q:=by
 unfold Oper.wp execOp
 have e:a.eval (.func f) = .func (.func f) #[] #[]:=rfl
 simp only [ho,resolve,e,Deferred.ofValue,has,Sem.run_bind,Sem.run_pure,Result.andThen_ok,Array.empty_append,hf]
 refine Calls.mono h fun e w' h'=>?_
 obtain ⟨v,rfl,h'⟩:=h'
 exact h'
theorem wp_not {o:Oper} {a:Act} {w:World} {K:Act -> World -> Prop} {Q:Exit -> Act -> World -> Prop} {T:TypeId} {x:Operand} (ho:o.op = .unOp .not T x) {b:Bool} (hx:a.eval x = .bool b) (hK:K (a.put o.dst (.bool (!b))) w):o.wp P a w K Q:=by
 unfold Oper.wp execOp
 simp only [ho,hx,Op.unary,Sem.run_bind,Sem.run_pure,Result.andThen_ok]
 exact hK
theorem wp_pick {o:Oper} {a:Act} {w:World} {K:Act -> World -> Prop} {Q:Exit -> Act -> World -> Prop} {c x y:Operand} (ho:o.op = .pick c x y) {b:Bool} (hc:a.eval c = .bool b) {v:Value} (hv:(if b then a.eval x else a.eval y) = v) (hK:K (a.put o.dst v) w):o.wp P a w K Q:=by
 unfold Oper.wp execOp
 simp only [ho,hc,asBool,Sem.run_bind,Sem.run_pure,Result.andThen_ok,hv]
 exact hK
theorem wp_bin {o:Oper} {a:Act} {w:World} {K:Act -> World -> Prop} {Q:Exit -> Act -> World -> Prop} {op:BinOp} {T T':TypeId} {x y:Operand} (ho:o.op = .binOp op T x y T') {u v r:Value} (hx:a.eval x = u) (hy:a.eval y = v)
  (hr:(do eqGuard op T x y u v; binOp op T u v:Sem Value).run P w = .ok r w) (hK:K (a.put o.dst r) w):o.wp P a w K Q:=by
 unfold Oper.wp execOp
 simp only [ho,hx,hy]
 rw [Sem.run_bind,hr]
 simp only [Sem.run_pure,Result.andThen_ok]
 exact hK
end
section
variable {P:Program} {ops:Array Oper} {kl:List RK} {B:Nat} {w0:World} {a0:Act} {o:Oper} {i:Nat} {p:Value -> World -> Prop}
def PAt (kl:List RK) (ts:Nat -> Value) (W:World) (j:Nat):Prop:=match rk kl j with | .val q=>q (ts j) W | _=>True
def ObU (P:Program) (ops:Array Oper) (kl:List RK) (B:Nat) (w0:World) (a0:Act) (o:Oper) (i:Nat) (p:Value -> World -> Prop):Prop :=
 ∀ (ts:Nat -> Value) (W:World) (a:Act),(∀ t,a.eval (.tmp t) = slot ops a0 ts t) -> Below B w0 W -> B <= W.heap.size -> (∀ j,predB ops i j = true -> PAt kl ts W j) ->
  ∀ K:Act -> World -> Prop,(∀ v W',p v W' -> Below W.heap.size W W' -> K (a.put o.dst v) W') -> Goes (Oper.wp P o a W K (fun _ _ _=>False))
theorem obN (h:ObU P ops kl B w0 a0 o i p) (hg:o.guard = none:=by rfl):ObA P ops kl B w0 a0 o i p:=fun ts W a ha hb hB hp=>by
 rw [hg]
 exact h ts W a ha hb hB hp
theorem PAt.of {q:Value -> World -> Prop} {ts:Nat -> Value} {W:World} {j:Nat} (h:PAt kl ts W j) (hk:rk kl j = .val q):q (ts j) W:=by
 unfold PAt at h
 rw [hk] at h
 exact h
theorem obG (g:Nat) (h:ObU P ops kl B w0 a0 o i p) {want:Bool} (hg:o.guard = some (g,want):=by rfl) (hk:rk kl g = .val (kIs (.bool want)):=by rfl) (hj:predB ops i g = true:=by kernel_rfl):ObA P ops kl B w0 a0 o i p:=fun ts W a ha hb hB hp=>by
 rw [hg]
 exact Guarded.on (PAt.of (hp g hj) hk) (h ts W a ha hb hB hp)
theorem obZ (g:Nat) {want b:Bool} (hg:o.guard = some (g,want):=by rfl) (hk:rk kl g = .val (kIs (.bool b)):=by rfl) (hn:b ≠ want:=by decide) (hj:predB ops i g = true:=by kernel_rfl):ObA P ops kl B w0 a0 o i (kIs undef):=fun ts W a ha hb hB hp=>by
 rw [hg]
 exact Guarded.off (PAt.of (hp g hj) hk) hn rfl
def Kn (ops:Array Oper) (kl:List RK) (a0:Act) (i:Nat) (x:Operand) (v:(Nat -> Value) -> Value):Prop :=
 ∀ (ts:Nat -> Value) (W:World) (a:Act),(∀ t,a.eval (.tmp t) = slot ops a0 ts t) -> (∀ j,predB ops i j = true -> PAt kl ts W j) -> a.eval x = v ts
theorem Kn.k {v:Value}:Kn ops kl a0 i (.const v) (fun _=>v):=fun _ _ _ _ _=>rfl
theorem Kn.fr {s:Nat} {v:Value} (hs:∀ ts,slot ops a0 ts s = v:=by intro ts; kernel_rfl):Kn ops kl a0 i (.tmp s) (fun _=>v):=fun ts _ _ ha _=>(ha s).trans (hs ts)
theorem Kn.is (j:Nat) {s:Nat} {v:Value} (hs:∀ ts,slot ops a0 ts s = ts j:=by intro ts; kernel_rfl) (hk:rk kl j = .val (kIs v):=by rfl) (hj:predB ops i j = true:=by kernel_rfl):Kn ops kl a0 i (.tmp s) (fun _=>v) :=
 fun ts _ _ ha hp=>(ha s).trans ((hs ts).trans ((hp j hj).of hk))
theorem uMv (j:Nat) {s:Nat} (ho:o.op = .move (.tmp s):=by rfl) (hs:∀ ts,slot ops a0 ts s = ts j:=by intro ts; kernel_rfl) (hk:rk kl j = .val p:=by rfl) (hj:predB ops i j = true:=by kernel_rfl):ObU P ops kl B w0 a0 o i p :=
 fun ts W a ha hb hB hp K hK=>⟨wp_move ho ((ha s).trans (hs ts)) (hK _ _ ((hp j hj).of hk) rfB)⟩
theorem wp_assign {a:Act} {w:World} {K:Act -> World -> Prop} {Q:Exit -> Act -> World -> Prop} {x:Operand} (ho:o.op = .assign x) {v:Value} (hx:a.eval x = v) (hK:K (a.put o.dst v) w):o.wp P a w K Q:=by
 unfold Oper.wp execOp
 simp only [ho,hx,Sem.run_pure]
 exact hK
theorem uAs (j:Nat) {s:Nat} (ho:o.op = .assign (.tmp s):=by rfl) (hs:∀ ts,slot ops a0 ts s = ts j:=by intro ts; kernel_rfl) (hk:rk kl j = .val p:=by rfl) (hj:predB ops i j = true:=by kernel_rfl):ObU P ops kl B w0 a0 o i p :=
 fun ts W a ha hb hB hp K hK=>⟨wp_assign ho ((ha s).trans (hs ts)) (hK _ _ ((hp j hj).of hk) rfB)⟩
theorem uMf {x:Operand} {v:Value} (ho:o.op = .move x) (hx:Kn ops kl a0 i x (fun _=>v)):ObU P ops kl B w0 a0 o i (kIs v) :=
 fun ts W a ha hb hB hp K hK=>⟨wp_move ho (hx ts W a ha hp) (hK _ _ rfl rfB)⟩
theorem uNt {x:Operand} {T:TypeId} {b:Bool} (ho:o.op = .unOp .not T x) (hx:Kn ops kl a0 i x (fun _=>.bool b)):ObU P ops kl B w0 a0 o i (kIs (.bool (!b))) :=
 fun ts W a ha hb hB hp K hK=>⟨wp_not ho (hx ts W a ha hp) (hK _ _ rfl rfB)⟩
theorem uPt {c x y:Operand} {v:Value} (ho:o.op = .pick c x y) (hc:Kn ops kl a0 i c (fun _=>.bool true)) (hx:Kn ops kl a0 i x (fun _=>v)):ObU P ops kl B w0 a0 o i (kIs v) :=
 fun ts W a ha hb hB hp K hK=>⟨wp_pick ho (hc ts W a ha hp) (by rw [if_pos rfl]; exact hx ts W a ha hp) (hK _ _ rfl rfB)⟩
theorem uPf {c x y:Operand} {v:Value} (ho:o.op = .pick c x y) (hc:Kn ops kl a0 i c (fun _=>.bool false)) (hx:Kn ops kl a0 i y (fun _=>v)):ObU P ops kl B w0 a0 o i (kIs v) :=
 fun ts W a ha hb hB hp K hK=>⟨wp_pick ho (hc ts W a ha hp) (by rw [if_neg dE]; exact hx ts W a ha hp) (hK _ _ rfl rfB)⟩
theorem uBn {op:BinOp} {T T':TypeId} {x y:Operand} {u v r:Value} (ho:o.op = .binOp op T x y T') (hx:Kn ops kl a0 i x (fun _=>u)) (hy:Kn ops kl a0 i y (fun _=>v))
  (hr:∀ w,(do eqGuard op T x y u v; binOp op T u v:Sem Value).run P w = .ok r w:=by intro w; rfl):ObU P ops kl B w0 a0 o i (kIs r) :=
 fun ts W a ha hb hB hp K hK=>⟨wp_bin ho (hx ts W a ha hp) (hy ts W a ha hp) (hr W) (hK _ _ rfl rfB)⟩
theorem uC0 {f:FuncId} {tys:Array TypeId} (ho:o.op = .call ⟨.value (.func f),#[],tys⟩)
  (con:∀ ts W,Below B w0 W -> (∀ j,predB ops i j = true -> PAt kl ts W j) -> Calls P f #[] W fun e w'=>∃ v,e = .returned v /\ p v w' /\ Below W.heap.size W w')
  (hf:∀ w,(invoke (.fn (.func f) #[]) #[]).run P w = .ok (.enter f #[]) w:=by intro w; kernel_rfl):ObU P ops kl B w0 a0 o i p :=
 fun ts W a ha hb hB hp K hK=>⟨wp_callf ho (xs:=#[]) sP hf ((con ts W hb hp).mono fun e w' ⟨v,h1,h2,h3⟩=>⟨v,h1,hK v w' h2 h3⟩)⟩
theorem uC2 {f:FuncId} {tys:Array TypeId} {x y:Operand} {u v:(Nat -> Value) -> Value} (ho:o.op = .call ⟨.value (.func f),#[x,y],tys⟩) (hx:Kn ops kl a0 i x u) (hy:Kn ops kl a0 i y v)
  (con:∀ ts W,Below B w0 W -> (∀ j,predB ops i j = true -> PAt kl ts W j) -> Calls P f #[u ts,v ts] W fun e w'=>∃ v,e = .returned v /\ p v w' /\ Below W.heap.size W w')
  (hf:∀ w a b,(invoke (.fn (.func f) #[]) #[a,b]).run P w = .ok (.enter f #[a,b]) w:=by intro w a b; kernel_rfl):ObU P ops kl B w0 a0 o i p :=
 fun ts W a ha hb hB hp K hK=>⟨wp_callf ho (xs:=#[u ts,v ts]) (by simp [hx ts W a ha hp,hy ts W a ha hp]) (fun w=>hf w _ _) ((con ts W hb hp).mono fun e w' ⟨v,h1,h2,h3⟩=>⟨v,h1,hK v w' h2 h3⟩)⟩
theorem cIs {f:FuncId} {xs:Array Value} {W:World} {u:Value} (h:Calls P f xs W fun e w'=>e = .returned u /\ Below W.heap.size W w'):Calls P f xs W fun e w'=>∃ v,e = .returned v /\ kIs u v w' /\ Below W.heap.size W w' :=
 h.mono fun _ _ ⟨h1,h2⟩=>⟨u,h1,rfl,h2⟩
theorem uLr {T t:TypeId} {x:Operand} {g:Nat} {cs:Array Value} {d:TypeDesc} (ho:o.op = .load T x) (hx:Kn ops kl a0 i x (fun _=>.pointer (some ⟨g,0,none⟩))) (hX:∀ W,Below B w0 W -> W.heap[g]? = some (.cells cs t (0,0)))
  (hu:P.underlying T = some d) (hd:(match d with | .struct _ | .array _ _=>true | _=>false) = true:=by rfl) (hi:(P.info? T).map (·.size) = some cs.size:=by kernel_rfl):ObU P ops kl B w0 a0 o i (kIs (.agg cs)) :=
 fun ts W a ha hb hB hp K hK=>⟨wp_load_row T x ho g (hx ts W a ha hp) _ cs _ d (hX W hb) hu hd hi (hK _ _ rfl rfB)⟩
end
end Go.Proofs.YtjodlmanheeajaaGreatDoor
