import Derived.Test.YtjodlmanheeajaaGreatDoorR27
import Derived.Test.YtjodlmanheeajaaGreatDoorR41
import Derived.Test.YtjodlmanheeajaaGreatDoorR02
set_option linter.unusedVariables false
set_option linter.unusedSimpArgs false
set_option maxRecDepth 100000
set_option maxHeartbeats 8000000
namespace Go.Proofs.YtjodlmanheeajaaGreatDoor
open Go.RowKit
section
variable {P:Program} {ops:Array Oper} {a0:Act}
def FreeObG (P:Program) (ops:Array Oper) (a0:Act) (I:World -> Prop) (p:Nat -> Value -> World -> Prop) (m:Nat -> World -> Prop) (r:Nat -> World -> World -> Prop) (o:Oper) (i:Nat):Prop :=
 ∀ (ts:Nat -> Value) (W:World) (a:Act),(∀ t,a.eval (.tmp t) = slot ops a0 ts t) -> I W -> m i W -> (∀ j,predB ops i j = true -> p j (ts j) W) -> Guarded o.guard ts (p i undef W /\ r i W W) (∀ K:Act -> World -> Prop,(∀ v W',p i v W' -> r i W W' -> K (a.put o.dst v) W') ->
  Goes (Oper.wp P o a W K (fun _ _ _=>False)))
def AllFreeG (P:Program) (ops:Array Oper) (a0:Act) (I:World -> Prop) (p:Nat -> Value -> World -> Prop) (m:Nat -> World -> Prop) (r:Nat -> World -> World -> Prop):List Oper -> Nat -> Prop
 | [],_=>True
 | o :: os,i=>FreeObG P ops a0 I p m r o i /\ AllFreeG P ops a0 I p m r os (i + 1)
theorem AllFreeG.at {I:World -> Prop} {p:Nat -> Value -> World -> Prop} {m:Nat -> World -> Prop} {r:Nat -> World -> World -> Prop} {os:List Oper} {i0:Nat} (h:AllFreeG P ops a0 I p m r os i0) {i:Nat} {o:Oper} (ho:os[i]? = some o):FreeObG P ops a0 I p m r o (i0 + i):=by
 induction os generalizing i0 i with
 | nil=>simp at ho
 | cons o1 os ih =>
  cases i with
  | zero=>simp at ho; subst ho; exact h.1
  | succ i =>
   have:=ih h.2 (i:=i) (by simpa using ho)
   rw [show i0 + 1 + i = i0 + (i + 1) by omega] at this
   exact this
theorem free_stepG {w:World} {Q:Exit -> Act -> World -> Prop} (I:World -> Prop) (p:Nat -> Value -> World -> Prop) (m:Nat -> World -> Prop) (r:Nat -> World -> World -> Prop)
  (hb:backB ops = true) (hd:dstB ops a0.tmps.size = true) (hl:looksB ops = true)
  (hpp:∀ i j v W W',i ≠ j -> predB ops j i = false -> I W -> r i W W' -> p j v W -> p j v W') (hmm:∀ i j W W',i ≠ j -> predB ops i j = false -> I W -> r i W W' -> m j W -> m j W') (hII:∀ i W W',r i W W' -> I W -> I W')
  (hob:AllFreeG P ops a0 I p m r ops.toList 0) {L:Nat -> Bool} {ts:Nat -> Value} {a:Act} {W:World} (h:Lin ops (anyK ops.size) w.heap.size w a0 L ts a w) (hI:I W) (hp:∀ i,i < ops.size -> L i = true -> p i (ts i) W) (hmem:∀ i,L i = false -> m i W)
  {i:Nat} {o:Oper} (ho:ops[i]? = some o) (hLi:L i = false) (hpre:∀ e ∈ o.after,Region.binds .any e = true -> L e.on = true) :
  wpOp P ops Q i (fun a' W'=>∃ ts,Lin ops (anyK ops.size) w.heap.size w a0 (fun j=>j == i || L j) ts a' w /\ I W' /\ (∀ k,k < ops.size -> (k == i || L k) = true -> p k (ts k) W') /\ (∀ k,(k == i || L k) = false -> m k W')) a W:=by
 have hlen:(anyK ops.size).length = ops.size:=by simp [anyK]
 have hi:=lt_of_op ho
 have hobi:=hob.at (i:=i) (o:=o) (by simpa using ho)
 rw [Nat.zero_add] at hobi
 have hpk:∀ j,predB ops i j = true -> p j (ts j) W:=fun j hj=>by
  obtain ⟨e,he,hbd,rfl⟩:=predB_spec ho hj
  exact hp _ (by have:=backB_spec hb ho e he hbd; omega) (hpre e he hbd)
 have hbehind:∀ v W',p i v W' -> r i W W' -> ∃ ts,Lin ops (anyK ops.size) w.heap.size w a0 (fun j=>j == i || L j) ts (a.put o.dst v) w /\ I W' /\ (∀ k,k < ops.size -> (k == i || L k) = true -> p k (ts k) W') /\ (∀ k,(k == i || L k) = false -> m k W'):=fun v W' hpv hrW=>by
  obtain ⟨f1,f2,f3,f4⟩:=h.put_frame hd ho v
  refine ⟨fun j=>if j = i then v else ts j,⟨h.below,f1,f2,f3,f4,fun j hj _=>?_,fun j k T z T' z' _ _ hk=>(by rw [rk_any] at hk; cases hk),fun j o' hj hL e he hbd=>?_,fun j hL=>?_⟩,hII i W W' hrW hI,fun j hj hL=>?_,fun j hL=>?_⟩
  ·unfold Held
   rw [rk_any]
   trivial
  ·by_cases hji:j = i
   ·subst hji
    rw [ho] at hj
    cases hj
    simp [hpre e he hbd]
   ·simp [h.shut j o' hj (by simpa [hji] using hL) e he hbd]
  ·rw [hlen]
   by_cases hji:j = i
   ·rw [hji]; exact hi
   ·have:=h.dom j (by simpa [hji] using hL)
    rwa [hlen] at this
  ·by_cases hji:j = i
   ·subst hji
    simpa using hpv
   ·simp only [if_neg hji]
    have hLj:L j = true:=by simpa [hji] using hL
    have hoj:ops[j]? = some ops[j]:=Array.getElem?_eq_getElem hj
    have hpr:predB ops j i = false:=by
     cases hq:predB ops j i with
     | false=>rfl
     | true =>
      obtain ⟨e,he,hbd,rfl⟩:=predB_spec hoj hq
      rw [h.shut j _ hoj hLj e he hbd] at hLi
      cases hLi
    exact hpp i j _ W W' (Ne.symm hji) hpr hI hrW (hp j hj hLj)
  ·have hji:j ≠ i:=fun e=>by simp [e] at hL
   have hLj:L j = false:=by simpa [hji] using hL
   have hpr:predB ops i j = false:=by
    cases hq:predB ops i j with
    | false=>rfl
    | true =>
     obtain ⟨e,he,hbd,rfl⟩:=predB_spec ho hq
     rw [hpre e he hbd] at hLj
     cases hLj
   exact hmm i j W W' (Ne.symm hji) hpr hI hrW (hmem j hLj)
 obtain ⟨hgd0,-,-⟩:=looksB_spec hl ho
 have hob1:=hobi ts W ⟨fillT ts ops.toList 0 a0.tmps,a0.defers⟩ (fun t=>fill_slot hd ts t) hI (hmem i hLi) hpk
 have main:(∀ K:Act -> World -> Prop,(∀ v W',p i v W' -> r i W W' -> K (Act.put ⟨fillT ts ops.toList 0 a0.tmps,a0.defers⟩ o.dst v) W') -> Goes (Oper.wp P o ⟨fillT ts ops.toList 0 a0.tmps,a0.defers⟩ W K (fun _ _ _=>False))) ->
   Oper.wp P o a W (fun a' W'=>∃ ts,Lin ops (anyK ops.size) w.heap.size w a0 (fun j=>j == i || L j) ts a' w /\ I W' /\ (∀ k,k < ops.size -> (k == i || L k) = true -> p k (ts k) W') /\ (∀ k,(k == i || L k) = false -> m k W')) Q:=fun hob2=>by
  cases hod:o.dst with
  | some d =>
   have hsz:d < (fillT ts ops.toList 0 a0.tmps).size:=by rw [fillT_size]; exact dstB_lt hd ho hod
   refine wp_transfer (k:=fun v W'=>p i v W' /\ r i W W') (execOp_lin hd hl h ho hpre) hod hsz (hob2 _ fun v W' hpv hrW=>?_).out ?_
   ·rw [hod]
    simp only [Act.put]
    refine ⟨trivial,?_⟩
    have e:(Array.setIfInBounds (fillT ts ops.toList 0 a0.tmps) d v).getD d undef = v:=by
     simp [Array.getD_eq_getD_getElem?,Array.getElem?_setIfInBounds,hsz]
    rw [e]
    exact ⟨hpv,hrW⟩
   ·rintro v W' ⟨hpv,hrW⟩
    exact hbehind v W' hpv hrW
  | none =>
   refine wp_transfer0 (k:=fun W'=>∃ v,p i v W' /\ r i W W') (execOp_lin hd hl h ho hpre) hod (hob2 _ fun v W' hpv hrW=>?_).out ?_
   ·rw [hod]
    exact ⟨rfl,v,hpv,hrW⟩
   ·rintro W' ⟨v,hpv,hrW⟩
    have:=hbehind v W' hpv hrW
    rw [hod] at this
    exact this
 unfold wpOp
 rw [ho]
 simp only
 cases hgd:o.guard with
 | none =>
  have hwant:Region.wanted o (yielded ops a.tmps) = true:=by unfold Region.wanted; rw [hgd]
  simp only [hwant,if_true]
  rw [hgd] at hob1
  exact .inl (main hob1)
 | some gw =>
  obtain ⟨g,want⟩:=gw
  rw [hgd] at hob1
  obtain ⟨b,hb1,hb2,hb3⟩:=hob1
  obtain ⟨e,he,hbd,rfl,og,dg,hog,hdg⟩:=hgd0 g want hgd
  have hLg:=hpre e he hbd
  have hy:yielded ops a.tmps e.on = some b:=by
   unfold yielded
   rw [hog]
   simp only [Option.bind_some,hdg]
   have h1:=h.here _ _ _ hog hdg hLg
   rw [hb1] at h1
   have h2:a.tmps[dg]? = some (.bool b):=by
    rw [Array.getD_eq_getD_getElem?] at h1
    cases hx:a.tmps[dg]? with
    | none =>
     have:=Array.getElem?_eq_none_iff.1 hx
     have h3:=dstB_lt hd hog hdg
     rw [h.size] at this
     omega
    | some y=>rw [hx] at h1; simp at h1; rw [h1]
   simp [h2]
  have hwd:Region.wanted o (yielded ops a.tmps) = (b == want):=by unfold Region.wanted; rw [hgd]; simp [hy]
  rw [hwd]
  by_cases hbw:b = want
  ·simp only [hbw,beq_self_eq_true,if_true]
   exact .inl (main (hb2 hbw))
  ·have:(b == want) = false:=by simpa using hbw
   simp only [this,Bool.false_eq_true,if_false]
   exact hbehind undef W (hb3 hbw).1 (hb3 hbw).2
theorem region_freeG {id:Nat} {dr:Bool} {w:World} {Q:Exit -> Act -> World -> Prop} (I:World -> Prop) (p:Nat -> Value -> World -> Prop) (m:Nat -> World -> Prop) (r:Nat -> World -> World -> Prop)
  (hm:P.follows .mixedOrders = true) (hb:backB ops = true) (hd:dstB ops a0.tmps.size = true) (hl:looksB ops = true)
  (fl:(Nat -> Value) -> Array Value) (hfl:∀ ts,fillT ts ops.toList 0 a0.tmps = fl ts) (hs:∀ W,W = w ∨ W = w.drew -> I W /\ ∀ i,m i W)
  (hpp:∀ i j v W W',i ≠ j -> predB ops j i = false -> I W -> r i W W' -> p j v W -> p j v W') (hmm:∀ i j W W',i ≠ j -> predB ops i j = false -> I W -> r i W W' -> m j W -> m j W') (hII:∀ i W W',r i W W' -> I W -> I W')
  (hob:AllFreeG P ops a0 I p m r ops.toList 0)
  (fin:∀ (ts:Nat -> Value) (W:World),I W -> (∀ i,i < ops.size -> p i (ts i) W) -> Q .normal ⟨fl ts,a0.defers⟩ W) :
  (Code.region id ops dr).wp P Q a0 w:=by
 obtain rfl:fl = fun ts=>fillT ts ops.toList 0 a0.tmps:=funext fun ts=>(hfl ts).symm
 have hlen:(anyK ops.size).length = ops.size:=by simp [anyK]
 refine wp_region_lin' (fun L a W=>∃ ts,Lin ops (anyK ops.size) w.heap.size w a0 L ts a w /\ I W /\ (∀ i,i < ops.size -> L i = true -> p i (ts i) W) /\ (∀ i,L i = false -> m i W)) hm hb ?_ ?_ fun w' hw'=>?_
 ·rintro L a W ⟨ts,h,hI,hp,hmem⟩ i o ho hLi hpre
  exact free_stepG I p m r hb hd hl hpp hmm hII hob h hI hp hmem ho hLi hpre
 ·rintro L a W ⟨ts,h,hI,hp,-⟩ hall
  obtain ⟨ha,-,-⟩:=lin_fin hd h oM (fun j hj=>hall j oM) (fun i o ho hi=>by have:=lt_of_op ho; omega)
  rw [ha]
  exact fin ts W hI fun i hi=>hp i hi (hall i hi)
 ·obtain ⟨hI,hmw⟩:=hs w' hw'
  obtain ⟨ts,h⟩:=lin_start (ops:=ops) (kl:=anyK ops.size) (a0:=a0) (w:=w) (.inl rfl)
  exact ⟨ts,h,hI,(fun i _ hL=>absurd hL sP),fun i _=>hmw i⟩
end
inductive FK where
 | v (u:Value)
 | st (g:Nat) (T:TypeId) (z cs:Array Value)
def yk (l:List FK) (i:Nat):FK:=l.getD i (.v undef)
def yP (l:List FK) (i:Nat) (v:Value) (W:World):Prop:=match yk l i with | .v u=>v = u | .st g T _ cs=>W.heap[g]? = some (.cells cs T (0,0))
def yM (l:List FK) (i:Nat) (W:World):Prop:=match yk l i with | .v _=>True | .st g T z _=>W.heap[g]? = some (.cells z T (0,0))
def yR (l:List FK) (i:Nat) (W W':World):Prop:=match yk l i with | .v _=>Below W.heap.size W W' | .st g T _ cs=>PutAt W W' g T cs
abbrev Kept3:=List (Nat × Array Value × TypeId)
def yI (N:Nat) (w0:World) (K:Kept3) (W:World):Prop:=Below N w0 W /\ ∀ x ∈ K,W.heap[x.1]? = some (.cells x.2.1 x.2.2 (0,0))
def AllSt (F:Nat -> TypeId -> Array Value -> Array Value -> Prop):List FK -> Prop
 | []=>True
 | .v _ :: r=>AllSt F r
 | .st g T z cs :: r=>F g T z cs /\ AllSt F r
def DistSt:List FK -> Prop
 | []=>True
 | .v _ :: r=>DistSt r
 | .st g _ _ _ :: r=>AllSt (fun g' _ _ _=>g ≠ g') r /\ DistSt r
theorem AllSt.at {F:Nat -> TypeId -> Array Value -> Array Value -> Prop}:∀ {l:List FK} {i g:Nat} {T:TypeId} {z cs:Array Value},AllSt F l -> yk l i = .st g T z cs -> F g T z cs
 | [],i,_,_,_,_,_,h=>by simp [yk] at h
 | .v _ :: r,0,_,_,_,_,_,h=>by simp [yk] at h
 | .v _ :: r,i + 1,_,_,_,_,ha,h=>AllSt.at (l:=r) (i:=i) ha (by simpa [yk] using h)
 | .st .. :: r,0,_,_,_,_,ha,h=>by simp [yk] at h; obtain ⟨rfl,rfl,rfl,rfl⟩:=h; exact ha.1
 | .st .. :: r,i + 1,_,_,_,_,ha,h=>AllSt.at (l:=r) (i:=i) ha.2 (by simpa [yk] using h)
theorem DistSt.at:∀ {l:List FK} {i j g g':Nat} {T T':TypeId} {z z' cs cs':Array Value},DistSt l -> i < j -> yk l i = .st g T z cs -> yk l j = .st g' T' z' cs' -> g ≠ g'
 | [],_,_,_,_,_,_,_,_,_,_,_,_,h,_=>by simp [yk] at h
 | .v _ :: r,0,_,_,_,_,_,_,_,_,_,_,_,h,_=>by simp [yk] at h
 | _ :: r,_,0,_,_,_,_,_,_,_,_,_,hij,_,_=>absurd hij oM
 | .v _ :: r,i + 1,j + 1,_,_,_,_,_,_,_,_,hd,hij,h,h'=>DistSt.at (l:=r) (i:=i) (j:=j) hd oM (by simpa [yk] using h) (by simpa [yk] using h')
 | .st .. :: r,0,j + 1,_,_,_,_,_,_,_,_,hd,_,h,h'=>by
  simp [yk] at h
  obtain ⟨rfl,rfl,rfl,rfl⟩:=h
  exact hd.1.at (l:=r) (i:=j) (by simpa [yk] using h')
 | .st .. :: r,i + 1,j + 1,_,_,_,_,_,_,_,_,hd,hij,h,h'=>DistSt.at (l:=r) (i:=i) (j:=j) hd.2 oM (by simpa [yk] using h) (by simpa [yk] using h')
section
variable {P:Program} {ops:Array Oper} {a0:Act}
theorem region_ret {id:Nat} {dr:Bool} {w:World} {Q:Exit -> Act -> World -> Prop} (N:Nat) (w0:World) (K:Kept3) (l:List FK) (fl:(Nat -> Value) -> Array Value) (hfl:∀ ts,fillT ts ops.toList 0 a0.tmps = fl ts)
  (hm:P.follows .mixedOrders = true) (hb:backB ops = true) (hd:dstB ops a0.tmps.size = true) (hl:looksB ops = true)
  (hN:N <= w0.heap.size) (hB:Below N w0 w) (hK:∀ x ∈ K,w.heap[x.1]? = some (.cells x.2.1 x.2.2 (0,0))) (hS:AllSt (fun g T z _=>N <= g /\ w.heap[g]? = some (.cells z T (0,0)) /\ ∀ x ∈ K,x.1 ≠ g) l) (hD:DistSt l)
  (hob:AllFreeG P ops a0 (yI N w0 K) (yP l) (yM l) (yR l) ops.toList 0)
  (fin:∀ (ts:Nat -> Value) (W:World),Below N w0 W -> (∀ i,i < ops.size -> yP l i (ts i) W) -> Q .normal ⟨fl ts,a0.defers⟩ W) :
  (Code.region id ops dr).wp P Q a0 w:=by
 have hne:∀ i j g g' T T' z z' cs cs',i ≠ j -> yk l i = .st g T z cs -> yk l j = .st g' T' z' cs' -> g ≠ g':=fun i j g g' T T' z z' cs cs' hij h h'=>by
  rcases Nat.lt_or_gt_of_ne hij with hlt | hlt
  ·exact hD.at hlt h h'
  ·exact (hD.at hlt h' h).symm
 have keep:∀ i (W W':World) (g:Nat) (o:Obj),yR l i W W' -> (∀ g' T z cs,yk l i = .st g' T z cs -> g ≠ g') -> W.heap[g]? = some o -> W'.heap[g]? = some o:=fun i W W' g o hr hn h=>by
  unfold yR at hr
  cases hk:yk l i with
  | v u=>rw [hk] at hr; exact (hr.block g (heap_ge_none h)).trans h
  | st g' T z cs=>rw [hk] at hr; exact (hr.other g (hn _ _ _ _ hk)).trans h
 refine region_freeG (yI N w0 K) (yP l) (yM l) (yR l) hm hb hd hl fl hfl ?_ ?_ ?_ ?_ hob ?_
 ·intro W hW
  have h0:Below w.heap.size w W:=by
   rcases hW with rfl | rfl
   ·exact Below.refl _ _
   ·exact rfB.drew
  have hmem:∀ (g:Nat) (o:Obj),w.heap[g]? = some o -> W.heap[g]? = some o:=fun g o h=>(h0.block g (heap_ge_none h)).trans h
  refine ⟨⟨?_,fun x hx=>hmem _ _ (hK x hx)⟩,fun i=>?_⟩
  ·rcases hW with rfl | rfl
   ·exact hB
   ·exact hB.drew
  ·unfold yM
   cases hk:yk l i with
   | v u=>trivial
   | st g T z cs=>exact hmem _ _ (hS.at hk).2.1
 ·intro i j v W W' hij _ _ hr hp
  unfold yP at *
  cases hk:yk l j with
  | v u=>rw [hk] at hp; exact hp
  | st g T z cs=>rw [hk] at hp; exact keep i W W' g _ hr (fun g' T' z' cs' h'=>(hne i j g' g T' T z' z cs' cs hij h' hk).symm) hp
 ·intro i j W W' hij _ _ hr hp
  unfold yM at *
  cases hk:yk l j with
  | v u=>trivial
  | st g T z cs=>rw [hk] at hp; exact keep i W W' g _ hr (fun g' T' z' cs' h'=>(hne i j g' g T' T z' z cs' cs hij h' hk).symm) hp
 ·intro i W W' hr hI
  refine ⟨?_,fun x hx=>keep i W W' x.1 _ hr (fun g T z cs h=>(hS.at h).2.2 x hx) (hI.2 x hx)⟩
  unfold yR at hr
  cases hk:yk l i with
  | v u=>rw [hk] at hr; exact hI.1.trans (hr.mono (Nat.le_trans hN hI.1.size))
  | st g T z cs=>rw [hk] at hr; exact hr.below hI.1 (hS.at hk).1
 ·intro ts W hI hp
  exact fin ts W hI.1 hp
end
section
variable {P:Program} {ops:Array Oper} {a0:Act} {N:Nat} {w0:World} {K:Kept3} {l:List FK} {o:Oper} {i:Nat}
def ObF (P:Program) (ops:Array Oper) (a0:Act) (N:Nat) (w0:World) (K:Kept3) (l:List FK) (o:Oper) (i:Nat):Prop :=
 ∀ (ts:Nat -> Value) (W:World) (a:Act),(∀ t,a.eval (.tmp t) = slot ops a0 ts t) -> yI N w0 K W -> yM l i W -> (∀ j,predB ops i j = true -> yP l j (ts j) W) -> ∀ K':Act -> World -> Prop,(∀ v W',yP l i v W' -> yR l i W W' -> K' (a.put o.dst v) W') ->
  Goes (Oper.wp P o a W K' (fun _ _ _=>False))
theorem fN (h:ObF P ops a0 N w0 K l o i) (hg:o.guard = none:=by rfl):FreeObG P ops a0 (yI N w0 K) (yP l) (yM l) (yR l) o i:=fun ts W a ha hI hm hp=>by
 rw [hg]
 exact h ts W a ha hI hm hp
theorem fG (g:Nat) (h:ObF P ops a0 N w0 K l o i) {want:Bool} (hg:o.guard = some (g,want):=by rfl) (hk:yk l g = .v (.bool want):=by rfl) (hj:predB ops i g = true:=by kernel_rfl):FreeObG P ops a0 (yI N w0 K) (yP l) (yM l) (yR l) o i:=fun ts W a ha hI hm hp=>by
 rw [hg]
 have h1:=hp g hj
 unfold yP at h1
 rw [hk] at h1
 exact Guarded.on h1 (h ts W a ha hI hm hp)
theorem fZ (g:Nat) {want b:Bool} (hg:o.guard = some (g,want):=by rfl) (hk:yk l g = .v (.bool b):=by rfl) (hn:b ≠ want:=by decide) (hv:yk l i = .v undef:=by rfl) (hj:predB ops i g = true:=by kernel_rfl):FreeObG P ops a0 (yI N w0 K) (yP l) (yM l) (yR l) o i:=fun ts W a ha hI hm hp=>by
 rw [hg]
 have h1:=hp g hj
 unfold yP at h1
 rw [hk] at h1
 refine Guarded.off h1 hn ⟨?_,?_⟩
 ·unfold yP; rw [hv]
 ·unfold yR; rw [hv]; exact Below.refl _ _
def KnF (ops:Array Oper) (l:List FK) (a0:Act) (i:Nat) (x:Operand) (v:Value):Prop :=
 ∀ (ts:Nat -> Value) (W:World) (a:Act),(∀ t,a.eval (.tmp t) = slot ops a0 ts t) -> (∀ j,predB ops i j = true -> yP l j (ts j) W) -> a.eval x = v
theorem KnF.k {v:Value}:KnF ops l a0 i (.const v) v:=fun _ _ _ _ _=>rfl
theorem KnF.fr {s:Nat} {v:Value} (hs:∀ ts,slot ops a0 ts s = v:=by intro ts; kernel_rfl):KnF ops l a0 i (.tmp s) v:=fun ts _ _ ha _=>(ha s).trans (hs ts)
theorem KnF.is (j:Nat) {s:Nat} {v:Value} (hs:∀ ts,slot ops a0 ts s = ts j:=by intro ts; kernel_rfl) (hk:yk l j = .v v:=by rfl) (hj:predB ops i j = true:=by kernel_rfl):KnF ops l a0 i (.tmp s) v :=
 fun ts W _ ha hp=>(ha s).trans ((hs ts).trans (by have h:=hp j hj; unfold yP at h; rw [hk] at h; exact h))
theorem ObF.val {u:Value} (hv:yk l i = .v u) {W:World} {a:Act} {K':Act -> World -> Prop} (hK:∀ v W',yP l i v W' -> yR l i W W' -> K' (a.put o.dst v) W') {W':World} (hb:Below W.heap.size W W'):K' (a.put o.dst u) W' :=
 hK u W' (by unfold yP; rw [hv]) (by unfold yR; rw [hv]; exact hb)
theorem fMo {x:Operand} {u:Value} (ho:o.op = .move x) (hx:KnF ops l a0 i x u) (hv:yk l i = .v u:=by rfl):ObF P ops a0 N w0 K l o i :=
 fun ts W a ha _ _ hp K' hK=>⟨wp_move ho (hx ts W a ha hp) (ObF.val hv hK rfB)⟩
theorem fAs {x:Operand} {u:Value} (ho:o.op = .assign x) (hx:KnF ops l a0 i x u) (hv:yk l i = .v u:=by rfl):ObF P ops a0 N w0 K l o i :=
 fun ts W a ha _ _ hp K' hK=>⟨wp_assign ho (hx ts W a ha hp) (ObF.val hv hK rfB)⟩
theorem fPt {c x y:Operand} {u:Value} (ho:o.op = .pick c x y) (hc:KnF ops l a0 i c (.bool true)) (hx:KnF ops l a0 i x u) (hv:yk l i = .v u:=by rfl):ObF P ops a0 N w0 K l o i :=
 fun ts W a ha _ _ hp K' hK=>⟨wp_pick ho (hc ts W a ha hp) (by rw [if_pos rfl]; exact hx ts W a ha hp) (ObF.val hv hK rfB)⟩
theorem fPf {c x y:Operand} {u:Value} (ho:o.op = .pick c x y) (hc:KnF ops l a0 i c (.bool false)) (hx:KnF ops l a0 i y u) (hv:yk l i = .v u:=by rfl):ObF P ops a0 N w0 K l o i :=
 fun ts W a ha _ _ hp K' hK=>⟨wp_pick ho (hc ts W a ha hp) (by rw [if_neg dE]; exact hx ts W a ha hp) (ObF.val hv hK rfB)⟩
theorem fLr (k:Nat) {T t:TypeId} {x:Operand} {g:Nat} {cs:Array Value} {d:TypeDesc} (ho:o.op = .load T x) (hx:KnF ops l a0 i x (.pointer (some ⟨g,0,none⟩))) (hu:P.underlying T = some d) (hk:K[k]? = some (g,cs,t):=by rfl) (hv:yk l i = .v (.agg cs):=by rfl)
  (hd:(match d with | .struct _ | .array _ _=>true | _=>false) = true:=by rfl) (hi:(P.info? T).map (·.size) = some cs.size:=by kernel_rfl):ObF P ops a0 N w0 K l o i :=
 fun ts W a ha hI _ hp K' hK=>⟨wp_load_row T x ho g (hx ts W a ha hp) _ cs _ d (hI.2 _ (List.mem_of_getElem? hk)) hu hd hi (ObF.val hv hK rfB)⟩
theorem fC1 {f:FuncId} {tys:Array TypeId} {x:Operand} {u r:Value} (ho:o.op = .call ⟨.value (.func f),#[x],tys⟩) (hx:KnF ops l a0 i x u) (con:∀ W,Below N w0 W -> Calls P f #[u] W fun e w'=>e = .returned r /\ Below W.heap.size W w') (hv:yk l i = .v r:=by rfl)
  (hf:∀ w a,(invoke (.fn (.func f) #[]) #[a]).run P w = .ok (.enter f #[a]) w:=by intro w a; kernel_rfl):ObF P ops a0 N w0 K l o i :=
 fun ts W a ha hI _ hp K' hK=>⟨wp_callf ho (xs:=#[u]) (by simp [hx ts W a ha hp]) (fun w=>hf w _) ((con W hI.1).mono fun e w' ⟨h1,h2⟩=>⟨r,h1,ObF.val hv hK h2⟩)⟩
theorem fC2 {f:FuncId} {tys:Array TypeId} {x y:Operand} {u v r:Value} (ho:o.op = .call ⟨.value (.func f),#[x,y],tys⟩) (hx:KnF ops l a0 i x u) (hy:KnF ops l a0 i y v) (con:∀ W,Below N w0 W -> Calls P f #[u,v] W fun e w'=>e = .returned r /\ Below W.heap.size W w') (hv:yk l i = .v r:=by rfl)
  (hf:∀ w a b,(invoke (.fn (.func f) #[]) #[a,b]).run P w = .ok (.enter f #[a,b]) w:=by intro w a b; kernel_rfl):ObF P ops a0 N w0 K l o i :=
 fun ts W a ha hI _ hp K' hK=>⟨wp_callf ho (xs:=#[u,v]) (by simp [hx ts W a ha hp,hy ts W a ha hp]) (fun w=>hf w _ _) ((con W hI.1).mono fun e w' ⟨h1,h2⟩=>⟨r,h1,ObF.val hv hK h2⟩)⟩
theorem wp_build2 {P:Program} {o:Oper} {a:Act} {w:World} {K:Act -> World -> Prop} {Q:Exit -> Act -> World -> Prop} {T:TypeId} {x y:Operand} (ho:o.op = .build T #[(0,x),(1,y)]) {u v r:Value} (hx:a.eval x = u) (hy:a.eval y = v) (hr:(Instr.build T #[(0,u),(1,v)]).run P w = .ok r w) (hK:K (a.put o.dst r) w):o.wp P a w K Q:=by
 unfold Oper.wp execOp
 simp only [ho,List.map_toArray,List.map_cons,List.map_nil,hx,hy,Sem.run_bind,hr,Sem.run_pure,Result.andThen_ok]
 exact hK
theorem fBd {T:TypeId} {x y:Operand} {u v r:Value} (ho:o.op = .build T #[(0,x),(1,y)]) (hv:yk l i = .v r) (hx:KnF ops l a0 i x u) (hy:KnF ops l a0 i y v) (hr:∀ W,(Instr.build T #[(0,u),(1,v)]).run P W = .ok r W):ObF P ops a0 N w0 K l o i :=
 fun ts W a ha _ _ hp K' hK=>⟨wp_build2 ho (hx ts W a ha hp) (hy ts W a ha hp) (hr W) (ObF.val hv hK rfB)⟩
theorem fSt {T:TypeId} {x y:Operand} {g:Nat} {z cs:Array Value} {t:TypeId} (ho:o.op = .store T x y) (hx:KnF ops l a0 i x (.pointer (some ⟨g,0,none⟩))) (hy:KnF ops l a0 i y (.agg cs)) (hs:yk l i = .st g t z cs:=by rfl) (hsz:z.size = cs.size:=by rfl) (h1:cs.all (·.oneCell') = true:=by simp [Value.oneCell'])
  (hi:(P.info? T).map (·.size) = some cs.size:=by kernel_rfl):ObF P ops a0 N w0 K l o i :=
 fun ts W a ha _ hm hp K' hK=>⟨by
  unfold yM at hm
  rw [hs] at hm
  refine wp_store_row T x y ho g cs (hx ts W a ha hp) (hy ts W a ha hp) _ _ hm hi hsz h1 ?_
  have hput:=putAt_setRow (cs:=cs) hm
  exact hK undef _ (by unfold yP; rw [hs]; exact hput.here) (by unfold yR; rw [hs]; exact hput)⟩
end
end Go.Proofs.YtjodlmanheeajaaGreatDoor
