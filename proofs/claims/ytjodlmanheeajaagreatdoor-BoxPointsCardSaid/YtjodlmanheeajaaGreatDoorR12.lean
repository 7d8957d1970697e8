import Derived.Below
import Derived.Laws.Tables
import Derived.Orders
import Derived.WalkKit
import Derived.Test.YtjodlmanheeajaaGreatDoorR02
set_option linter.unusedVariables false
set_option linter.unusedSimpArgs false
set_option maxRecDepth 100000
set_option maxHeartbeats 8000000
namespace Go.Proofs.YtjodlmanheeajaaGreatDoor
open Go.RowKit
def backB (ops:Array Oper):Bool:=(List.range ops.size).all fun i=>((ops[i]?).map fun o=>o.after.toList.all fun e=>!Region.binds .any e || decide (e.on < i)).getD true
theorem backB_spec {ops:Array Oper} (h:backB ops = true) {i:Nat} {o:Oper} (ho:ops[i]? = some o):∀ e ∈ o.after,Region.binds .any e = true -> e.on < i:=by
 intro e he hbd
 have hi:i < ops.size:=by
  rcases Nat.lt_or_ge i ops.size with h' | h'
  ·exact h'
  ·rw [Array.getElem?_eq_none h'] at ho; cases ho
 have h1:=List.all_eq_true.1 h i (List.mem_range.2 hi)
 rw [ho] at h1
 simp only [Option.map_some,Option.getD_some] at h1
 have h2:=List.all_eq_true.1 h1 e (by simpa using he)
 simpa [hbd] using h2
def left (l:Array Bool):Nat:=l.toList.count false
theorem left_set {l:Array Bool} {i:Nat} (hi:i < l.size) (h:l.getD i true = false):left (l.setIfInBounds i true) + 1 = left l:=by
 unfold left
 obtain ⟨l⟩:=l
 simp only [List.size_toArray] at hi
 have h':l[i] = false:=by simpa [Array.getD,hi] using h
 simp only [List.setIfInBounds_toArray]
 rw [List.count_set hi,h']
 have:0 < List.count false l:=List.count_pos_iff.2 (h' ▸ List.getElem_mem hi)
 simp
 omega
theorem left_zero {l:Array Bool} (h:left l = 0) {i:Nat} (hi:i < l.size):l.getD i true = true:=by
 unfold left at h
 obtain ⟨l⟩:=l
 simp only [List.size_toArray] at hi
 have h2:=List.count_eq_zero.1 h
 simp [Array.getD,hi]
 rcases hb:l[i] with _ | _
 ·exact absurd (hb ▸ List.getElem_mem hi) h2
 ·rfl
section
variable {P:Program} {ops:Array Oper} {Q:Exit -> Act -> World -> Prop} {md:Region.Mode}
theorem all_of_ready_nil (hb:backB ops = true) {l:Array Bool} (hs:l.size = ops.size) (h:Region.ready .any ops l = []):∀ i,i < ops.size -> l.getD i false = true:=by
 intro i
 induction i using Nat.strongRecOn with
 | ind i ih =>
  intro hi
  have hg:l.getD i false = l[i]'oM:=by simp [Array.getD,hs,hi]
  rcases hb':l.getD i false with _ | _
  ·exfalso
   have:i ∈ Region.ready .any ops l:=by
    unfold Region.ready
    rw [List.mem_filter]
    refine ⟨List.mem_range.2 hi,?_⟩
    have ho:ops[i]? = some ops[i]:=Array.getElem?_eq_getElem hi
    have h1:l.getD i true = false:=by simp [Array.getD,hs,hi] at hb' ⊢; exact hb'
    rw [h1,ho]
    simp only [Bool.not_false,Bool.true_and,Option.map_some,Option.getD_some]
    rw [Array.all_eq_true]
    intro j hj
    by_cases hbd:Region.binds .any (ops[i].after[j]) = true
    ·have hlt:=backB_spec hb ho (ops[i].after[j]) (Array.getElem_mem hj) hbd
     rw [ih _ hlt oM]
     simp
    ·simp only [Bool.not_eq_true] at hbd
     rw [hbd]
     rfl
   rw [h] at this
   cases this
  ·rfl
theorem wpAny_lin (J:(Nat -> Bool) -> Act -> World -> Prop) (hb:backB ops = true)
  (step:∀ L a w,J L a w -> ∀ i o,ops[i]? = some o -> L i = false -> (∀ e ∈ o.after,Region.binds .any e = true -> L e.on = true) -> wpOp P ops Q i (fun a' w'=>J (fun j=>j == i || L j) a' w') a w)
  (fin:∀ L a w,J L a w -> (∀ j,j < ops.size -> L j = true) -> Q .normal a w) :
  ∀ (fuel:Nat) (l:Array Bool) (a:Act) (w:World),l.size = ops.size -> left l <= fuel -> J (fun j=>l.getD j false) a w -> wpAny P .any ops Q fuel l a w:=by
 intro fuel
 induction fuel with
 | zero =>
  intro l a w hs hl hJ
  have hall:∀ i,i < ops.size -> l.getD i false = true:=fun i hi=>by
   have:=left_zero (Nat.le_zero.1 hl) (show i < l.size by omega)
   have e:i < l.size:=oM
   simp [Array.getD,e] at this ⊢; exact this
  refine ⟨?_,fin _ _ _ hJ hall⟩
  unfold Region.ready
  rw [List.filter_eq_nil_iff]
  intro i hi
  have hi':=List.mem_range.1 hi
  have h1:l.getD i true = true:=by
   have:=hall i hi'
   have e:i < l.size:=oM
   simp [Array.getD,e] at this ⊢; exact this
  rw [h1]
  simp
 | succ fuel ih =>
  intro l a w hs hl hJ
  refine ⟨fun hr=>fin _ _ _ hJ (all_of_ready_nil hb hs hr),fun i hi=>?_⟩
  unfold Region.ready at hi
  rw [List.mem_filter] at hi
  obtain ⟨hi1,hi2⟩:=hi
  have hi':=List.mem_range.1 hi1
  have ho:ops[i]? = some ops[i]:=Array.getElem?_eq_getElem hi'
  rw [ho] at hi2
  simp only [Option.map_some,Option.getD_some,Bool.and_eq_true,Bool.not_eq_true'] at hi2
  have e:i < l.size:=oM
  have h0:l.getD i false = false:=by
   have:=hi2.1
   simp [Array.getD,e] at this ⊢; exact this
  have hpre:∀ e ∈ ops[i].after,Region.binds .any e = true -> l.getD e.on false = true:=by
   intro e he hbd
   have:=(Array.all_eq_true.1 hi2.2)
   obtain ⟨j,hj,rfl⟩:=Array.getElem_of_mem he
   have:=this j hj
   simpa [hbd] using this
  refine wpOp_mono (fun a' w' hJ'=>ih _ a' w' (by simpa using hs) ?_ ?_) (step _ a w hJ i _ ho h0 hpre)
  ·have:=left_set e hi2.1
   omega
  ·have hf:(fun j=>(l.setIfInBounds i true).getD j false) = fun j=>j == i || l.getD j false:=by
    funext j
    by_cases hij:i = j
    ·subst hij
     simp [Array.getD,e]
    ·have:(j == i) = false:=by simpa using fun h=>hij h.symm
     rw [this,Bool.false_or]
     simp only [Array.getD_eq_getD_getElem?,Array.getElem?_setIfInBounds,if_neg hij]
   rw [hf]
   exact hJ'
theorem left_start (n:Nat):left (Array.replicate n false) = n:=by simp [left]
theorem wp_region_lin {id:Nat} {a:Act} {w:World} (J:(Nat -> Bool) -> Act -> World -> Prop) (hm:P.follows .mixedOrders = true) (hb:backB ops = true)
  (step:∀ L a w,J L a w -> ∀ i o,ops[i]? = some o -> L i = false -> (∀ e ∈ o.after,Region.binds .any e = true -> L e.on = true) -> wpOp P ops Q i (fun a' w'=>J (fun j=>j == i || L j) a' w') a w)
  (fin:∀ L a w,J L a w -> (∀ j,j < ops.size -> L j = true) -> Q .normal a w)
  (h:J (fun _=>false) a w.drew):(Code.region id ops true).wp P Q a w:=by
 refine wp_region_any hm (wpAny_lin J hb step fin _ _ _ _ sP (by rw [left_start]; exact Nat.le_refl _) ?_)
 have:(fun j=>(Array.replicate ops.size false).getD j false) = fun _=>false:=by
  funext j
  simp [Array.getD]
 rw [this]
 exact h
theorem wpOps_lin (J:(Nat -> Bool) -> Act -> World -> Prop) (hb:backB ops = true)
  (step:∀ L a w,J L a w -> ∀ i o,ops[i]? = some o -> L i = false -> (∀ e ∈ o.after,Region.binds .any e = true -> L e.on = true) -> wpOp P ops Q i (fun a' w'=>J (fun j=>j == i || L j) a' w') a w)
  (fin:∀ L a w,J L a w -> (∀ j,j < ops.size -> L j = true) -> Q .normal a w) :
  ∀ (m k:Nat) (a:Act) (w:World),k + m = ops.size -> J (fun j=>decide (j < k)) a w -> wpOps P ops Q (List.range' k m) a w:=by
 intro m
 induction m with
 | zero =>
  intro k a w hk hJ
  exact fin _ _ _ hJ fun j hj=>sO
 | succ m ih =>
  intro k a w hk hJ
  rw [List.range'_succ,wpOps_cons]
  have ho:ops[k]? = some ops[k]:=Array.getElem?_eq_getElem oM
  refine wpOp_mono (fun a' w' hJ'=>ih (k + 1) a' w' oM ?_) (step _ a w hJ k _ ho sP fun e he hbd=>by simpa using backB_spec hb ho e he hbd)
  have hf:(fun j=>decide (j < k + 1)) = fun j=>j == k || decide (j < k):=by
   funext j
   rw [Bool.eq_iff_iff]
   simp
   omega
  rw [hf]
  exact hJ'
theorem wp_region_lin' {id:Nat} {dr:Bool} {a:Act} {w:World} (J:(Nat -> Bool) -> Act -> World -> Prop) (hm:P.follows .mixedOrders = true) (hb:backB ops = true)
  (step:∀ L a w,J L a w -> ∀ i o,ops[i]? = some o -> L i = false -> (∀ e ∈ o.after,Region.binds .any e = true -> L e.on = true) -> wpOp P ops Q i (fun a' w'=>J (fun j=>j == i || L j) a' w') a w)
  (fin:∀ L a w,J L a w -> (∀ j,j < ops.size -> L j = true) -> Q .normal a w)
  (h:∀ w',w' = w ∨ w' = w.drew -> J (fun _=>false) a w'):(Code.region id ops dr).wp P Q a w:=by
 cases dr with
 | true=>exact wp_region_lin J hm hb step fin (h _ (.inr rfl))
 | false =>
  refine wp_region ?_
  rw [List.range_eq_range']
  refine wpOps_lin J hb step fin ops.size 0 a w oM ?_
  have:=h w (.inl rfl)
  simpa using this
end
inductive RK where
 | val (p:Value -> World -> Prop)
 | box (T:TypeId) (z:Array Value)
 | put (b c:Nat)
def rk (kl:List RK) (i:Nat):RK:=kl.getD i (.val fun _ _=>True)
structure Ext (w w':World):Prop where
 size:w.heap.size <= w'.heap.size
 word:∀ a (n:Int),w.cell? a = some (.int .u32 n) -> w'.cell? a = some (.int .u32 n)
theorem Ext.of_below {w w':World} (h:Below w.heap.size w w'):Ext w w' :=
 ⟨h.size,fun a n ha=>by rw [h.cell (World.block_lt_of_cell? w a ha)]; exact ha⟩
def Stab (p:Value -> World -> Prop):Prop:=∀ v w w',Ext w w' -> p v w -> p v w'
def StabB (p:Value -> World -> Prop):Prop:=∀ v w w',Below w.heap.size w w' -> p v w -> p v w'
theorem Stab.b {p:Value -> World -> Prop} (h:Stab p):StabB p:=fun v w w' hb=>h v w w' (Ext.of_below hb)
structure PutAt (w w':World) (g:Nat) (T:TypeId) (cs:Array Value):Prop where
 os:w'.os = w.os
 tape:w'.tape = w.tape
 output:w'.output = w.output
 size:w'.heap.size = w.heap.size
 other:∀ k,k ≠ g -> w'.heap[k]? = w.heap[k]?
 here:w'.heap[g]? = some (.cells cs T (0,0))
def oddB (z:Array Value):Bool:=z.toList.all fun v=>match v with | .int .u32 _=>false | _=>true
theorem PutAt.ext {w w':World} {g:Nat} {T:TypeId} {z cs:Array Value} (h:PutAt w w' g T cs) (hz:w.heap[g]? = some (.cells z T (0,0))) (ho:oddB z = true):Ext w w':=by
 refine ⟨by rw [h.size]; exact Nat.le_refl _,fun a n ha=>?_⟩
 by_cases hg:a.block = g
 ·exfalso
  unfold World.cell? at ha
  rw [hg,hz] at ha
  simp only at ha
  split at ha
  ·cases ha
  ·have h1:=List.all_eq_true.1 ho (.int .u32 n) (by
    obtain ⟨z⟩:=z
    simp at ha ⊢
    exact List.mem_of_getElem? ha)
   simp at h1
 ·rw [World.cell?_of_block (w:=w) (h.other _ hg)]
  exact ha
theorem PutAt.below {w0 w w':World} {B g:Nat} {T:TypeId} {cs:Array Value} (h:PutAt w w' g T cs) (hb:Below B w0 w) (hg:B <= g):Below B w0 w' :=
 hb.trans ⟨h.os,h.tape,h.output,by rw [h.size]; exact Nat.le_refl _,fun k hk=>h.other k oM⟩
def fillT (ts:Nat -> Value):List Oper -> Nat -> Array Value -> Array Value
 | [],_,a=>a
 | o :: os,i,a=>fillT ts os (i + 1) (match o.dst with | some d=>a.setIfInBounds d (ts i) | none=>a)
theorem fillT_size (ts:Nat -> Value):∀ (os:List Oper) (i:Nat) (a:Array Value),(fillT ts os i a).size = a.size:=by
 intro os
 induction os with
 | nil=>intro i a; rfl
 | cons o os ih =>
  intro i a
  rw [fillT,ih]
  cases o.dst <;> simp
theorem fillT_other (ts:Nat -> Value) (t:Nat):∀ (os:List Oper) (i:Nat) (a:Array Value),(∀ o ∈ os,o.dst ≠ some t) -> (fillT ts os i a).getD t undef = a.getD t undef:=by
 intro os
 induction os with
 | nil=>intro i a _; rfl
 | cons o os ih =>
  intro i a h
  rw [fillT,ih _ _ fun o' h'=>h o' (List.mem_cons_of_mem _ h')]
  have h1:=h o (List.mem_cons_self ..)
  cases hd:o.dst with
  | none=>rfl
  | some d =>
   have:d ≠ t:=fun e=>h1 (by rw [hd,e])
   simp only [Array.getD_eq_getD_getElem?,Array.getElem?_setIfInBounds,if_neg this]
theorem fillT_at (ts:Nat -> Value) (d:Nat):∀ (os:List Oper) (i k:Nat) (o:Oper) (a:Array Value),os[k]? = some o -> o.dst = some d -> d < a.size ->
  (∀ j o',os[j]? = some o' -> o'.dst = some d -> j = k) -> (fillT ts os i a).getD d undef = ts (i + k):=by
 intro os
 induction os with
 | nil=>intro i k o a h; simp at h
 | cons o os ih =>
  intro i k o' a hk hd hlt hu
  rw [fillT]
  cases k with
  | zero =>
   simp at hk
   subst hk
   rw [fillT_other]
   ·rw [hd]
    simp [Array.getD_eq_getD_getElem?,Array.getElem?_setIfInBounds,hlt]
   ·intro o' h' hd'
    obtain ⟨j,hj⟩:=List.getElem?_of_mem h'
    have:=hu (j + 1) o' (by simpa using hj) hd'
    omega
  | succ k =>
   rw [ih (i + 1) k o' _ (by simpa using hk) hd (by cases o.dst <;> simpa using hlt) (fun j o'' hj hd'=>by
    have:=hu (j + 1) o'' (by simpa using hj) hd'
    omega)]
   rw [show i + 1 + k = i + (k + 1) by omega]
section
variable {P:Program} {ops:Array Oper}
def dstB (ops:Array Oper) (n:Nat):Bool:=(List.range ops.size).all fun i=>(List.range ops.size).all fun j =>
 match (ops[i]?).bind (·.dst),(ops[j]?).bind (·.dst) with
 | some d,some d'=>(d != d' || i == j) && decide (d < n)
 | some d,none=>decide (d < n)
 | _,_=>true
theorem lt_of_op {i:Nat} {o:Oper} (ho:ops[i]? = some o):i < ops.size:=by
 rcases Nat.lt_or_ge i ops.size with h' | h'
 ·exact h'
 ·rw [Array.getElem?_eq_none h'] at ho; cases ho
theorem dstB_one {n:Nat} (h:dstB ops n = true) {i j d:Nat} {o o':Oper} (ho:ops[i]? = some o) (ho':ops[j]? = some o') (hd:o.dst = some d) (hd':o'.dst = some d):i = j:=by
 have h1:=List.all_eq_true.1 (List.all_eq_true.1 h i (List.mem_range.2 (lt_of_op ho))) j (List.mem_range.2 (lt_of_op ho'))
 rw [ho,ho'] at h1
 simp only [Option.bind_some,hd,hd'] at h1
 simp at h1
 exact h1.1
theorem dstB_lt {n:Nat} (h:dstB ops n = true) {i d:Nat} {o:Oper} (ho:ops[i]? = some o) (hd:o.dst = some d):d < n:=by
 have h1:=List.all_eq_true.1 (List.all_eq_true.1 h i (List.mem_range.2 (lt_of_op ho))) i (List.mem_range.2 (lt_of_op ho))
 rw [ho] at h1
 simp only [Option.bind_some,hd] at h1
 simp at h1
 exact h1
def looksB (ops:Array Oper):Bool:=(List.range ops.size).all fun i=>match ops[i]? with
 | none=>true
 | some o=>(match o.guard with | none=>true | some (g,_)=>((ops[g]?).bind (·.dst)).isSome && o.after.toList.any fun e=>Region.binds .any e && e.on == g) && (match o.op with | .select ..=>false | _=>true) && o.op.operands.toList.all fun x=>match x with
  | .tmp t=>(o.after.toList.any fun e=>Region.binds .any e && (ops[e.on]?).bind (·.dst) == some t) || (List.range ops.size).all fun j=>(ops[j]?).bind (·.dst) != some t
  | _=>true
theorem looksB_spec (h:looksB ops = true) {i:Nat} {o:Oper} (ho:ops[i]? = some o):(∀ g b,o.guard = some (g,b) -> ∃ e ∈ o.after,Region.binds .any e = true /\ e.on = g /\ ∃ og dg,ops[g]? = some og /\ og.dst = some dg) /\ (∀ cs b,o.op ≠ .select cs b) /\
  ∀ t,Operand.tmp t ∈ o.op.operands -> (∃ e ∈ o.after,Region.binds .any e = true /\ ∃ o',ops[e.on]? = some o' /\ o'.dst = some t) ∨ (∀ (j:Nat) (o':Oper),ops[j]? = some o' -> o'.dst ≠ some t):=by
 have h1:=List.all_eq_true.1 h i (List.mem_range.2 (lt_of_op ho))
 rw [ho] at h1
 simp only [Bool.and_eq_true] at h1
 obtain ⟨⟨h2,h3⟩,h4⟩:=h1
 refine ⟨fun g b hg=>?_,fun cs b hs=>by simp [hs] at h3,fun t ht=>?_⟩
 ·rw [hg] at h2
  simp only [Bool.and_eq_true] at h2
  obtain ⟨e,he,h6⟩:=List.any_eq_true.1 h2.2
  simp only [Bool.and_eq_true,beq_iff_eq] at h6
  refine ⟨e,by simpa using he,h6.1,h6.2,?_⟩
  have h7:=h2.1
  cases hog:ops[g]? with
  | none=>rw [hog] at h7; simp at h7
  | some og =>
   rw [hog] at h7
   obtain ⟨dg,hdg⟩:=Option.isSome_iff_exists.1 h7
   exact ⟨og,dg,rfl,by simpa using hdg⟩
 have h5:=List.all_eq_true.1 h4 (.tmp t) (by simpa using ht)
 simp only [Bool.or_eq_true] at h5
 rcases h5 with h5 | h5
 ·obtain ⟨e,he,h6⟩:=List.any_eq_true.1 h5
  simp only [Bool.and_eq_true,beq_iff_eq] at h6
  cases ho':ops[e.on]? with
  | none=>rw [ho'] at h6; simp at h6
  | some o' =>
   rw [ho'] at h6
   exact .inl ⟨e,by simpa using he,h6.1,o',ho',by simpa using h6.2⟩
 ·refine .inr fun j o' ho' hd=>?_
  have:=List.all_eq_true.1 h5 j (List.mem_range.2 (lt_of_op ho'))
  rw [ho'] at this
  simp [hd] at this
end
def predB (ops:Array Oper) (i j:Nat):Bool:=((ops[i]?).map fun o=>o.after.toList.any fun e=>Region.binds .any e && e.on == j).getD false
theorem predB_spec {ops:Array Oper} {i j:Nat} {o:Oper} (ho:ops[i]? = some o) (h:predB ops i j = true):∃ e ∈ o.after,Region.binds .any e = true /\ e.on = j:=by
 unfold predB at h
 rw [ho] at h
 simp only [Option.map_some,Option.getD_some] at h
 obtain ⟨e,he,h6⟩:=List.any_eq_true.1 h
 simp only [Bool.and_eq_true,beq_iff_eq] at h6
 exact ⟨e,by simpa using he,h6.1,h6.2⟩
def kindB (ops:Array Oper) (kl:List RK):Bool:=(List.range kl.length).all fun i=>match ops[i]? with
 | none=>true
 | some o=>match rk kl i with
  | .val _=>o.dst.isSome
  | .box T z=>o.guard.isNone && o.dst.isSome && oddB z && (match o.op with | .alloc T'=>T' == T | _=>false)
  | .put b c=>o.guard.isNone && o.dst.isNone && predB ops i b && predB ops i c && (match rk kl b with | .box T _=>(match (ops[b]?).bind (·.dst),(ops[c]?).bind (·.dst) with | some db,some dc=>(match o.op with | .store T' (.tmp x) (.tmp y)=>T' == T && x == db && y == dc | _=>false) | _,_=>false) | _=>false) &&
    (match rk kl c with | .val _=>true | _=>false) &&
    (List.range kl.length).all fun j=>match rk kl j with | .put b' _=>b' != b || j == i | _=>true
section
variable {P:Program} {ops:Array Oper} {kl:List RK} {B:Nat} {w0:World} {a0:Act}
def Held (kl:List RK) (B:Nat) (ts:Nat -> Value) (L:Nat -> Bool) (W:World) (i:Nat):Prop:=match rk kl i with
 | .val p=>p (ts i) W
 | .box T z=>∃ g,ts i = .pointer (some ⟨g,0,none⟩) /\ B <= g /\ g < W.heap.size /\ ((∀ k c,rk kl k = .put i c -> L k = false) -> W.heap[g]? = some (.cells z T (0,0)))
 | .put b c=>∃ g cs T z,ts b = .pointer (some ⟨g,0,none⟩) /\ ts c = .agg cs /\ rk kl b = .box T z /\ W.heap[g]? = some (.cells cs T (0,0))
structure Lin (ops:Array Oper) (kl:List RK) (B:Nat) (w0:World) (a0:Act) (L:Nat -> Bool) (ts:Nat -> Value) (a:Act) (W:World):Prop where
 below:Below B w0 W
 defers:a.defers = a0.defers
 size:a.tmps.size = a0.tmps.size
 here:∀ (i:Nat) (o:Oper) (d:Nat),ops[i]? = some o -> o.dst = some d -> L i = true -> a.tmps.getD d undef = ts i
 other:∀ t,(∀ (i:Nat) (o:Oper),ops[i]? = some o -> L i = true -> o.dst ≠ some t) -> a.tmps.getD t undef = a0.tmps.getD t undef
 held:∀ i,i < ops.size -> L i = true -> Held kl B ts L W i
 apart:∀ i j T z T' z',i < ops.size -> j < ops.size -> rk kl i = .box T z -> rk kl j = .box T' z' -> L i = true -> L j = true -> i ≠ j -> ts i ≠ ts j
 shut:∀ (i:Nat) (o:Oper),ops[i]? = some o -> L i = true -> ∀ e ∈ o.after,Region.binds .any e = true -> L e.on = true
 dom:∀ i,L i = true -> i < kl.length
theorem execOp_lin (hd:dstB ops a0.tmps.size = true) (hl:looksB ops = true) {L:Nat -> Bool} {ts:Nat -> Value} {a:Act} {W:World} (h:Lin ops kl B w0 a0 L ts a W) {i:Nat} {o:Oper} (ho:ops[i]? = some o)
  (hpre:∀ e ∈ o.after,Region.binds .any e = true -> L e.on = true):execOp (Act.eval ⟨fillT ts ops.toList 0 a0.tmps,a0.defers⟩) o = execOp a.eval o:=by
 obtain ⟨-,hs,hx⟩:=looksB_spec hl ho
 have hone:∀ (k:Nat) (o1:Oper) (t:Nat),ops[k]? = some o1 -> o1.dst = some t -> (fillT ts ops.toList 0 a0.tmps).getD t undef = ts k:=fun k o1 t h1 h2=>by
  rw [fillT_at ts t ops.toList 0 k o1 a0.tmps (by simpa using h1) h2 (dstB_lt hd h1 h2) (fun j o' hj hd'=>dstB_one hd (by simpa using hj) h1 hd' h2),Nat.zero_add]
 refine execOp_congr o hs fun x hxo=>?_
 cases x with
 | tmp t =>
  show (fillT ts ops.toList 0 a0.tmps).getD t undef = a.tmps.getD t undef
  rcases hx t hxo with ⟨e,he,hbd,o',ho',hd'⟩ | hno
  ·rw [hone _ _ _ ho' hd',h.here _ _ _ ho' hd' (hpre e he hbd)]
  ·rw [h.other t fun j o' hj _=>hno j o' hj,fillT_other]
   intro o' h'
   obtain ⟨j,hj⟩:=List.getElem?_of_mem h'
   exact hno j o' (by simpa using hj)
 | _=>rfl
theorem wp_transfer {o:Oper} {a a1:Act} {W:World} {d:Nat} (he:execOp a1.eval o = execOp a.eval o) (hd:o.dst = some d) (hlt:d < a1.tmps.size) {k:Value -> World -> Prop}
  (h:Oper.wp P o a1 W (fun a' W'=>a'.defers = a1.defers /\ k (a'.tmps.getD d undef) W') (fun _ _ _=>False)) {K:Act -> World -> Prop} {Q:Exit -> Act -> World -> Prop}
  (hk:∀ v W',k v W' -> K (a.put o.dst v) W'):Oper.wp P o a W K Q:=by
 have hput:∀ v,(a1.put (some d) v).tmps.getD d undef = v:=fun v=>by
  simp [Act.put,Array.getD_eq_getD_getElem?,Array.getElem?_setIfInBounds,hlt]
 unfold Oper.wp at *
 rw [he] at h
 generalize (execOp a.eval o).run P W = r at *
 cases r with
 | ok n w' =>
  cases n <;> simp only [Oper.upon] at h ⊢
  case value v=>rw [hd] at h; rw [hput] at h; exact hk v w' h.2
  case skip=>rw [hd] at h; rw [hput] at h; exact hk _ w' h.2
  case defer d' =>
   exfalso
   have h1:=h.1
   rw [hd] at h1
   simp [Act.put] at h1
  case enter f args =>
   refine Calls.mono h fun e w'' h'=>?_
   cases e with
   | returned v =>
    simp only at h'
    rw [hd] at h'; rw [hput] at h'; exact hk v w'' h'.2
   | panicked c=>exact h'.elim
   | outgrown=>obtain ⟨_,_,h⟩:=h'; exact h.elim
  case row row args =>
   refine Rows.mono h fun v w'' h'=>?_
   rw [hd] at h'; rw [hput] at h'; exact hk v w'' h'.2
 | halt x w' =>
  cases x <;> simp only [Oper.upon] at h ⊢
theorem Lin.put_frame (hd:dstB ops a0.tmps.size = true) {L:Nat -> Bool} {ts:Nat -> Value} {a:Act} {W:World} (h:Lin ops kl B w0 a0 L ts a W) {i:Nat} {o:Oper} (ho:ops[i]? = some o) (v:Value) :
  ((a.put o.dst v).defers = a0.defers) /\ ((a.put o.dst v).tmps.size = a0.tmps.size) /\
  (∀ (j:Nat) (o':Oper) (d:Nat),ops[j]? = some o' -> o'.dst = some d -> (j == i || L j) = true -> (a.put o.dst v).tmps.getD d undef = (if j = i then v else ts j)) /\
  (∀ t,(∀ (j:Nat) (o':Oper),ops[j]? = some o' -> (j == i || L j) = true -> o'.dst ≠ some t) -> (a.put o.dst v).tmps.getD t undef = a0.tmps.getD t undef):=by
 cases hod:o.dst with
 | none =>
  refine ⟨h.defers,h.size,fun j o' d hj hd' hL=>?_,fun t ht=>h.other t fun j o' hj hL=>ht j o' hj (by simp [hL])⟩
  have hne:j ≠ i:=fun e=>by subst e; rw [ho] at hj; cases hj; rw [hod] at hd'; cases hd'
  rw [if_neg hne]
  exact h.here j o' d hj hd' (by simpa [hne] using hL)
 | some d0 =>
  have hlt:d0 < a.tmps.size:=by rw [h.size]; exact dstB_lt hd ho hod
  refine ⟨h.defers,by simpa [Act.put] using h.size,fun j o' d hj hd' hL=>?_,fun t ht=>?_⟩
  ·by_cases hne:j = i
   ·subst hne
    rw [ho] at hj; cases hj
    rw [hod] at hd'; cases hd'
    rw [if_pos rfl]
    simp [Act.put,Array.getD_eq_getD_getElem?,Array.getElem?_setIfInBounds,hlt]
   ·rw [if_neg hne]
    have hdd:d0 ≠ d:=fun e=>hne (dstB_one hd hj ho hd' (e ▸ hod))
    rw [<- h.here j o' d hj hd' (by simpa [hne] using hL)]
    simp only [Act.put,Array.getD_eq_getD_getElem?,Array.getElem?_setIfInBounds,if_neg hdd]
  ·have hdd:d0 ≠ t:=fun e=>ht i o ho sP (e ▸ hod)
   rw [<- h.other t fun j o' hj hL=>ht j o' hj (by simp [hL])]
   simp only [Act.put,Array.getD_eq_getD_getElem?,Array.getElem?_setIfInBounds,if_neg hdd]
theorem kind_val (h:kindB ops kl = true) {i:Nat} {o:Oper} {p:Value -> World -> Prop} (hi:i < kl.length) (ho:ops[i]? = some o) (hk:rk kl i = .val p):∃ d,o.dst = some d:=by
 have h1:=List.all_eq_true.1 h i (List.mem_range.2 hi)
 rw [ho] at h1
 simp only [hk] at h1
 exact Option.isSome_iff_exists.1 h1
theorem kind_box (h:kindB ops kl = true) {i:Nat} {o:Oper} {T:TypeId} {z:Array Value} (hi:i < kl.length) (ho:ops[i]? = some o) (hk:rk kl i = .box T z):(∃ d,o.dst = some d) /\ oddB z = true /\ o.op = .alloc T /\ o.guard = none:=by
 have h1:=List.all_eq_true.1 h i (List.mem_range.2 hi)
 rw [ho] at h1
 simp only [hk,Bool.and_eq_true] at h1
 obtain ⟨⟨⟨h0,h2⟩,h3⟩,h4⟩:=h1
 refine ⟨Option.isSome_iff_exists.1 h2,h3,?_,by simpa using h0⟩
 split at h4
 ·rename_i T' e; rw [e]; simp at h4; rw [h4]
 ·cases h4
theorem kind_put (h:kindB ops kl = true) {i b c:Nat} {o:Oper} (hi:i < kl.length) (ho:ops[i]? = some o) (hk:rk kl i = .put b c) :
  o.dst = none /\ predB ops i b = true /\ predB ops i c = true /\ (∃ p,rk kl c = .val p) /\ (∀ j c',j < kl.length -> rk kl j = .put b c' -> j = i) /\
  o.guard = none /\ ∃ T z ob oc db dc,rk kl b = .box T z /\ ops[b]? = some ob /\ ops[c]? = some oc /\ ob.dst = some db /\ oc.dst = some dc /\ o.op = .store T (.tmp db) (.tmp dc):=by
 have h1:=List.all_eq_true.1 h i (List.mem_range.2 hi)
 rw [ho] at h1
 simp only [hk,Bool.and_eq_true] at h1
 obtain ⟨⟨⟨⟨⟨⟨h0,h2⟩,h3⟩,h4⟩,h5⟩,h6⟩,h7⟩:=h1
 refine ⟨by simpa using h2,h3,h4,?_,fun j c' hj hkj=>?_,by simpa using h0,?_⟩
 ·split at h6
  ·rename_i p e; exact ⟨p,e⟩
  ·cases h6
 ·have:=List.all_eq_true.1 h7 j (List.mem_range.2 hj)
  rw [hkj] at this
  simpa using this
 ·split at h5
  ·rename_i T z e
   split at h5
   ·rename_i db dc eb ec
    split at h5
    ·rename_i T' x y e'
     simp at h5
     obtain ⟨⟨rfl,rfl⟩,rfl⟩:=h5
     cases hob:ops[b]? with
     | none=>rw [hob] at eb; simp at eb
     | some ob =>
      cases hoc:ops[c]? with
      | none=>rw [hoc] at ec; simp at ec
      | some oc =>
       rw [hob] at eb; rw [hoc] at ec
       exact ⟨T',z,ob,oc,_,_,e,rfl,rfl,by simpa using eb,by simpa using ec,e'⟩
    ·cases h5
   ·cases h5
  ·cases h5
theorem held_below (hst:∀ j p,rk kl j = .val p -> StabB p) {L L':Nat -> Bool} {ts ts':Nat -> Value} {W W':World} {j:Nat} (hb:Below W.heap.size W W') (hL:∀ k,L k = true -> L' k = true) (e:ts' j = ts j)
  (hput:∀ b c,rk kl j = .put b c -> ts' b = ts b /\ ts' c = ts c) (h:Held kl B ts L W j):Held kl B ts' L' W' j:=by
 unfold Held at *
 cases hk:rk kl j with
 | val p=>rw [hk] at h; simp only at h ⊢; rw [e]; exact hst j p hk _ _ _ hb h
 | box T z =>
  rw [hk] at h
  simp only at h ⊢
  obtain ⟨g,h1,h2,h3,h4⟩:=h
  refine ⟨g,by rw [e]; exact h1,h2,lL h3 hb.size,fun hn=>?_⟩
  rw [hb.block g h3]
  refine h4 fun k c hkc=>?_
  rcases hLk:L k with _ | _
  ·rfl
  ·have:=hL k hLk; rw [hn k c hkc] at this; cases this
 | put b c =>
  rw [hk] at h
  simp only at h ⊢
  obtain ⟨g,cs,T,z,h1,h2,h3,h4⟩:=h
  obtain ⟨e1,e2⟩:=hput b c hk
  have hlt:g < W.heap.size:=by
   rcases Nat.lt_or_ge g W.heap.size with h' | h'
   ·exact h'
   ·rw [Array.getElem?_eq_none h'] at h4; cases h4
  exact ⟨g,cs,T,z,by rw [e1]; exact h1,by rw [e2]; exact h2,h3,by rw [hb.block g hlt]; exact h4⟩
theorem Lin.val (hd:dstB ops a0.tmps.size = true) (hkd:kindB ops kl = true) (hst:∀ j p,rk kl j = .val p -> StabB p) {L:Nat -> Bool} {ts:Nat -> Value} {a:Act} {W:World} (h:Lin ops kl B w0 a0 L ts a W)
  {i:Nat} {o:Oper} (hi:i < kl.length) (ho:ops[i]? = some o) (hLi:L i = false) (hpre:∀ e ∈ o.after,Region.binds .any e = true -> L e.on = true) (hB:B <= W.heap.size) {v:Value} {W':World} (hb:Below W.heap.size W W')
  (hnew:Held kl B (fun j=>if j = i then v else ts j) (fun j=>j == i || L j) W' i)
  (hap:∀ T z,rk kl i = .box T z -> ∀ j T' z',rk kl j = .box T' z' -> L j = true -> j < ops.size -> v ≠ ts j) :
  Lin ops kl B w0 a0 (fun j=>j == i || L j) (fun j=>if j = i then v else ts j) (a.put o.dst v) W':=by
 obtain ⟨f1,f2,f3,f4⟩:=h.put_frame hd ho v
 have nei:∀ j,L j = true -> j ≠ i:=fun j hj e=>by rw [e,hLi] at hj; cases hj
 refine ⟨h.below.trans (hb.mono hB),f1,f2,f3,f4,fun j hj hL=>?_,fun j k T z T' z' hj hk hkj hkk hLj hLk hne=>?_,fun j o' hj hL e he hbd=>?_,fun j hL=>by
  by_cases hji:j = i
  ·rw [hji]; exact hi
  ·exact h.dom j (by simpa [hji] using hL)⟩
 ·by_cases hji:j = i
  ·subst hji; exact hnew
  ·have hLj:L j = true:=by simpa [hji] using hL
   refine held_below hst hb (fun k hk=>by simp [hk]) (if_neg hji) (fun b c hkj=>?_) (h.held j hj hLj)
   have hoj:ops[j]? = some ops[j]:=Array.getElem?_eq_getElem hj
   obtain ⟨-,p1,p2,-⟩:=kind_put hkd (h.dom j hLj) hoj hkj
   obtain ⟨e1,he1,hb1,rfl⟩:=predB_spec hoj p1
   obtain ⟨e2,he2,hb2,rfl⟩:=predB_spec hoj p2
   exact ⟨if_neg (nei _ (h.shut j _ hoj hLj e1 he1 hb1)),if_neg (nei _ (h.shut j _ hoj hLj e2 he2 hb2))⟩
 ·by_cases hji:j = i
  ·subst hji
   have hkj':k ≠ j:=fun e=>hne e.symm
   have hLk':L k = true:=by simpa [hkj'] using hLk
   simp only [if_true,if_neg hkj']
   exact hap T z hkj k T' z' hkk hLk' hk
  ·have hLj':L j = true:=by simpa [hji] using hLj
   by_cases hki:k = i
   ·subst hki
    simp only [if_true,if_neg hji]
    exact fun e=>hap T' z' hkk j T z hkj hLj' hj e.symm
   ·have hLk':L k = true:=by simpa [hki] using hLk
    simp only [if_neg hji,if_neg hki]
    exact h.apart j k T z T' z' hj hk hkj hkk hLj' hLk' hne
 ·by_cases hji:j = i
  ·subst hji
   rw [ho] at hj; cases hj
   simp [hpre e he hbd]
  ·have hLj:L j = true:=by simpa [hji] using hL
   simp [h.shut j o' hj hLj e he hbd]
theorem Lin.putAt (hd:dstB ops a0.tmps.size = true) (hkd:kindB ops kl = true) (hst:∀ j p,rk kl j = .val p -> Stab p) {L:Nat -> Bool} {ts:Nat -> Value} {a:Act} {W:World} (h:Lin ops kl B w0 a0 L ts a W)
  {i b c:Nat} {o:Oper} (hi:i < kl.length) (ho:ops[i]? = some o) (hLi:L i = false) (hpre:∀ e ∈ o.after,Region.binds .any e = true -> L e.on = true) (hk:rk kl i = .put b c)
  {g:Nat} {T:TypeId} {z cs:Array Value} {W':World} (hbx:rk kl b = .box T z) (hg:ts b = .pointer (some ⟨g,0,none⟩)) (hB:B <= g) (hz:W.heap[g]? = some (.cells z T (0,0))) (hc:ts c = .agg cs) (hp:PutAt W W' g T cs) :
  Lin ops kl B w0 a0 (fun j=>j == i || L j) (fun j=>if j = i then undef else ts j) (a.put o.dst undef) W':=by
 obtain ⟨f1,f2,f3,f4⟩:=h.put_frame hd ho undef
 obtain ⟨hdst,p1,p2,-,huni,-,T1,z1,ob,oc,db,dc,hbx',hob,hoc,-⟩:=kind_put hkd hi ho hk
 have nei:∀ j,L j = true -> j ≠ i:=fun j hj e=>by rw [e,hLi] at hj; cases hj
 obtain ⟨eb,heb,hbb,rfl⟩:=predB_spec ho p1
 obtain ⟨ec,hec,hbc,rfl⟩:=predB_spec ho p2
 have hLb:=hpre eb heb hbb
 have hLc:=hpre ec hec hbc
 have hodd:oddB z = true:=(kind_box hkd (h.dom _ hLb) hob hbx).2.1
 have hext:=hp.ext hz hodd
 have hlt:g < W.heap.size:=by
  rcases Nat.lt_or_ge g W.heap.size with h' | h'
  ·exact h'
  ·rw [Array.getElem?_eq_none h'] at hz; cases hz
 refine ⟨hp.below h.below hB,f1,f2,f3,f4,fun j hj hL=>?_,fun j k T z T' z' hj hk' hkj hkk hLj hLk hne=>?_,fun j o' hj hL e he hbd=>?_,fun j hL=>by
  by_cases hji:j = i
  ·rw [hji]; exact hi
  ·exact h.dom j (by simpa [hji] using hL)⟩
 ·by_cases hji:j = i
  ·subst hji
   unfold Held
   rw [hk]
   simp only
   exact ⟨g,cs,T,z,by rw [if_neg (nei _ hLb)]; exact hg,by rw [if_neg (nei _ hLc)]; exact hc,hbx,hp.here⟩
  ·have hLj:L j = true:=by simpa [hji] using hL
   have hh:=h.held j hj hLj
   have hoj:ops[j]? = some ops[j]:=Array.getElem?_eq_getElem hj
   unfold Held at *
   cases hkj:rk kl j with
   | val p=>rw [hkj] at hh; simp only at hh ⊢; rw [if_neg hji]; exact hst j p hkj _ _ _ hext hh
   | box T2 z2 =>
    rw [hkj] at hh
    simp only at hh ⊢
    obtain ⟨g2,h1,h2,h3,h4⟩:=hh
    refine ⟨g2,by rw [if_neg hji]; exact h1,h2,by rw [hp.size]; exact h3,fun hn=>?_⟩
    by_cases hjb:j = eb.on
    ·subst hjb
     have:=hn i _ hk
     simp at this
    ·have hap:=h.apart j eb.on _ _ _ _ hj (lt_of_op hob) hkj hbx hLj hLb hjb
     have hgg:g2 ≠ g:=fun e=>hap (by rw [h1,hg,e])
     rw [hp.other g2 hgg]
     exact h4 fun k c' hkc=>by
      have:=hn k c' hkc
      simp at this
      exact this.2
   | put b' c' =>
    rw [hkj] at hh
    simp only at hh ⊢
    obtain ⟨g2,cs2,T2,z2,h1,h2,h3,h4⟩:=hh
    obtain ⟨-,q1,q2,-,-,-,T3,z3,ob',oc',_,_,hbx3,hob',hoc',-⟩:=kind_put hkd (h.dom j hLj) hoj hkj
    obtain ⟨e1,he1,hb1,rfl⟩:=predB_spec hoj q1
    obtain ⟨e2,he2,hb2,rfl⟩:=predB_spec hoj q2
    have hL1:=h.shut j _ hoj hLj e1 he1 hb1
    have hL2:=h.shut j _ hoj hLj e2 he2 hb2
    have hbb':e1.on ≠ eb.on:=fun e=>hji (huni j _ (h.dom j hLj) (by rw [hkj,e]))
    have hap:=h.apart e1.on eb.on _ _ _ _ (lt_of_op hob') (lt_of_op hob) h3 hbx hL1 hLb hbb'
    have hgg:g2 ≠ g:=fun e=>hap (by rw [h1,hg,e])
    exact ⟨g2,cs2,T2,z2,by rw [if_neg (nei _ hL1)]; exact h1,by rw [if_neg (nei _ hL2)]; exact h2,h3,by rw [hp.other g2 hgg]; exact h4⟩
 ·have nb:∀ q T z,rk kl q = .box T z -> q ≠ i:=fun q T z hq e=>by rw [e,hk] at hq; cases hq
  have hLj':L j = true:=by simpa [nb j _ _ hkj] using hLj
  have hLk':L k = true:=by simpa [nb k _ _ hkk] using hLk
  simp only [if_neg (nb j _ _ hkj),if_neg (nb k _ _ hkk)]
  exact h.apart j k T z T' z' hj hk' hkj hkk hLj' hLk' hne
 ·by_cases hji:j = i
  ·subst hji
   rw [ho] at hj; cases hj
   simp [hpre e he hbd]
  ·have hLj:L j = true:=by simpa [hji] using hL
   simp [h.shut j o' hj hLj e he hbd]
def AllocOk (P:Program) (T:TypeId) (z:Array Value):Prop:=∀ W,(Instr.alloc T true (.tuple #[])).run P W = .ok (.pointer (some ⟨W.heap.size,0,none⟩)) (W.alloc (.cells z T (0,0)))
def StoreOk (P:Program) (T:TypeId) (z:Array Value) (p:Value -> World -> Prop):Prop:=(P.info? T).map (·.size) = some z.size /\ ∀ v W,p v W -> ∃ cs,v = .agg cs /\ cs.size = z.size /\ cs.all (·.oneCell') = true
structure Goes (p:Prop):Prop where
 out:p
def Guarded (g:Option (Nat × Bool)) (ts:Nat -> Value) (A B:Prop):Prop:=match g with
 | none=>B
 | some (g,want)=>∃ b,ts g = .bool b /\ (b = want -> B) /\ (b ≠ want -> A)
theorem Guarded.on {g:Nat} {want:Bool} {ts:Nat -> Value} {A B:Prop} (h:ts g = .bool want) (hB:B):Guarded (some (g,want)) ts A B:=⟨want,h,fun _=>hB,fun h=>absurd rfl h⟩
theorem Guarded.off {g:Nat} {want b:Bool} {ts:Nat -> Value} {A B:Prop} (h:ts g = .bool b) (hn:b ≠ want) (hA:A):Guarded (some (g,want)) ts A B:=⟨b,h,fun e=>absurd e hn,fun _=>hA⟩
def Ob (P:Program) (ops:Array Oper) (kl:List RK) (B:Nat) (w0:World) (a0:Act) (o:Oper) (i:Nat) (p:Value -> World -> Prop):Prop :=
 ∀ (ts:Nat -> Value) (W:World),Below B w0 W -> B <= W.heap.size -> (∀ j,predB ops i j = true -> match rk kl j with | .val q=>q (ts j) W | _=>True) ->
  Guarded o.guard ts (p undef W) (∀ K:Act -> World -> Prop,(∀ v W',p v W' -> Below W.heap.size W W' -> K (Act.put ⟨fillT ts ops.toList 0 a0.tmps,a0.defers⟩ o.dst v) W') ->
   Goes (Oper.wp P o ⟨fillT ts ops.toList 0 a0.tmps,a0.defers⟩ W K (fun _ _ _=>False)))
def AllOb (P:Program) (ops:Array Oper) (kl:List RK) (B:Nat) (w0:World) (a0:Act):List Oper -> List RK -> Nat -> Prop
 | o :: os,.val p :: r,i=>Ob P ops kl B w0 a0 o i p /\ AllOb P ops kl B w0 a0 os r (i + 1)
 | _ :: os,.box T z :: r,i=>AllocOk P T z /\ AllOb P ops kl B w0 a0 os r (i + 1)
 | _ :: os,.put b c :: r,i=>(match rk kl b,rk kl c with | .box T z,.val p=>StoreOk P T z p | _,_=>True) /\ AllOb P ops kl B w0 a0 os r (i + 1)
 | [],_,_=>True
 | _ :: _,[],_=>False
theorem AllOb.at {os:List Oper} {r:List RK} {i0:Nat} (h:AllOb P ops kl B w0 a0 os r i0) {i:Nat} {o:Oper} (ho:os[i]? = some o) :
  match r.getD i (.val fun _ _=>True) with
  | .val p=>Ob P ops kl B w0 a0 o (i0 + i) p
  | .box T z=>AllocOk P T z
  | .put b c=>match rk kl b,rk kl c with | .box T z,.val p=>StoreOk P T z p | _,_=>True:=by
 induction os generalizing r i0 i with
 | nil=>simp at ho
 | cons o1 os ih =>
  cases r with
  | nil=>exact h.elim
  | cons k r =>
   cases i with
   | zero =>
    simp at ho
    subst ho
    cases k <;> exact h.1
   | succ i =>
    have h2:AllOb P ops kl B w0 a0 os r (i0 + 1):=by cases k <;> exact h.2
    have:=ih h2 (i:=i) (by simpa using ho)
    rw [show i0 + 1 + i = i0 + (i + 1) by omega] at this
    simpa using this
def hasPut:List RK -> Bool
 | []=>false
 | .put _ _ :: _=>true
 | _ :: r=>hasPut r
theorem hasPut_of {r:List RK} {i b c:Nat} (h:r.getD i (.val fun _ _=>True) = .put b c):hasPut r = true:=by
 induction r generalizing i with
 | nil=>simp at h
 | cons k r ih =>
  cases i with
  | zero=>simp at h; subst h; rfl
  | succ i =>
   have:=ih (i:=i) (by simpa using h)
   cases k <;> first | exact this | rfl
def StabW:Bool -> (Value -> World -> Prop) -> Prop
 | true,p=>Stab p
 | false,p=>StabB p
def stabs (hp:Bool):List RK -> Prop
 | []=>True
 | .val p :: r=>StabW hp p /\ stabs hp r
 | _ :: r=>stabs hp r
theorem stabs.at {hp:Bool} {r:List RK} (h:stabs hp r) (i:Nat) (p:Value -> World -> Prop) (hk:r.getD i (.val fun _ _=>True) = .val p):StabW hp p:=by
 induction r generalizing i with
 | nil =>
  simp at hk
  subst hk
  cases hp
  ·exact fun _ _ _ _ h=>h
  ·exact fun _ _ _ _ h=>h
 | cons k r ih =>
  cases i with
  | zero =>
   simp at hk
   subst hk
   exact h.1
  | succ i=>exact ih (by cases k <;> first | exact h.2 | exact h) i (by simpa using hk)
theorem stabs.b {hp:Bool} {r:List RK} (h:stabs hp r) (j:Nat) (p:Value -> World -> Prop) (hk:rk r j = .val p):StabB p:=by
 have:=h.at j p hk
 cases hp
 ·exact this
 ·exact Stab.b this
theorem heap_ge_none {w:World} {g:Nat} {o:Obj} (h:w.heap[g]? = some o):g < w.heap.size:=by
 rcases Nat.lt_or_ge g w.heap.size with h' | h'
 ·exact h'
 ·rw [Array.getElem?_eq_none h'] at h; cases h
theorem putAt_setRow {w:World} {g:Nat} {T:TypeId} {z cs:Array Value} (h:w.heap[g]? = some (.cells z T (0,0))):PutAt w (w.setRow g cs) g T cs:=by
 refine ⟨rfl,rfl,rfl,by simp [World.setRow],fun k hk=>?_,?_⟩
 ·simp only [World.setRow,Array.getElem?_modify]
  rw [if_neg (fun e=>hk e.symm)]
 ·simp [World.setRow,Array.getElem?_modify,h]
theorem lin_step {w:World} {Q:Exit -> Act -> World -> Prop} (hb:backB ops = true) (hd:dstB ops a0.tmps.size = true) (hl:looksB ops = true) (hkd:kindB ops kl = true)
  (hst:stabs (hasPut kl) kl) (hob:AllOb P ops kl w.heap.size w a0 (ops.toList.take kl.length) kl 0) {L:Nat -> Bool} {ts:Nat -> Value} {a:Act} {W:World} (h:Lin ops kl w.heap.size w a0 L ts a W) {i:Nat} {o:Oper} (hi':i < kl.length) (ho:ops[i]? = some o) (hLi:L i = false)
  (hpre:∀ e ∈ o.after,Region.binds .any e = true -> L e.on = true):wpOp P ops Q i (fun a' w'=>∃ ts,Lin ops kl w.heap.size w a0 (fun j=>j == i || L j) ts a' w') a W:=by
 have hstab:∀ j p,rk kl j = .val p -> StabB p:=fun j p h=>hst.b j p h
 have hi:=lt_of_op ho
 have hBW:w.heap.size <= W.heap.size:=h.below.size
 obtain ⟨hgd0,-,-⟩:=looksB_spec hl ho
 have hexec:=execOp_lin hd hl h ho hpre
 have hobi:=hob.at (i:=i) (o:=o) (by rw [List.getElem?_take_of_lt hi']; simpa using ho)
 rw [Nat.zero_add] at hobi
 unfold wpOp
 rw [ho]
 simp only
 cases hk:rk kl i with
 | val p =>
  obtain ⟨d,hod⟩:=kind_val hkd hi' ho hk
  unfold rk at hk
  rw [hk] at hobi
  simp only at hobi
  have hpk:∀ j,predB ops i j = true -> match rk kl j with | .val q=>q (ts j) W | _=>True:=fun j hj=>by
   obtain ⟨e,he,hbd,rfl⟩:=predB_spec ho hj
   cases hq:rk kl e.on with
   | val q =>
    have hLj:=hpre e he hbd
    have:=h.held e.on (by have:=backB_spec hb ho e he hbd; omega) hLj
    unfold Held at this
    rw [hq] at this
    exact this
   | _=>trivial
  have hsz:d < (fillT ts ops.toList 0 a0.tmps).size:=by rw [fillT_size]; exact dstB_lt hd ho hod
  have hob1:=hobi ts W h.below hBW hpk
  have main:(∀ K:Act -> World -> Prop,(∀ v W',p v W' -> Below W.heap.size W W' -> K (Act.put ⟨fillT ts ops.toList 0 a0.tmps,a0.defers⟩ o.dst v) W') ->
    Goes (Oper.wp P o ⟨fillT ts ops.toList 0 a0.tmps,a0.defers⟩ W K (fun _ _ _=>False))) -> Oper.wp P o a W (fun a' w'=>∃ ts,Lin ops kl w.heap.size w a0 (fun j=>j == i || L j) ts a' w') Q:=fun hob2=>by
   refine wp_transfer (k:=fun v W'=>p v W' /\ Below W.heap.size W W') hexec hod hsz (hob2 _ fun v W' hp hbW=>?_).out ?_
   ·rw [hod]
    simp only [Act.put]
    refine ⟨trivial,?_⟩
    have e:(Array.setIfInBounds (fillT ts ops.toList 0 a0.tmps) d v).getD d undef = v:=by
     simp [Array.getD_eq_getD_getElem?,Array.getElem?_setIfInBounds,hsz]
    rw [e]
    exact ⟨hp,hbW⟩
   ·rintro v W' ⟨hp,hbW⟩
    refine ⟨_,h.val hd hkd hstab hi' ho hLi hpre hBW hbW ?_ fun T z hT=>by unfold rk at hT; rw [hk] at hT; cases hT⟩
    unfold Held rk
    rw [hk]
    simp only [if_true]
    exact hp
  cases hgd:o.guard with
  | none =>
   have hwant:Region.wanted o (yielded ops a.tmps) = true:=by unfold Region.wanted; rw [hgd]
   simp only [hwant,if_true]
   rw [hgd] at hob1
   exact .inl (main hob1)
  | some gw =>
   obtain ⟨g,want⟩:=gw
   rw [hgd] at hob1
   obtain ⟨b,hb1,hb2,hb3⟩:=hob1
   obtain ⟨e,he,hbd,rfl,og,dg,hog,hdg⟩:=hgd0 g want hgd
   have hLg:=hpre e he hbd
   have hy:yielded ops a.tmps e.on = some b:=by
    unfold yielded
    rw [hog]
    simp only [Option.bind_some,hdg]
    have h1:=h.here _ _ _ hog hdg hLg
    rw [hb1] at h1
    have h2:a.tmps[dg]? = some (.bool b):=by
     rw [Array.getD_eq_getD_getElem?] at h1
     cases hx:a.tmps[dg]? with
     | none =>
      have:=Array.getElem?_eq_none_iff.1 hx
      have h3:=dstB_lt hd hog hdg
      rw [h.size] at this
      omega
     | some y=>rw [hx] at h1; simp at h1; rw [h1]
    simp [h2]
   have hwd:Region.wanted o (yielded ops a.tmps) = (b == want):=by unfold Region.wanted; rw [hgd]; simp [hy]
   rw [hwd]
   by_cases hbw:b = want
   ·simp only [hbw,beq_self_eq_true,if_true]
    exact .inl (main (hb2 hbw))
   ·have:(b == want) = false:=by simpa using hbw
    simp only [this,Bool.false_eq_true,if_false]
    refine ⟨_,h.val hd hkd hstab hi' ho hLi hpre hBW (Below.refl _ _) ?_ fun T z hT=>by unfold rk at hT; rw [hk] at hT; cases hT⟩
    unfold Held rk
    rw [hk]
    simp only [if_true]
    exact hb3 hbw
 | box T z =>
  obtain ⟨⟨d,hod⟩,hoz,hop,hgd⟩:=kind_box hkd hi' ho hk
  have hwant:Region.wanted o (yielded ops a.tmps) = true:=by unfold Region.wanted; rw [hgd]
  simp only [hwant,if_true]
  left
  have hk':=hk
  unfold rk at hk
  rw [hk] at hobi
  simp only at hobi
  have hrun:(execOp a.eval o).run P W = .ok (.value (.pointer (some ⟨W.heap.size,0,none⟩))) (W.alloc (.cells z T (0,0))):=by
   unfold execOp
   simp only [hop,Sem.run_bind,hobi W,Result.andThen_ok,Sem.run_pure]
  unfold Oper.wp
  rw [hrun]
  simp only [Oper.upon]
  refine ⟨_,h.val hd hkd hstab hi' ho hLi hpre hBW ((Below.refl _ _).alloc lR _) ?_ fun T' z' _ j T2 z2 hj2 hLj hjs=>?_⟩
  ·unfold Held rk
   rw [hk]
   simp only [if_true]
   exact ⟨W.heap.size,rfl,hBW,sP,fun _=>by show (W.heap.push _)[_]? = _; simp⟩
  ·have:=h.held j hjs hLj
   unfold Held at this
   rw [hj2] at this
   obtain ⟨g,h1,h2,h3,-⟩:=this
   rw [h1]
   intro e
   injection e with e
   injection e with e
   injection e with e
   omega
 | put b c =>
  obtain ⟨hdst,p1,p2,⟨p,hpc⟩,huni,hgd,T,z,ob,oc,db,dc,hbx,hob',hoc',hdb,hdc,hop⟩:=kind_put hkd hi' ho hk
  have hwant:Region.wanted o (yielded ops a.tmps) = true:=by unfold Region.wanted; rw [hgd]
  simp only [hwant,if_true]
  left
  obtain ⟨eb,heb,hbb,rfl⟩:=predB_spec ho p1
  obtain ⟨ec,hec,hbc,rfl⟩:=predB_spec ho p2
  have hk':=hk
  unfold rk at hk
  rw [hk] at hobi
  simp only [hbx,hpc] at hobi
  have hLb:=hpre eb heb hbb
  have hLc:=hpre ec hec hbc
  have hhb:=h.held eb.on (lt_of_op hob') hLb
  have hhc:=h.held ec.on (lt_of_op hoc') hLc
  unfold Held at hhb hhc
  rw [hbx] at hhb
  rw [hpc] at hhc
  simp only at hhb hhc
  obtain ⟨g,h1,h2,h3,h4⟩:=hhb
  have hz:=h4 fun k c' hkc=>by
   have hks:k < kl.length:=by
    rcases Nat.lt_or_ge k kl.length with hh | hh
    ·exact hh
    ·unfold rk at hkc
     rw [List.getD_eq_getElem?_getD,List.getElem?_eq_none hh] at hkc
     cases hkc
   rcases hLk:L k with _ | _
   ·rfl
   ·have:=huni k c' hks hkc
    rw [this,hLi] at hLk; cases hLk
  obtain ⟨hinfo,hsto⟩:=hobi
  obtain ⟨cs,hcs,hsz,hone⟩:=hsto _ _ hhc
  have ea:a.eval (.tmp db) = .pointer (some ⟨g,0,none⟩):=by
   show a.tmps.getD db undef = _
   rw [h.here _ _ _ hob' hdb hLb,h1]
  have ec':a.eval (.tmp dc) = .agg cs:=by
   show a.tmps.getD dc undef = _
   rw [h.here _ _ _ hoc' hdc hLc,hcs]
  refine wp_store_row T _ _ hop g cs ea ec' T z hz (by rw [hinfo,hsz]) hsz.symm hone ?_
  have hstab':∀ j p,rk kl j = .val p -> Stab p:=fun j p h=>by
   have h1:=hst.at j p h
   have h2:hasPut kl = true:=hasPut_of hk
   rw [h2] at h1
   exact h1
  exact ⟨_,h.putAt hd hkd hstab' hi' ho hLi hpre hk' hbx h1 h2 hz hcs (putAt_setRow hz)⟩
theorem lin_fin (hd:dstB ops a0.tmps.size = true) {w:World} {L:Nat -> Bool} {ts:Nat -> Value} {a:Act} {W:World} (h:Lin ops kl w.heap.size w a0 L ts a W) (hlen:kl.length <= ops.size) (hall:∀ j,j < kl.length -> L j = true) (hrest:∀ (i:Nat) (o:Oper),ops[i]? = some o -> kl.length <= i -> o.dst = none) :
  a = ⟨fillT ts ops.toList 0 a0.tmps,a0.defers⟩ /\ (∀ i,i < kl.length -> Held kl w.heap.size ts (fun _=>true) W i) /\ (∀ i j,i < kl.length -> j < kl.length -> i ≠ j -> (match rk kl i,rk kl j with | .box _ _,.box _ _=>ts i ≠ ts j | _,_=>True)):=by
 have hall':∀ (i:Nat) (o:Oper) (d:Nat),ops[i]? = some o -> o.dst = some d -> L i = true:=fun i o d ho hod=>by
  rcases Nat.lt_or_ge i kl.length with hh | hh
  ·exact hall i hh
  ·rw [hrest i o ho hh] at hod; cases hod
 have hone:∀ (k:Nat) (o1:Oper) (t:Nat),ops[k]? = some o1 -> o1.dst = some t -> (fillT ts ops.toList 0 a0.tmps).getD t undef = ts k:=fun k o1 t h1 h2=>by
  rw [fillT_at ts t ops.toList 0 k o1 a0.tmps (by simpa using h1) h2 (dstB_lt hd h1 h2) (fun j o' hj hd'=>dstB_one hd (by simpa using hj) h1 hd' h2),Nat.zero_add]
 have ha:a = ⟨fillT ts ops.toList 0 a0.tmps,a0.defers⟩:=by
  obtain ⟨tm,df⟩:=a
  have e1:df = a0.defers:=h.defers
  have e2:tm = fillT ts ops.toList 0 a0.tmps:=by
   apply Array.ext
   ·rw [fillT_size]; exact h.size
   ·intro t h1 h2
    have e3:tm.getD t undef = (fillT ts ops.toList 0 a0.tmps).getD t undef:=by
     by_cases hex:∃ (i:Nat) (o:Oper),ops[i]? = some o /\ o.dst = some t
     ·obtain ⟨i,o,ho,hod⟩:=hex
      rw [hone i o t ho hod]
      exact h.here i o t ho hod (hall' i o t ho hod)
     ·have hno:∀ (i:Nat) (o:Oper),ops[i]? = some o -> o.dst ≠ some t:=fun i o ho hod=>hex ⟨i,o,ho,hod⟩
      rw [fillT_other _ _ _ _ _ fun o' h'=>by
       obtain ⟨j,hj⟩:=List.getElem?_of_mem h'
       exact hno j o' (by simpa using hj)]
      exact h.other t fun i o ho _=>hno i o ho
    simpa [Array.getD,h1,h2] using e3
  rw [e1,e2]
 have hw:∀ i,i < kl.length -> Held kl w.heap.size ts (fun _=>true) W i:=fun i hi=>by
  have:=h.held i oM (hall i hi)
  unfold Held at *
  cases hk:rk kl i with
  | val p=>rw [hk] at this; exact this
  | put b c=>rw [hk] at this; exact this
  | box T z =>
   rw [hk] at this
   simp only at this ⊢
   obtain ⟨g,h1,h2,h3,h4⟩:=this
   refine ⟨g,h1,h2,h3,fun hn=>h4 fun k c hkc=>?_⟩
   have:=hn k c hkc
   cases this
 refine ⟨ha,hw,fun i j hi hj hij=>?_⟩
 cases hki:rk kl i with
 | box T z =>
  cases hkj:rk kl j with
  | box T' z'=>exact h.apart i j _ _ _ _ oM oM hki hkj (hall i hi) (hall j hj) hij
  | _=>trivial
 | _=>trivial
theorem lin_start {w w':World} (hw':w' = w ∨ w' = w.drew):∃ ts,Lin ops kl w.heap.size w a0 (fun _=>false) ts a0 w':=by
 refine ⟨fun _=>undef,(by rcases hw' with rfl | rfl <;> first | exact Below.refl _ _ | exact (Below.refl _ _).drew),rfl,rfl,fun i o d _ _ hL=>(by cases hL),fun t _=>rfl,fun i _ hL=>(by cases hL),fun i j T z T' z' _ _ _ _ hL=>(by cases hL),fun i o _ hL=>(by cases hL),fun i hL=>(by cases hL)⟩
theorem region_lin {id:Nat} {dr:Bool} {w:World} {Q:Exit -> Act -> World -> Prop} (kl:List RK) (hm:P.follows .mixedOrders = true) (hb:backB ops = true) (hd:dstB ops a0.tmps.size = true) (hl:looksB ops = true) (hkd:kindB ops kl = true)
  (hst:stabs (hasPut kl) kl) (hlen:kl.length = ops.size) (hob:AllOb P ops kl w.heap.size w a0 (ops.toList.take kl.length) kl 0)
  (fin:∀ (ts:Nat -> Value) (W:World),Below w.heap.size w W -> (∀ i,i < kl.length -> Held kl w.heap.size ts (fun _=>true) W i) ->
   (∀ i j,i < kl.length -> j < kl.length -> i ≠ j -> (match rk kl i,rk kl j with | .box _ _,.box _ _=>ts i ≠ ts j | _,_=>True)) -> Q .normal ⟨fillT ts ops.toList 0 a0.tmps,a0.defers⟩ W) :
  (Code.region id ops dr).wp P Q a0 w:=by
 refine wp_region_lin' (fun L a W=>∃ ts,Lin ops kl w.heap.size w a0 L ts a W) hm hb ?_ ?_ fun w' hw'=>lin_start hw'
 ·rintro L a W ⟨ts,h⟩ i o ho hLi hpre
  exact lin_step hb hd hl hkd hst hob h (by have:=lt_of_op ho; omega) ho hLi hpre
 ·rintro L a W ⟨ts,h⟩ hall
  obtain ⟨ha,h1,h2⟩:=lin_fin hd h oM (fun j hj=>hall j oM) (fun i o ho hi=>by have:=lt_of_op ho; omega)
  rw [ha]
  exact fin ts W h.below h1 h2
theorem region_last {id:Nat} {dr:Bool} {w:World} {Q:Exit -> Act -> World -> Prop} (kl:List RK) (hm:P.follows .mixedOrders = true) (hb:backB ops = true) (hd:dstB ops a0.tmps.size = true) (hl:looksB ops = true) (hkd:kindB ops kl = true)
  (hst:stabs (hasPut kl) kl) (hlen:kl.length + 1 = ops.size) {ol:Oper} (hol:ops.toList[kl.length]? = some ol) (hlast:(ol.dst.isNone && ol.guard.isNone && (List.range kl.length).all (predB ops kl.length)) = true)
  (hob:AllOb P ops kl w.heap.size w a0 (ops.toList.take kl.length) kl 0)
  (fin:∀ (ts:Nat -> Value) (W:World),Below w.heap.size w W -> (∀ i,i < kl.length -> Held kl w.heap.size ts (fun _=>true) W i) ->
   (∀ i j,i < kl.length -> j < kl.length -> i ≠ j -> (match rk kl i,rk kl j with | .box _ _,.box _ _=>ts i ≠ ts j | _,_=>True)) ->
   ∀ K:Act -> World -> Prop,(∀ a' W',Q .normal a' W' -> K a' W') -> Goes (Oper.wp P ol ⟨fillT ts ops.toList 0 a0.tmps,a0.defers⟩ W K Q)) :
  (Code.region id ops dr).wp P Q a0 w:=by
 ·replace hol:ops[kl.length]? = some ol:=by simpa using hol
  simp only [Bool.and_eq_true] at hlast
  obtain ⟨⟨hld,hlg⟩,hlp⟩:=hlast
  have hld':ol.dst = none:=by simpa using hld
  have hlg':ol.guard = none:=by simpa using hlg
  refine wp_region_lin' (fun L a W=>(L kl.length = false /\ ∃ ts,Lin ops kl w.heap.size w a0 L ts a W) ∨ ((∀ j,j < ops.size -> L j = true) /\ Q .normal a W)) hm hb ?_ ?_ fun w' hw'=>.inl ⟨rfl,lin_start hw'⟩
  ·rintro L a W (⟨hn,ts,h⟩ | ⟨hall,-⟩) i o ho hLi hpre
   ·by_cases hi:i = kl.length
    ·subst hi
     rw [hol] at ho
     cases ho
     have hall:∀ j,j < kl.length -> L j = true:=fun j hj=>by
      obtain ⟨e,he,hbd,rfl⟩:=predB_spec hol (List.all_eq_true.1 hlp j (List.mem_range.2 hj))
      exact hpre e he hbd
     obtain ⟨ha,h1,h2⟩:=lin_fin hd h oM hall (fun i o ho hi=>by
      have:=lt_of_op ho
      obtain rfl:i = kl.length:=oM
      rw [hol] at ho; cases ho; exact hld')
     have hwant:Region.wanted ol (yielded ops a.tmps) = true:=by unfold Region.wanted; rw [hlg']
     have hfin:=(fin ts W h.below h1 h2 (Q .normal) (fun _ _ h=>h)).out
     unfold wpOp
     rw [hol]
     simp only [hwant,if_true]
     rw [ha]
     refine .inl (Oper.wp_mono (fun a' w' hq=>.inr ⟨fun j hj=>?_,hq⟩) hfin)
     by_cases hjk:j = kl.length
     ·simp [hjk]
     ·simp [hall j oM]
    ·have hi':i < kl.length:=by have:=lt_of_op ho; omega
     refine wpOp_mono (fun a' w' hh=>.inl ⟨?_,hh⟩) (lin_step hb hd hl hkd hst hob h hi' ho hLi hpre)
     have:(kl.length == i) = false:=by simpa using fun e=>hi (Eq.symm e)
     simp [this,hn]
   ·rw [hall i (lt_of_op ho)] at hLi; cases hLi
  ·rintro L a W (⟨hn,-⟩ | ⟨-,hq⟩) hall
   ·rw [hall _ oM] at hn; cases hn
   ·exact hq
end
theorem wp_buildSlice {P:Program} {o:Oper} {a:Act} {w w':World} {K:Act -> World -> Prop} {Q:Exit -> Act -> World -> Prop} {t:TypeId} {n:Nat} {parts:Array (Nat × Operand)} (ho:o.op = .buildSlice t n parts)
  {ps:Array (Nat × Value)} (hp:(parts.map fun (i,x)=>(i,a.eval x)) = ps) {v:Value} (hr:(Instr.buildSlice t n ps).run P w = .ok v w') (hK:K (a.put o.dst v) w'):Oper.wp P o a w K Q:=by
 unfold Oper.wp execOp
 simp only [ho,hp,Sem.run_bind,hr,Result.andThen_ok,Sem.run_pure]
 exact hK
theorem sA {α:Type} (l:List α) (i:Nat) (a:α):l.toArray.setIfInBounds i a = (l.set i a).toArray:=List.setIfInBounds_toArray ..
theorem sB {α:Type} (a b:α) (l:List α):(a :: l).set 0 b = b :: l:=rfl
theorem sC {α:Type} (a b:α) (l:List α) (n:Nat):(a :: l).set (n + 1) b = a :: l.set n b:=rfl
theorem obp {P:Prop} (h:P:=by (intro ts W hb hB hp K hK; simp only [fillT,zA,Nat.reduceAdd,sA,sB,sC] at hK ⊢; have HK:=Lib.hid hK; clear hK hp; refine ⟨?_⟩; go_simp; exact HK.out _ _ rfl (Below.refl _ _))):P:=h
end Go.Proofs.YtjodlmanheeajaaGreatDoor
