import Derived.Test.YtffegeaflohfhaaGreatDoorS13
import Derived.Test.YtffegeaflohfhaaGreatDoorS20
import Derived.Test.YtffegeaflohfhaaGreatDoorS26
import Derived.Test.YtffegeaflohfhaaGreatDoorS30
import Derived.Test.YtffegeaflohfhaaGreatDoorS36
import Derived.Test.YtffegeaflohfhaaGreatDoorS38
import Derived.Test.YtffegeaflohfhaaGreatDoorU36
import Derived.Test.YtffegeaflohfhaaGreatDoorU15
import Derived.Test.YtffegeaflohfhaaGreatDoorU35
import Derived.Test.YtffegeaflohfhaaGreatDoorS02
set_option linter.unusedVariables false
set_option linter.unusedSimpArgs false
set_option maxRecDepth 100000
set_option maxHeartbeats 8000000
namespace Go.Proofs.YtffegeaflohfhaaGreatDoor
open Go.RowKit
def QBlk (W:World) (g n:Nat) (V:Nat -> Prop) (f:Nat -> Cx):Prop:=∃ cs:Array Value,W.heap[g]? = some (.cells cs 42 (0,0)) /\ cs.size = 5 * n /\ cs.all (·.oneCell') = true /\
 ∀ j,j < n -> ∃ A B C p q na ca nb cb nc cc,cs[5 * j]? = some (.bool p) /\ cs[5 * j + 1]? = some (.slice A na ca) /\ cs[5 * j + 2]? = some (.bool q) /\ cs[5 * j + 3]? = some (.slice B nb cb) /\ cs[5 * j + 4]? = some (.slice C nc cc) /\
  (V j -> IsQ W (.agg #[.bool p,.slice A na ca,.bool q,.slice B nb cb,.slice C nc cc]) (f j))
theorem QBlk.lt {W:World} {g n:Nat} {V:Nat -> Prop} {f:Nat -> Cx} (h:QBlk W g n V f):g < W.heap.size:=by
 obtain ⟨cs,h,-⟩:=h
 exact heap_ge_none h
theorem QBlk.ext {W W':World} {g n:Nat} {V:Nat -> Prop} {f:Nat -> Cx} (h:QBlk W g n V f) (he:Ext W W') (hg:W'.heap[g]? = W.heap[g]?):QBlk W' g n V f:=by
 obtain ⟨cs,h1,h2,h3,h4⟩:=h
 refine ⟨cs,hg.trans h1,h2,h3,fun j hj=>?_⟩
 obtain ⟨A,B,C,p,q,na,ca,nb,cb,nc,cc,a1,a2,a3,a4,a5,a6⟩:=h4 j hj
 exact ⟨A,B,C,p,q,na,ca,nb,cb,nc,cc,a1,a2,a3,a4,a5,fun hV=>(a6 hV).ext he⟩
theorem QBlk.below {W W':World} {g n:Nat} {V:Nat -> Prop} {f:Nat -> Cx} (h:QBlk W g n V f) (hb:Below W.heap.size W W'):QBlk W' g n V f:=h.ext (Ext.of_below hb) (hb.block _ h.lt)
theorem QBlk.odd {W:World} {g n:Nat} {V:Nat -> Prop} {f:Nat -> Cx} (h:QBlk W g n V f):∃ cs,W.heap[g]? = some (.cells cs 42 (0,0)) /\ cs.size = 5 * n /\ oddB cs = true:=by
 obtain ⟨cs,h1,h2,h3,h4⟩:=h
 refine ⟨cs,h1,h2,?_⟩
 unfold oddB
 rw [List.all_eq_true]
 intro v hv
 obtain ⟨i,hi,rfl⟩:=List.getElem_of_mem hv
 have hi':i < 5 * n:=by simpa [h2] using hi
 obtain ⟨A,B,C,p,q,na,ca,nb,cb,nc,cc,a1,a2,a3,a4,a5,-⟩:=h4 (i / 5) oM
 have hget:∀ k u,cs[k]? = some u -> i = k -> cs.toList[i] = u:=fun k u hu hk=>by
  subst hk
  obtain ⟨hlt,hu⟩:=Array.getElem?_eq_some_iff.1 hu
  simpa using hu
 have hm:i % 5 = 0 ∨ i % 5 = 1 ∨ i % 5 = 2 ∨ i % 5 = 3 ∨ i % 5 = 4:=oM
 rcases hm with hm | hm | hm | hm | hm
 ·rw [hget _ _ a1 oM]
 ·rw [hget _ _ a2 oM]
 ·rw [hget _ _ a3 oM]
 ·rw [hget _ _ a4 oM]
 ·rw [hget _ _ a5 oM]
theorem QBlk.but {W W':World} {g n:Nat} {V:Nat -> Prop} {f:Nat -> Cx} (h:QBlk W g n V f) {g':Nat} (hb:But W W' g') (he:Ext W W') (hg:g ≠ g'):QBlk W' g n V f:=h.ext he (hb.other g hg)
theorem wp_load_qe {o:Oper} {a:Act} {w:World} {K:Act -> World -> Prop} {Q:Exit -> Act -> World -> Prop} {x:Operand} (ho:o.op = .load 42 x)
  {g n k:Nat} {V:Nat -> Prop} {f:Nat -> Cx} (hx:a.eval x = .pointer (some ⟨g,5 * k,none⟩)) (h:QBlk w g n V f) (hk:k < n) (hV:V k)
  (hK:∀ v,IsQ w v (f k) -> K (a.put o.dst v) w):o.wp Tryz.prog a w K Q:=by
 obtain ⟨cs,h1,h2,h3,h4⟩:=h
 obtain ⟨A,B,C,p,q,na,ca,nb,cb,nc,cc,a1,a2,a3,a4,a5,a6⟩:=h4 k hk
 have hl:=run_loadCells_list (P:=Tryz.prog) (w:=w) ⟨g,5 * k,none⟩ [.bool p,.slice A na ca,.bool q,.slice B nb cb,.slice C nc cc] (fun j v hv=>by
  have hadd:(⟨g,5 * k,none⟩:Addr).add j = ⟨g,5 * k + j,none⟩:=by unfold Addr.add; split <;> simp_all
  rw [hadd,cell_of_row w g _ cs _ (0,0) h1]
  match j,hv with
  | 0,hv=>simp at hv; rw [<- hv]; exact a1
  | 1,hv=>simp at hv; rw [<- hv]; exact a2
  | 2,hv=>simp at hv; rw [<- hv]; exact a3
  | 3,hv=>simp at hv; rw [<- hv]; exact a4
  | 4,hv=>simp at hv; rw [<- hv]; exact a5
  | j + 5,hv=>simp at hv)
 have hinfo:(Tryz.prog.info? 42).map (·.size) = some 5:=kR
 cases hq:Tryz.prog.info? 42 with
 | none=>rw [hq] at hinfo; cases hinfo
 | some i =>
  have hs:i.size = 5:=by rw [hq] at hinfo; simpa using hinfo
  have hagg:(isAgg 42).run Tryz.prog w = .ok true w:=by
   unfold isAgg
   rw [Sem.run_bind,run_underlying Tryz.underlying42 w]
   rfl
  have hlv:(loadVar 42 ⟨g,5 * k,none⟩).run Tryz.prog w = .ok (.agg #[.bool p,.slice A na ca,.bool q,.slice B nb cb,.slice C nc cc]) w:=by
   simp only [List.length_cons,List.length_nil] at hl
   simp [loadVar,Sem.run_bind,hagg,sizeOf,typeInfo,hq,hs,hl]
  unfold Oper.wp execOp
  simp only [ho,hx,Instr.loadAt,Instr.sureAddr,Sem.run_bind,Sem.run_pure,Result.andThen_ok,hlv]
  exact hK _ (a6 hV)
theorem wp_store_qe {o:Oper} {a:Act} {w:World} {K:Act -> World -> Prop} {Q:Exit -> Act -> World -> Prop} {x y:Operand} (ho:o.op = .store 42 x y)
  {g n k:Nat} {V:Nat -> Prop} {f:Nat -> Cx} (hx:a.eval x = .pointer (some ⟨g,5 * k,none⟩)) {v:Value} (hy:a.eval y = v) (h:QBlk w g n V f) (hk:k < n) {z:Cx} (hv:IsQ w v z)
  (hK:∀ w',But w w' g -> Ext w w' -> QBlk w' g n (fun j=>V j ∨ j = k) (upf f k z) -> K (a.put o.dst undef) w'):o.wp Tryz.prog a w K Q:=by
 obtain ⟨A,na,ca,p,B,nb,cb,q,C,nc,cc,ia,ib,id',rfl,-⟩:=hv.parts
 obtain ⟨cs0,hz,-,hodd⟩:=h.odd
 obtain ⟨cs,h1,h2,h3,h4⟩:=h
 rw [h1] at hz
 have he0:cs0 = cs:=by cases hz; rfl
 rw [he0] at hodd
 clear hz he0 cs0
 have hinfo:(Tryz.prog.info? 42).map (·.size) = some 5:=kR
 have hst:=run_storeCells_at (P:=Tryz.prog) g (5 * k) _ [.bool p,.slice A na ca,.bool q,.slice B nb cb,.slice C nc cc] 0 cs w h1 sO (by simp [Value.oneCell'])
 obtain ⟨cs',hcs⟩:∃ cs':Array Value,cs' = (cs.toList.take (5 * k + 0) ++ [Value.bool p,.slice A na ca,.bool q,.slice B nb cb,.slice C nc cc] ++ cs.toList.drop (5 * k + 0 + [Value.bool p,.slice A na ca,.bool q,.slice B nb cb,.slice C nc cc].length)).toArray:=⟨_,rfl⟩
 rw [<- hcs] at hst
 have hbut:=But.setRow w g cs'
 have hext:=hbut.ext h1 hodd
 have hsz:cs'.size = 5 * n:=by rw [hcs]; simp; omega
 have hget:∀ i,cs'[i]? = if i < 5 * k then cs[i]? else if i < 5 * k + 5 then [Value.bool p,.slice A na ca,.bool q,.slice B nb cb,.slice C nc cc][i - 5 * k]? else cs[i]?:=fun i=>by
  rw [hcs]
  have hl:(cs.toList.take (5 * k)).length = 5 * k:=sO
  simp only [List.getElem?_toArray,Nat.add_zero]
  by_cases c1:i < 5 * k
  ·rw [if_pos c1,List.append_assoc,List.getElem?_append_left (by rw [hl]; exact c1),List.getElem?_take_of_lt c1]
   simp
  ·rw [if_neg c1]
   by_cases c2:i < 5 * k + 5
   ·rw [if_pos c2,List.append_assoc,List.getElem?_append_right (by rw [hl]; omega),hl,List.getElem?_append_left sO]
   ·rw [if_neg c2,List.getElem?_append_right (by simp [hl]; omega)]
    simp only [List.length_append,hl,List.length_cons,List.length_nil,List.getElem?_drop]
    rw [show 5 * k + (0 + 1 + 1 + 1 + 1 + 1) + (i - (5 * k + (0 + 1 + 1 + 1 + 1 + 1))) = i by omega]
    simp
 have hnew:QBlk (w.setRow g cs') g n (fun j=>V j ∨ j = k) (upf f k z):=by
  refine ⟨cs',setRow_heap w g cs cs' _ _ h1,hsz,?_,fun j hj=>?_⟩
  ·rw [Array.all_eq_true]
   intro i hi
   have:=hget i
   rw [Array.getElem?_eq_getElem hi] at this
   split at this
   ·have hlt:i < cs.size:=oM
    rw [Array.getElem?_eq_getElem hlt] at this
    rw [Option.some.inj this]
    exact (Array.all_eq_true.1 h3) i hlt
   ·split at this
    ·rename_i c1 c2
     have hmm:i - 5 * k = 0 ∨ i - 5 * k = 1 ∨ i - 5 * k = 2 ∨ i - 5 * k = 3 ∨ i - 5 * k = 4:=oM
     rcases hmm with e | e | e | e | e <;> (rw [e] at this; simp at this; rw [this]; rfl)
    ·have hlt:i < cs.size:=oM
     rw [Array.getElem?_eq_getElem hlt] at this
     rw [Option.some.inj this]
     exact (Array.all_eq_true.1 h3) i hlt
  ·by_cases hjk:j = k
   ·subst hjk
    rw [upf_same]
    refine ⟨A,B,C,p,q,na,ca,nb,cb,nc,cc,?_,?_,?_,?_,?_,fun _=>hv.ext hext⟩
    all_goals
     rw [hget,if_neg oM,if_pos oM]
     simp [show ∀ m,5 * j + m - 5 * j = m from fun m=>oM]
   ·rw [upf_other _ _ hjk]
    obtain ⟨A',B',C',p',q',na',ca',nb',cb',nc',cc',a1,a2,a3,a4,a5,a6⟩:=h4 j hj
    have hsame:∀ m,m < 5 -> cs'[5 * j + m]? = cs[5 * j + m]?:=fun m hm=>by
     rw [hget]
     by_cases c1:5 * j + m < 5 * k
     ·rw [if_pos c1]
     ·rw [if_neg c1,if_neg oM]
    exact ⟨A',B',C',p',q',na',ca',nb',cb',nc',cc',(hsame 0 oM).trans a1,(hsame 1 oM).trans a2,(hsame 2 oM).trans a3,(hsame 3 oM).trans a4,(hsame 4 oM).trans a5,fun hV=>(a6 (hV.resolve_right hjk)).ext hext⟩
 have hsv:(storeVar 42 ⟨g,5 * k,none⟩ (.agg #[.bool p,.slice A na ca,.bool q,.slice B nb cb,.slice C nc cc])).run Tryz.prog w = .ok () (w.setRow g cs'):=by
  cases hq:Tryz.prog.info? 42 with
  | none=>rw [hq] at hinfo; cases hinfo
  | some i =>
   have hs:i.size = 5:=by rw [hq] at hinfo; simpa using hinfo
   simp [storeVar,sizeOf,typeInfo,hq,Value.cells,hs,hst]
 unfold Oper.wp execOp
 simp only [ho,hx,hy,Instr.storeAt,Instr.sureAddr,Sem.run_bind,Sem.run_pure,Result.andThen_ok,hsv]
 exact hK _ hbut hext hnew
def MatQ (W:World) (go:Nat) (gi:Nat -> Nat) (n m:Nat) (F:Nat -> Nat -> Cx):Prop:=∃ cs:Array Value,W.heap[go]? = some (.cells cs 50 (0,0)) /\ cs.size = n /\
 (∀ i,i < n -> cs[i]? = some (.slice (some ⟨gi i,0,none⟩) m m)) /\ ∀ i,i < n -> QBlk W (gi i) m (fun _=>True) (F i)
section
variable {W W':World} {go:Nat} {gi:Nat -> Nat} {n m:Nat} {F F':Nat -> Nat -> Cx}
theorem MatQ.lt (h:MatQ W go gi n m F):go < W.heap.size:=by
 obtain ⟨cs,h,-⟩:=h
 exact heap_ge_none h
theorem MatQ.row (h:MatQ W go gi n m F) {i:Nat} (hi:i < n):QBlk W (gi i) m (fun _=>True) (F i):=by
 obtain ⟨cs,-,-,-,h⟩:=h
 exact h i hi
theorem MatQ.cell (h:MatQ W go gi n m F) {i:Nat} (hi:i < n):W.cell? ⟨go,i,none⟩ = some (.slice (some ⟨gi i,0,none⟩) m m):=by
 obtain ⟨cs,h1,h2,h3,-⟩:=h
 rw [cell_of_row W go i cs _ (0,0) h1]
 exact h3 i hi
theorem MatQ.below (h:MatQ W go gi n m F) (hb:Below W.heap.size W W'):MatQ W' go gi n m F:=by
 have hlt:=h.lt
 obtain ⟨cs,h1,h2,h3,h4⟩:=h
 exact ⟨cs,(hb.block _ hlt).trans h1,h2,h3,fun i hi=>(h4 i hi).below hb⟩
end
structure PMatQ (B:Nat) (W:World) (go:Nat) (gi:Nat -> Nat) (n m k:Nat) (F:Nat -> Nat -> Cx):Prop where
 sep:MatSep B go gi k
 kn:k <= n
 cells:∃ cs:Array Value,W.heap[go]? = some (.cells cs 50 (0,0)) /\ cs.size = n /\ (∀ i,i < k -> cs[i]? = some (.slice (some ⟨gi i,0,none⟩) m m)) /\ (∀ i,k <= i -> i < n -> cs[i]? = some (.slice none 0 0))
 rows:∀ i,i < k -> QBlk W (gi i) m (fun _=>True) (F i)
section
variable {B:Nat} {W W':World} {go:Nat} {gi:Nat -> Nat} {n m k:Nat} {F F':Nat -> Nat -> Cx}
theorem info_q:∃ i,Tryz.prog.info? 42 = some i /\ i.zero = some (.agg zQ) /\ i.size = 5 /\ i.bytes <= 200:=by
 have h:(Tryz.prog.info? 42).map (fun i=>(i.zero,i.size,decide (i.bytes <= 200))) = some (some (.agg zQ),5,true):=kR
 cases hq:Tryz.prog.info? 42 with
 | none=>rw [hq] at h; cases h
 | some i =>
  rw [hq] at h
  simp only [Option.map_some,Option.some.injEq,Prod.mk.injEq,decide_eq_true_eq] at h
  exact ⟨i,rfl,h.1,h.2.1,h.2.2⟩
theorem info_rowq:∃ i,Tryz.prog.info? 50 = some i /\ i.zero = some (.slice none 0 0) /\ i.size = 1 /\ i.bytes <= 200:=by
 have h:(Tryz.prog.info? 50).map (fun i=>(i.zero,i.size,decide (i.bytes <= 200))) = some (some (.slice none 0 0),1,true):=kR
 cases hq:Tryz.prog.info? 50 with
 | none=>rw [hq] at h; cases h
 | some i =>
  rw [hq] at h
  simp only [Option.map_some,Option.some.injEq,Prod.mk.injEq,decide_eq_true_eq] at h
  exact ⟨i,rfl,h.1,h.2.1,h.2.2⟩
theorem make_rowq (n:Nat) (hn:n <= 1099511627776) (w:World):∃ w',(Instr.makeSlice 50 (.int .i64 (n:Int)) (.int .i64 (n:Int))).run Tryz.prog w = .ok (.slice (some ⟨w.heap.size,0,none⟩) n n) w' /\
  Below w.heap.size w w' /\ w'.heap.size = w.heap.size + 1 /\ QBlk w' w.heap.size n (fun _=>False) (fun _=>.zero):=by
 obtain ⟨i,hi,hz,hs,hbt⟩:=info_q
 have h:=run_make (P:=Tryz.prog) w 50 42 i (.agg zQ) Tryz.underlying50 hi hz .i64 .i64 n n oM oM (by
  have:i.bytes * n <= 200 * 1099511627776:=Nat.mul_le_mul hbt hn
  have e:((i.bytes:Int) * (n:Int)) = ((i.bytes * n:Nat):Int):=sP
  rw [e]; omega) oM
 simp only [Int.toNat_natCast,hs] at h
 refine ⟨_,h,rfB.alloc lR _,sP,madeCells zQ (n * 5),?_,by rw [size_madeCells]; omega,?_,fun j hj=>?_⟩
 ·show (w.heap.push _)[w.heap.size]? = _
  simp [Value.cells]
 ·rw [Array.all_eq_true]
  intro k hk
  have h5:k % 5 = 0 ∨ k % 5 = 1 ∨ k % 5 = 2 ∨ k % 5 = 3 ∨ k % 5 = 4:=oM
  have e:(madeCells zQ (n * 5))[k] = zQ[k % 5]!:=by simp [madeCells,zQ]
  rw [e]
  rcases h5 with h5 | h5 | h5 | h5 | h5 <;> (rw [h5]; rfl)
 ·have hget:∀ r,r < 5 -> (madeCells zQ (n * 5))[5 * j + r]? = some (zQ[r]!):=fun r hr=>by
   have h1:5 * j + r < n * 5:=oM
   have h2:(5 * j + r) % 5 = r:=oM
   simp [madeCells,h1,zQ,h2]
  exact ⟨none,none,none,false,false,0,0,0,0,0,0,hget 0 oM,hget 1 oM,hget 2 oM,hget 3 oM,hget 4 oM,fun hV=>hV.elim⟩
theorem make_matq (n m:Nat) (hn:n <= 1099511627776) (w:World) (F:Nat -> Nat -> Cx) (gi:Nat -> Nat):∃ w',(Instr.makeSlice 28 (.int .i64 (n:Int)) (.int .i64 (n:Int))).run Tryz.prog w = .ok (.slice (some ⟨w.heap.size,0,none⟩) n n) w' /\
  Below w.heap.size w w' /\ w'.heap.size = w.heap.size + 1 /\ PMatQ w.heap.size w' w.heap.size gi n m 0 F:=by
 obtain ⟨i,hi,hz,hs,hbt⟩:=info_rowq
 have h:=run_make (P:=Tryz.prog) w 28 50 i (.slice none 0 0) Tryz.underlying28 hi hz .i64 .i64 n n oM oM (by
  have:i.bytes * n <= 200 * 1099511627776:=Nat.mul_le_mul hbt hn
  have e:((i.bytes:Int) * (n:Int)) = ((i.bytes * n:Nat):Int):=sP
  rw [e]; omega) oM
 simp only [Int.toNat_natCast,hs,Nat.mul_one] at h
 refine ⟨_,h,rfB.alloc lR _,sP,⟨Nat.le_refl _,fun i hi=>absurd hi oM,fun i hi=>absurd hi oM,fun i j hi=>absurd hi oM⟩,oM,⟨madeCells (Value.slice none 0 0).cells n,?_,size_madeCells _ _,fun i hi=>absurd hi oM,fun i _ hi=>?_⟩,fun i hi=>absurd hi oM⟩
 ·show (w.heap.push _)[w.heap.size]? = _
  simp
 ·simp [madeCells,hi,Value.cells,Nat.mod_one]
end
theorem RetQ.alloc {w W:World} {x:Cx} {e:Ending} (h:RetQ w x e W) (o:Obj):RetQ w x e (W.alloc o):=by
 obtain ⟨v,h1,h2,h3⟩:=h
 exact ⟨v,h1,h2.below (below_alloc W o),bT h3 (below_alloc W o)⟩
theorem rOf_any (p q r:Int) (w:World) (hp:-9223372036854775808 <= p) (hp':p < 9223372036854775808) (hq:-9223372036854775808 <= q) (hq':q < 9223372036854775808) (hr:-9223372036854775808 <= r) (hr':r < 9223372036854775808) :
  Calls Tryz.prog 59 #[.agg #[.int .i64 p,.int .i64 q,.int .i64 r]] w (RetQ w (ofR p q r)):=by
 by_cases h0:r = 0
 ·subst h0
  have HN:=hid (fun W=>rNew_any p q 1 W hp hp' hq hq' oM oM oM)
  have hx:ofR p q 0 = .ratio p q 1:=rfl
  rw [hx]
  clear hp hp' hq hq' hr hr' hx
  go_enter Tryz.func59,Tryz.ntmps59
  go_wp2_with fail
  refine (HN.out _).mono ?_
  rintro e W7 ⟨v,rfl,hr7,hb7⟩
  obtain ⟨A1,n1,c1,p1,A2,n2,c2,p2,A3,n3,c3,a,b,d,rfl,-⟩:=hr7.parts
  obtain ⟨hc7,hf7,hz7⟩:=bcells hb7 (w.heap.size + 2) sP
  have lt0:w.heap.size < W7.heap.size:=oM
  have lt1:w.heap.size + 1 < W7.heap.size:=oM
  go_wp2
  have B7:Below w.heap.size w W7:=bel
  have NB:NumBox W7 (w.heap.size + 1):=NumBox.of hc7 (g:=w.heap.size + 1) oM (.nilQ sG sG sG sG sG)
  refine bodyPost_ret (v:=.agg #[.bool p1,.slice A1 n1 c1,.bool p2,.slice A2 n2 c2,.slice A3 n3 c3]) (by simp [results,Tryz.results59]; exact run_loadQa NB lt1 _ _ _ _ _ _ _) rfl ?_
  exact (RetQ.box B7 oM NB hr7 _ _ _ _ _).alloc _
 ·have HN:=hid (fun W=>rNew_any p q r W hp hp' hq hq' hr hr' h0)
  have hx:ofR p q r = .ratio p q r:=by unfold ofR; rw [if_neg h0]
  rw [hx]
  have hb0:(r == 0) = false:=by simpa using h0
  clear hp hp' hq hq' hr hr' hx h0
  go_enter Tryz.func59,Tryz.ntmps59
  go_wp2_with fail
  refine (HN.out _).mono ?_
  rintro e W7 ⟨v,rfl,hr7,hb7⟩
  obtain ⟨A1,n1,c1,p1,A2,n2,c2,p2,A3,n3,c3,a,b,d,rfl,-⟩:=hr7.parts
  obtain ⟨hc7,hf7,hz7⟩:=bcells hb7 (w.heap.size + 2) sP
  have lt0:w.heap.size < W7.heap.size:=oM
  have lt1:w.heap.size + 1 < W7.heap.size:=oM
  go_wp2
  have B7:Below w.heap.size w W7:=bel
  have NB:NumBox W7 (w.heap.size + 1):=NumBox.of hc7 (g:=w.heap.size + 1) oM (.nilQ sG sG sG sG sG)
  refine bodyPost_ret (v:=.agg #[.bool p1,.slice A1 n1 c1,.bool p2,.slice A2 n2 c2,.slice A3 n3 c3]) (by simp [results,Tryz.results59]; exact run_loadQa NB lt1 _ _ _ _ _ _ _) rfl ?_
  exact (RetQ.box B7 oM NB hr7 _ _ _ _ _).alloc _
theorem QBlk.to {W:World} {g n:Nat} {V V':Nat -> Prop} {f f':Nat -> Cx} (h:QBlk W g n V f) (hV:∀ j,j < n -> V' j -> V j /\ f j = f' j):QBlk W g n V' f':=by
 obtain ⟨cs,h1,h2,h3,h4⟩:=h
 refine ⟨cs,h1,h2,h3,fun j hj=>?_⟩
 obtain ⟨A,B,C,p,q,na,ca,nb,cb,nc,cc,a1,a2,a3,a4,a5,a6⟩:=h4 j hj
 exact ⟨A,B,C,p,q,na,ca,nb,cb,nc,cc,a1,a2,a3,a4,a5,fun hv=>by
  obtain ⟨v1,v2⟩:=hV j hj hv
  rw [<- v2]; exact a6 v1⟩
def zRat:Array Value:=#[.int .i64 0,.int .i64 0,.int .i64 0]
theorem alloc_rat:AllocOk Tryz.prog 76 zRat:=fun W=>by
 simp [go_sem,zRat]
theorem store_ratIs (r s t:Int):StoreOk Tryz.prog 76 zRat (kIs (.agg #[.int .i64 r,.int .i64 s,.int .i64 t])):=⟨kR,fun v W h=>⟨_,h,rfl,by simp [Value.oneCell']⟩⟩
theorem held_boxR {kl:List RK} {B:Nat} {ts:Nat -> Value} {W:World} {b c k:Nat} {cs:Array Value} (h:Held kl B ts (fun _=>true) W b) (hb:rk kl b = .box 76 zRat) (h':Held kl B ts (fun _=>true) W k) (hk:rk kl k = .put b c)
  (h2:Held kl B ts (fun _=>true) W c) (hc:rk kl c = .val (kIs (.agg cs))):∃ g,ts b = .pointer (some ⟨g,0,none⟩) /\ B <= g /\ g < W.heap.size /\ W.heap[g]? = some (.cells cs 76 (0,0)):=by
 have hx:=held_is h2 hc
 unfold Held at h h'
 rw [hb] at h
 rw [hk] at h'
 simp only at h h'
 obtain ⟨g,h1,h3,h4,-⟩:=h
 obtain ⟨g',cs',T,z,e1,e2,e3,e4⟩:=h'
 rw [h1] at e1
 injection e1 with e1
 injection e1 with e1
 injection e1 with e1
 subst e1
 rw [hx] at e2
 injection e2 with e2
 subst e2
 rw [hb] at e3
 injection e3 with e3 _
 subst e3
 exact ⟨g,h1,h3,h4,e4⟩
def uptoL (F:Nat -> Cx) (i:Nat):Nat -> Cx:=fun j=>if j < i then F j else .zero
theorem uptoL_next (F:Nat -> Cx) (i:Nat):upf (uptoL F i) i (F i) = uptoL F (i + 1):=by
 funext j
 unfold upf uptoL
 by_cases h:j = i
 ·rw [if_pos h,if_pos oM,h]
 ·rw [if_neg h]
  by_cases h2:j < i
  ·rw [if_pos h2,if_pos oM]
  ·rw [if_neg h2,if_neg oM]
def ratF (f:Nat -> Int × Int × Int):Nat -> Cx:=fun j=>ofR (f j).1 (f j).2.1 (f j).2.2
theorem make_q' (n:Nat) (hn:n <= 1099511627776) (w:World):∃ w',(Instr.makeSlice 50 (.int .i64 (n:Int)) (.int .i64 (n:Int))).run Tryz.prog w = .ok (.slice (some ⟨w.heap.size,0,none⟩) n n) w' /\
  Below w.heap.size w w' /\ w'.heap.size = w.heap.size + 1 /\ QBlk w' w.heap.size n (fun _=>False) (fun _=>.zero):=make_rowq n hn w
theorem list_any (w:World) (A:Option Addr) (len cap:Nat) (f:Nat -> Int × Int × Int) (hR:RatS w A len f) (h64:Rat64 f) (hl:len <= 1099511627776) (hT:Tab w) :
  Calls Tryz.prog 14 #[.slice A len cap] w fun e w'=>e = .returned (.slice (some ⟨w.heap.size,0,none⟩) len len) /\ NBlk w' w.heap.size len (ratF f) /\ Below w.heap.size w w':=by
 obtain ⟨W1,hr1,hb1,hs1,hN1⟩:=make_row len hl w
 have HR0:=hid hR
 have HOF:=hid (fun W (hb:Below w.heap.size w W) j=>of_any (f j).1 (f j).2.1 (f j).2.2 W (h64 j).1.1 (h64 j).1.2 (h64 j).2.1.1 (h64 j).2.1.2 (h64 j).2.2.1 (h64 j).2.2.2 (hT.below hb))
 have HN:=hid (hN1.congr (f':=uptoL (ratF f) 0) fun j _=>by unfold uptoL; rw [if_neg oM])
 have HB:=hid hb1
 clear hR h64 hN1 hb1 hT
 go_enter Tryz.func14,Tryz.ntmps14
 go_wp2
 clear hr1
 go_loopw [11] (fun iv wr=>∃ i:Nat,iv = .int .i64 (i:Int) /\ i <= len /\ Below w.heap.size w wr /\ NBlk wr w.heap.size len (uptoL (ratF f) i)) (fun iv _=>len - (intOf iv).toNat)
 case atStart=>exact ⟨0,rfl,oM,HB.out,HN.out⟩
 case round =>
  clear HB HN
  obtain ⟨i,rfl,hi,hB,hN⟩:=hrel
  have KB:=hid hB
  have HN:=hid hN
  clear hB hN
  by_cases hlt:i < len
  ·obtain ⟨b,off,rfl,-,-⟩:=HR0.out oM
   have HR:=hid (HR0.out.below KB.out)
   have hd:decide ((i:Int) < (len:Int)) = true:=sO
   have hi0:(0:Int) <= (i:Int):=oM
   have hi1:(i:Int) < (len:Int):=oM
   go_upto_region 4 with fail
   refine region_lin [.val (kIs (.int .i64 (i:Int))),.val (kIs (.pointer (some ⟨b,off + 3 * i,none⟩))),.val (kIs (.agg #[.int .i64 (f i).1,.int .i64 (f i).2.1,.int .i64 (f i).2.2])),.box 76 zRat,.val (kIs (.int .i64 (i:Int))),.put 3 2]
    kR kR kR kR kR ⟨stab_is _,stab_is _,stab_is _,stab_is _,trivial⟩ sP ⟨?_,?_,?_,alloc_rat,?_,store_ratIs _ _ _,trivial⟩ ?_
   ·exact obp
   ·intro ts W hb hB hp K hK; simp only [fillT,zA,Nat.reduceAdd,sA,sB,sC] at hK ⊢; have HK:=hid hK; clear hK hp; refine ⟨?_⟩; go_simp; exact HK.out _ _ (by simp [kIs,Nat.mul_comm]) rfB
   ·intro ts W hb hB hp; have h1:ts 1 = _:=hp 1 kR; intro K hK; simp only [fillT,zA,Nat.reduceAdd,sA,sB,sC,h1] at hK ⊢; have HK:=hid hK; clear hK hp; obtain ⟨q0,q1,q2⟩:=(HR.out.below hb).cells hlt; refine ⟨?_⟩; refine wp_load_rat rfl rfl q0 q1 q2 ?_; exact HK.out _ _ rfl rfB
   ·intro ts W hb hB hp; have h0:ts 0 = _:=hp 0 kR; intro K hK; simp only [fillT,zA,Nat.reduceAdd,sA,sB,sC,h0] at hK ⊢; have HK:=hid hK; clear hK hp; refine ⟨?_⟩; go_simp; exact HK.out _ _ rfl rfB
   intro ts W2 hb2 hh hap
   obtain ⟨g5,e5,lo5,z5,X5⟩:=held_boxR (cs:=#[.int .i64 (f i).1,.int .i64 (f i).2.1,.int .i64 (f i).2.2]) (hh 3 sP) rfl (hh 5 sP) rfl (hh 2 sP) rfl
   have e4:=held_is (hh 4 sP) rfl
   simp only [fillT,zA,Nat.reduceAdd,sA,sB,sC,e5,e4]
   clear hh hap e5 e4
   generalize ts 0 = u0_W2 at *
   generalize ts 1 = u1_W2 at *
   generalize ts 2 = u2_W2 at *
   clear ts
   have HN2:=hid (HN.out.below hb2)
   have KB2:=hid (bT KB.out hb2)
   clear hb2 HN HR KB
   go_upto_region 5 with fail
   refine region_last [.val (kIs (.slice (some ⟨w.heap.size,0,none⟩) len len)),.val (kIs (.int .i64 (i:Int))),.val (kIs (.agg #[.int .i64 (f i).1,.int .i64 (f i).2.1,.int .i64 (f i).2.2])),.val (kNum (ratF f i)),.val (kIs (.pointer (some ⟨w.heap.size,5 * i,none⟩)))]
    kR kR kR kR kR ⟨Stab.b (stab_is _),Stab.b (stab_is _),Stab.b (stab_is _),Stab.b (stab_num _),Stab.b (stab_is _),trivial⟩ sP (ol:=_) rfl kR ⟨?_,?_,?_,?_,?_,trivial⟩ ?_
   ·exact obp
   ·exact obp
   ·intro ts W hb hB hp K hK; simp only [fillT,zA,Nat.reduceAdd,sA,sB,sC] at hK ⊢; refine ⟨?_⟩; refine wp_load_row _ _ rfl (g5) rfl _ _ (0,0) _ ((hb.block _ (z5)).trans X5) Tryz.underlying76 rfl kR ?_; exact hK _ _ rfl rfB
   ·intro ts W hb hB hp; have h2:ts 2 = _:=hp 2 kR; intro K hK; simp only [fillT,zA,Nat.reduceAdd,sA,sB,sC,h2] at hK ⊢; have HK:=hid hK; clear hK hp; refine ⟨?_⟩; go_simp; refine (HOF.out W (bT KB2.out hb) i).mono ?_; rintro e W9 ⟨r9,rfl,hr9,hb9⟩; exact HK.out _ _ hr9 hb9
   ·intro ts W hb hB hp; have h0:ts 0 = _:=hp 0 kR; have h1:ts 1 = _:=hp 1 kR; intro K hK; simp only [fillT,zA,Nat.reduceAdd,sA,sB,sC,h0,h1] at hK ⊢; have HK:=hid hK; clear hK hp; refine ⟨?_⟩; go_simp; exact HK.out _ _ (by simp [kIs,Nat.mul_comm]) rfB
   intro ts W3 hb3 hh hap K hK
   have h3:=held_num (hh 3 sP) rfl
   have e4:=held_is (hh 4 sP) rfl
   have HK:=hid hK
   clear hK hh hap
   simp only [fillT,zA,Nat.reduceAdd,sA,sB,sC,e4]
   refine ⟨?_⟩
   refine wp_store_elem rfl (k:=i) rfl rfl (HN2.out.below hb3) hlt h3 (fun W4 hbut hext hrow=>HK.out _ _ ?_)
   clear e4 h3
   rw [uptoL_next] at hrow
   have M4:=hid hrow
   have B4:=hid (hbut.below (bT KB2.out hb3) lR)
   clear hbut hext hrow hb3 HN2 KB2
   go_wp2
   go_roundw
   case rel=>exact ⟨i + 1,by go_num,oM,B4.out,M4.out⟩
   case measure=>exact mS
  ·obtain rfl:i = len:=oM
   have HN2:=hid (HN.out.congr (f':=ratF f) fun j hj=>by unfold uptoL; rw [if_pos hj])
   go_wp2
   go_ret
   exact ⟨rfl,HN2.out,KB.out⟩
theorem reflist_any (w:World) (A:Option Addr) (len cap:Nat) (f:Nat -> Int × Int × Int) (hR:RatS w A len f) (h64:Rat64 f) (hl:len <= 1099511627776) :
  Calls Tryz.prog 16 #[.slice A len cap] w fun e w'=>e = .returned (.slice (some ⟨w.heap.size,0,none⟩) len len) /\ QBlk w' w.heap.size len (fun _=>True) (ratF f) /\ Below w.heap.size w w':=by
 obtain ⟨W1,hr1,hb1,hs1,hN1⟩:=make_q' len hl w
 have HR0:=hid hR
 have HOF:=hid (fun W (hb:Below w.heap.size w W) j=>rOf_any (f j).1 (f j).2.1 (f j).2.2 W (h64 j).1.1 (h64 j).1.2 (h64 j).2.1.1 (h64 j).2.1.2 (h64 j).2.2.1 (h64 j).2.2.2)
 have HN:=hid (hN1.to (V':=fun j=>j < 0) (f':=ratF f) fun j _ h=>absurd h oM)
 have HB:=hid hb1
 clear hR h64 hN1 hb1
 go_enter Tryz.func16,Tryz.ntmps16
 go_wp2
 clear hr1
 go_loopw [11] (fun iv wr=>∃ i:Nat,iv = .int .i64 (i:Int) /\ i <= len /\ Below w.heap.size w wr /\ QBlk wr w.heap.size len (fun j=>j < i) (ratF f)) (fun iv _=>len - (intOf iv).toNat)
 case atStart=>exact ⟨0,rfl,oM,HB.out,HN.out⟩
 case round =>
  clear HB HN
  obtain ⟨i,rfl,hi,hB,hN⟩:=hrel
  have KB:=hid hB
  have HN:=hid hN
  clear hB hN
  by_cases hlt:i < len
  ·obtain ⟨b,off,rfl,-,-⟩:=HR0.out oM
   have HR:=hid (HR0.out.below KB.out)
   have hd:decide ((i:Int) < (len:Int)) = true:=sO
   have hi0:(0:Int) <= (i:Int):=oM
   have hi1:(i:Int) < (len:Int):=oM
   go_upto_region 4 with fail
   refine region_lin [.val (kIs (.int .i64 (i:Int))),.val (kIs (.pointer (some ⟨b,off + 3 * i,none⟩))),.val (kIs (.agg #[.int .i64 (f i).1,.int .i64 (f i).2.1,.int .i64 (f i).2.2])),.box 76 zRat,.val (kIs (.int .i64 (i:Int))),.put 3 2]
    kR kR kR kR kR ⟨stab_is _,stab_is _,stab_is _,stab_is _,trivial⟩ sP ⟨?_,?_,?_,alloc_rat,?_,store_ratIs _ _ _,trivial⟩ ?_
   ·exact obp
   ·intro ts W hb hB hp K hK; simp only [fillT,zA,Nat.reduceAdd,sA,sB,sC] at hK ⊢; have HK:=hid hK; clear hK hp; refine ⟨?_⟩; go_simp; exact HK.out _ _ (by simp [kIs,Nat.mul_comm]) rfB
   ·intro ts W hb hB hp; have h1:ts 1 = _:=hp 1 kR; intro K hK; simp only [fillT,zA,Nat.reduceAdd,sA,sB,sC,h1] at hK ⊢; have HK:=hid hK; clear hK hp; obtain ⟨q0,q1,q2⟩:=(HR.out.below hb).cells hlt; refine ⟨?_⟩; refine wp_load_rat rfl rfl q0 q1 q2 ?_; exact HK.out _ _ rfl rfB
   ·intro ts W hb hB hp; have h0:ts 0 = _:=hp 0 kR; intro K hK; simp only [fillT,zA,Nat.reduceAdd,sA,sB,sC,h0] at hK ⊢; have HK:=hid hK; clear hK hp; refine ⟨?_⟩; go_simp; exact HK.out _ _ rfl rfB
   intro ts W2 hb2 hh hap
   obtain ⟨g5,e5,lo5,z5,X5⟩:=held_boxR (cs:=#[.int .i64 (f i).1,.int .i64 (f i).2.1,.int .i64 (f i).2.2]) (hh 3 sP) rfl (hh 5 sP) rfl (hh 2 sP) rfl
   have e4:=held_is (hh 4 sP) rfl
   simp only [fillT,zA,Nat.reduceAdd,sA,sB,sC,e5,e4]
   clear hh hap e5 e4
   generalize ts 0 = u0_W2 at *
   generalize ts 1 = u1_W2 at *
   generalize ts 2 = u2_W2 at *
   clear ts
   have HN2:=hid (HN.out.below hb2)
   have KB2:=hid (bT KB.out hb2)
   clear hb2 HN HR KB
   go_upto_region 5 with fail
   refine region_last [.val (kIs (.slice (some ⟨w.heap.size,0,none⟩) len len)),.val (kIs (.int .i64 (i:Int))),.val (kIs (.agg #[.int .i64 (f i).1,.int .i64 (f i).2.1,.int .i64 (f i).2.2])),.val (kQ (ratF f i)),.val (kIs (.pointer (some ⟨w.heap.size,5 * i,none⟩)))]
    kR kR kR kR kR ⟨Stab.b (stab_is _),Stab.b (stab_is _),Stab.b (stab_is _),Stab.b (stab_q _),Stab.b (stab_is _),trivial⟩ sP (ol:=_) rfl kR ⟨?_,?_,?_,?_,?_,trivial⟩ ?_
   ·exact obp
   ·exact obp
   ·intro ts W hb hB hp K hK; simp only [fillT,zA,Nat.reduceAdd,sA,sB,sC] at hK ⊢; refine ⟨?_⟩; refine wp_load_row _ _ rfl (g5) rfl _ _ (0,0) _ ((hb.block _ (z5)).trans X5) Tryz.underlying76 rfl kR ?_; exact hK _ _ rfl rfB
   ·intro ts W hb hB hp; have h2:ts 2 = _:=hp 2 kR; intro K hK; simp only [fillT,zA,Nat.reduceAdd,sA,sB,sC,h2] at hK ⊢; have HK:=hid hK; clear hK hp; refine ⟨?_⟩; go_simp; refine (HOF.out W (bT KB2.out hb) i).mono ?_; rintro e W9 ⟨r9,rfl,hr9,hb9⟩; exact HK.out _ _ hr9 hb9
   ·intro ts W hb hB hp; have h0:ts 0 = _:=hp 0 kR; have h1:ts 1 = _:=hp 1 kR; intro K hK; simp only [fillT,zA,Nat.reduceAdd,sA,sB,sC,h0,h1] at hK ⊢; have HK:=hid hK; clear hK hp; refine ⟨?_⟩; go_simp; exact HK.out _ _ (by simp [kIs,Nat.mul_comm]) rfB
   intro ts W3 hb3 hh hap K hK
   have h3:=held_q (hh 3 sP) rfl
   have e4:=held_is (hh 4 sP) rfl
   have HK:=hid hK
   clear hK hh hap
   simp only [fillT,zA,Nat.reduceAdd,sA,sB,sC,e4]
   refine ⟨?_⟩
   refine wp_store_qe rfl (k:=i) rfl rfl (HN2.out.below hb3) hlt h3 (fun W4 hbut hext hrow=>HK.out _ _ ?_)
   clear e4 h3
   have M4:=hid (hrow.to (V':=fun j=>j < i + 1) (f':=ratF f) fun j _ hj=>by
    by_cases h:j = i
    ·exact ⟨.inr h,by rw [h,upf_same]⟩
    ·exact ⟨.inl oM,upf_other _ _ h⟩)
   have B4:=hid (hbut.below (bT KB2.out hb3) lR)
   clear hbut hext hrow hb3 HN2 KB2
   go_wp2
   go_roundw
   case rel=>exact ⟨i + 1,by go_num,oM,B4.out,M4.out⟩
   case measure=>exact mS
  ·obtain rfl:i = len:=oM
   have HN2:=hid (HN.out.to (V':=fun _=>True) (f':=ratF f) fun j hj _=>⟨hj,rfl⟩)
   go_wp2
   go_ret
   exact ⟨rfl,HN2.out,KB.out⟩
def NSl (W:World) (v:Value) (n:Nat) (F:Nat -> Cx):Prop:=∃ A c,v = .slice A n c /\ (0 < n -> ∃ g,A = some ⟨g,0,none⟩ /\ NBlk W g n F)
def QSl (W:World) (v:Value) (n:Nat) (F:Nat -> Cx):Prop:=∃ A c,v = .slice A n c /\ (0 < n -> ∃ g,A = some ⟨g,0,none⟩ /\ QBlk W g n (fun _=>True) F)
end Go.Proofs.YtffegeaflohfhaaGreatDoor
