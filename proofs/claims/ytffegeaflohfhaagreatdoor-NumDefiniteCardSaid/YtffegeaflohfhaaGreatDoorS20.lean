import Derived.Laws.CopyOwn
import Derived.Laws.CopyRow
import Derived.Test.YtffegeaflohfhaaGreatDoorS13
import Derived.Test.YtffegeaflohfhaaGreatDoorS02
set_option linter.unusedVariables false
set_option linter.unusedSimpArgs false
set_option maxRecDepth 100000
set_option maxHeartbeats 8000000
namespace Go.Proofs.YtffegeaflohfhaaGreatDoor
open Go.RowKit
def NBlk (W:World) (g n:Nat) (f:Nat -> Cx):Prop:=∃ cs:Array Value,W.heap[g]? = some (.cells cs 35 (0,0)) /\ cs.size = 5 * n /\ cs.all (·.oneCell') = true /\
 ∀ j,j < n -> ∃ A B C p q na ca nb cb nc cc,cs[5 * j]? = some (.slice A na ca) /\ cs[5 * j + 1]? = some (.bool p) /\ cs[5 * j + 2]? = some (.slice B nb cb) /\ cs[5 * j + 3]? = some (.bool q) /\ cs[5 * j + 4]? = some (.slice C nc cc) /\
  IsNum W (.agg #[.slice A na ca,.bool p,.slice B nb cb,.bool q,.slice C nc cc]) (f j)
theorem NBlk.lt {W:World} {g n:Nat} {f:Nat -> Cx} (h:NBlk W g n f):g < W.heap.size:=by
 obtain ⟨cs,h,-⟩:=h
 exact heap_ge_none h
theorem NBlk.ext {W W':World} {g n:Nat} {f:Nat -> Cx} (h:NBlk W g n f) (he:Ext W W') (hg:W'.heap[g]? = W.heap[g]?):NBlk W' g n f:=by
 obtain ⟨cs,h1,h2,h3,h4⟩:=h
 refine ⟨cs,hg.trans h1,h2,h3,fun j hj=>?_⟩
 obtain ⟨A,B,C,p,q,na,ca,nb,cb,nc,cc,a1,a2,a3,a4,a5,a6⟩:=h4 j hj
 exact ⟨A,B,C,p,q,na,ca,nb,cb,nc,cc,a1,a2,a3,a4,a5,a6.ext he⟩
theorem NBlk.below {W W':World} {g n:Nat} {f:Nat -> Cx} (h:NBlk W g n f) (hb:Below W.heap.size W W'):NBlk W' g n f:=h.ext (Ext.of_below hb) (hb.block _ h.lt)
theorem NBlk.congr {W:World} {g n:Nat} {f f':Nat -> Cx} (h:NBlk W g n f) (he:∀ j,j < n -> f j = f' j):NBlk W g n f':=by
 obtain ⟨cs,h1,h2,h3,h4⟩:=h
 exact ⟨cs,h1,h2,h3,fun j hj=>by rw [<- he j hj]; exact h4 j hj⟩
theorem NBlk.odd {W:World} {g n:Nat} {f:Nat -> Cx} (h:NBlk W g n f):∃ cs,W.heap[g]? = some (.cells cs 35 (0,0)) /\ cs.size = 5 * n /\ oddB cs = true:=by
 obtain ⟨cs,h1,h2,h3,h4⟩:=h
 refine ⟨cs,h1,h2,?_⟩
 unfold oddB
 rw [List.all_eq_true]
 intro v hv
 obtain ⟨i,hi,rfl⟩:=List.getElem_of_mem hv
 have hi':i < 5 * n:=by simpa [h2] using hi
 obtain ⟨A,B,C,p,q,na,ca,nb,cb,nc,cc,a1,a2,a3,a4,a5,-⟩:=h4 (i / 5) oM
 have hget:∀ k u,cs[k]? = some u -> i = k -> cs.toList[i] = u:=fun k u hu hk=>by
  subst hk
  obtain ⟨hlt,hu⟩:=Array.getElem?_eq_some_iff.1 hu
  simpa using hu
 have hm:i % 5 = 0 ∨ i % 5 = 1 ∨ i % 5 = 2 ∨ i % 5 = 3 ∨ i % 5 = 4:=oM
 rcases hm with hm | hm | hm | hm | hm
 ·rw [hget _ _ a1 oM]
 ·rw [hget _ _ a2 oM]
 ·rw [hget _ _ a3 oM]
 ·rw [hget _ _ a4 oM]
 ·rw [hget _ _ a5 oM]
structure But (w w':World) (g:Nat):Prop where
 os:w'.os = w.os
 tape:w'.tape = w.tape
 output:w'.output = w.output
 size:w'.heap.size = w.heap.size
 other:∀ k,k ≠ g -> w'.heap[k]? = w.heap[k]?
theorem But.below {w0 w w':World} {B g:Nat} (h:But w w' g) (hb:Below B w0 w) (hg:B <= g):Below B w0 w' :=
 hb.trans ⟨h.os,h.tape,h.output,by rw [h.size]; exact Nat.le_refl _,fun k hk=>h.other k oM⟩
theorem But.setRow (w:World) (g:Nat) (cs:Array Value):But w (w.setRow g cs) g :=
 ⟨rfl,rfl,rfl,by simp [World.setRow],fun k hk=>by simp only [World.setRow,Array.getElem?_modify]; rw [if_neg (fun e=>hk e.symm)]⟩
theorem But.ext {w w':World} {g:Nat} {T:TypeId} {z:Array Value} (h:But w w' g) (hz:w.heap[g]? = some (.cells z T (0,0))) (ho:oddB z = true):Ext w w':=by
 refine ⟨by rw [h.size]; exact Nat.le_refl _,fun a n ha=>?_⟩
 by_cases hg:a.block = g
 ·exfalso
  unfold World.cell? at ha
  rw [hg,hz] at ha
  simp only at ha
  split at ha
  ·cases ha
  ·have h1:=List.all_eq_true.1 ho (.int .u32 n) (by
    obtain ⟨z⟩:=z
    simp at ha ⊢
    exact List.mem_of_getElem? ha)
   simp at h1
 ·rw [World.cell?_of_block (w:=w) (h.other _ hg)]
  exact ha
theorem NBlk.but {W W':World} {g n:Nat} {f:Nat -> Cx} (h:NBlk W g n f) {g':Nat} (hb:But W W' g') (he:Ext W W') (hg:g ≠ g'):NBlk W' g n f:=h.ext he (hb.other g hg)
def upf {α:Type} (f:Nat -> α) (i:Nat) (x:α):Nat -> α:=fun j=>if j = i then x else f j
theorem upf_same {α:Type} (f:Nat -> α) (i:Nat) (x:α):upf f i x i = x:=if_pos rfl
theorem upf_other {α:Type} (f:Nat -> α) {i j:Nat} (x:α) (h:j ≠ i):upf f i x j = f j:=if_neg h
theorem wp_load_elem {o:Oper} {a:Act} {w:World} {K:Act -> World -> Prop} {Q:Exit -> Act -> World -> Prop} {x:Operand} (ho:o.op = .load 35 x)
  {g n k:Nat} {f:Nat -> Cx} (hx:a.eval x = .pointer (some ⟨g,5 * k,none⟩)) (h:NBlk w g n f) (hk:k < n)
  (hK:∀ v,IsNum w v (f k) -> K (a.put o.dst v) w):o.wp Tryz.prog a w K Q:=by
 obtain ⟨cs,h1,h2,h3,h4⟩:=h
 obtain ⟨A,B,C,p,q,na,ca,nb,cb,nc,cc,a1,a2,a3,a4,a5,a6⟩:=h4 k hk
 have hl:=run_loadCells_list (P:=Tryz.prog) (w:=w) ⟨g,5 * k,none⟩ [.slice A na ca,.bool p,.slice B nb cb,.bool q,.slice C nc cc] (fun j v hv=>by
  have hadd:(⟨g,5 * k,none⟩:Addr).add j = ⟨g,5 * k + j,none⟩:=by unfold Addr.add; split <;> simp_all
  rw [hadd,cell_of_row w g _ cs _ (0,0) h1]
  match j,hv with
  | 0,hv=>simp at hv; rw [<- hv]; exact a1
  | 1,hv=>simp at hv; rw [<- hv]; exact a2
  | 2,hv=>simp at hv; rw [<- hv]; exact a3
  | 3,hv=>simp at hv; rw [<- hv]; exact a4
  | 4,hv=>simp at hv; rw [<- hv]; exact a5
  | j + 5,hv=>simp at hv)
 have hinfo:(Tryz.prog.info? 35).map (·.size) = some 5:=kR
 cases hq:Tryz.prog.info? 35 with
 | none=>rw [hq] at hinfo; cases hinfo
 | some i =>
  have hs:i.size = 5:=by rw [hq] at hinfo; simpa using hinfo
  have hagg:(isAgg 35).run Tryz.prog w = .ok true w:=by
   unfold isAgg
   rw [Sem.run_bind,run_underlying Tryz.underlying35 w]
   rfl
  have hlv:(loadVar 35 ⟨g,5 * k,none⟩).run Tryz.prog w = .ok (.agg #[.slice A na ca,.bool p,.slice B nb cb,.bool q,.slice C nc cc]) w:=by
   simp only [List.length_cons,List.length_nil] at hl
   simp [loadVar,Sem.run_bind,hagg,sizeOf,typeInfo,hq,hs,hl]
  unfold Oper.wp execOp
  simp only [ho,hx,Instr.loadAt,Instr.sureAddr,Sem.run_bind,Sem.run_pure,Result.andThen_ok,hlv]
  exact hK _ a6
theorem wp_store_elem {o:Oper} {a:Act} {w:World} {K:Act -> World -> Prop} {Q:Exit -> Act -> World -> Prop} {x y:Operand} (ho:o.op = .store 35 x y)
  {g n k:Nat} {f:Nat -> Cx} (hx:a.eval x = .pointer (some ⟨g,5 * k,none⟩)) {v:Value} (hy:a.eval y = v) (h:NBlk w g n f) (hk:k < n) {z:Cx} (hv:IsNum w v z)
  (hK:∀ w',But w w' g -> Ext w w' -> NBlk w' g n (upf f k z) -> K (a.put o.dst undef) w'):o.wp Tryz.prog a w K Q:=by
 obtain ⟨A,na,ca,p,B,nb,cb,q,C,nc,cc,ia,ib,id',rfl,-⟩:=hv.parts
 obtain ⟨cs0,hz,-,hodd⟩:=h.odd
 obtain ⟨cs,h1,h2,h3,h4⟩:=h
 rw [h1] at hz
 have he0:cs0 = cs:=by cases hz; rfl
 rw [he0] at hodd
 clear hz he0 cs0
 have hinfo:(Tryz.prog.info? 35).map (·.size) = some 5:=kR
 have hst:=run_storeCells_at (P:=Tryz.prog) g (5 * k) _ [.slice A na ca,.bool p,.slice B nb cb,.bool q,.slice C nc cc] 0 cs w h1 sO (by simp [Value.oneCell'])
 obtain ⟨cs',hcs⟩:∃ cs':Array Value,cs' = (cs.toList.take (5 * k + 0) ++ [Value.slice A na ca,.bool p,.slice B nb cb,.bool q,.slice C nc cc] ++ cs.toList.drop (5 * k + 0 + [Value.slice A na ca,.bool p,.slice B nb cb,.bool q,.slice C nc cc].length)).toArray:=⟨_,rfl⟩
 rw [<- hcs] at hst
 have hbut:=But.setRow w g cs'
 have hext:=hbut.ext h1 hodd
 have hsz:cs'.size = 5 * n:=by rw [hcs]; simp; omega
 have hget:∀ i,cs'[i]? = if i < 5 * k then cs[i]? else if i < 5 * k + 5 then [Value.slice A na ca,.bool p,.slice B nb cb,.bool q,.slice C nc cc][i - 5 * k]? else cs[i]?:=fun i=>by
  rw [hcs]
  have hl:(cs.toList.take (5 * k)).length = 5 * k:=sO
  simp only [List.getElem?_toArray,Nat.add_zero]
  by_cases c1:i < 5 * k
  ·rw [if_pos c1,List.append_assoc,List.getElem?_append_left (by rw [hl]; exact c1),List.getElem?_take_of_lt c1]
   simp
  ·rw [if_neg c1]
   by_cases c2:i < 5 * k + 5
   ·rw [if_pos c2,List.append_assoc,List.getElem?_append_right (by rw [hl]; omega),hl,List.getElem?_append_left sO]
   ·rw [if_neg c2,List.getElem?_append_right (by simp [hl]; omega)]
    simp only [List.length_append,hl,List.length_cons,List.length_nil,List.getElem?_drop]
    rw [show 5 * k + (0 + 1 + 1 + 1 + 1 + 1) + (i - (5 * k + (0 + 1 + 1 + 1 + 1 + 1))) = i by omega]
    simp
 have hnew:NBlk (w.setRow g cs') g n (upf f k z):=by
  refine ⟨cs',setRow_heap w g cs cs' _ _ h1,hsz,?_,fun j hj=>?_⟩
  ·rw [Array.all_eq_true]
   intro i hi
   have:=hget i
   rw [Array.getElem?_eq_getElem hi] at this
   split at this
   ·have hlt:i < cs.size:=oM
    rw [Array.getElem?_eq_getElem hlt] at this
    rw [Option.some.inj this]
    exact (Array.all_eq_true.1 h3) i hlt
   ·split at this
    ·rename_i c1 c2
     have hmm:i - 5 * k = 0 ∨ i - 5 * k = 1 ∨ i - 5 * k = 2 ∨ i - 5 * k = 3 ∨ i - 5 * k = 4:=oM
     rcases hmm with e | e | e | e | e <;> (rw [e] at this; simp at this; rw [this]; rfl)
    ·have hlt:i < cs.size:=oM
     rw [Array.getElem?_eq_getElem hlt] at this
     rw [Option.some.inj this]
     exact (Array.all_eq_true.1 h3) i hlt
  ·by_cases hjk:j = k
   ·subst hjk
    rw [upf_same]
    refine ⟨A,B,C,p,q,na,ca,nb,cb,nc,cc,?_,?_,?_,?_,?_,hv.ext hext⟩
    all_goals
     rw [hget,if_neg oM,if_pos oM]
     simp [show ∀ m,5 * j + m - 5 * j = m from fun m=>oM]
   ·rw [upf_other _ _ hjk]
    obtain ⟨A',B',C',p',q',na',ca',nb',cb',nc',cc',a1,a2,a3,a4,a5,a6⟩:=h4 j hj
    have hsame:∀ m,m < 5 -> cs'[5 * j + m]? = cs[5 * j + m]?:=fun m hm=>by
     rw [hget]
     by_cases c1:5 * j + m < 5 * k
     ·rw [if_pos c1]
     ·rw [if_neg c1,if_neg oM]
    exact ⟨A',B',C',p',q',na',ca',nb',cb',nc',cc',(hsame 0 oM).trans a1,(hsame 1 oM).trans a2,(hsame 2 oM).trans a3,(hsame 3 oM).trans a4,(hsame 4 oM).trans a5,a6.ext hext⟩
 have hsv:(storeVar 35 ⟨g,5 * k,none⟩ (.agg #[.slice A na ca,.bool p,.slice B nb cb,.bool q,.slice C nc cc])).run Tryz.prog w = .ok () (w.setRow g cs'):=by
  cases hq:Tryz.prog.info? 35 with
  | none=>rw [hq] at hinfo; cases hinfo
  | some i =>
   have hs:i.size = 5:=by rw [hq] at hinfo; simpa using hinfo
   simp [storeVar,sizeOf,typeInfo,hq,Value.cells,hs,hst]
 unfold Oper.wp execOp
 simp only [ho,hx,hy,Instr.storeAt,Instr.sureAddr,Sem.run_bind,Sem.run_pure,Result.andThen_ok,hsv]
 exact hK _ hbut hext hnew
def MatAt (W:World) (go:Nat) (gi:Nat -> Nat) (n m:Nat) (F:Nat -> Nat -> Cx):Prop:=∃ cs:Array Value,W.heap[go]? = some (.cells cs 46 (0,0)) /\ cs.size = n /\
 (∀ i,i < n -> cs[i]? = some (.slice (some ⟨gi i,0,none⟩) m m)) /\ ∀ i,i < n -> NBlk W (gi i) m (F i)
structure MatSep (B go:Nat) (gi:Nat -> Nat) (n:Nat):Prop where
 lo:B <= go
 los:∀ i,i < n -> B <= gi i
 ne:∀ i,i < n -> gi i ≠ go
 inj:∀ i j,i < n -> j < n -> gi i = gi j -> i = j
section
variable {W W':World} {go:Nat} {gi:Nat -> Nat} {n m:Nat} {F F':Nat -> Nat -> Cx}
theorem MatAt.lt (h:MatAt W go gi n m F):go < W.heap.size:=by
 obtain ⟨cs,h,-⟩:=h
 exact heap_ge_none h
theorem MatAt.row (h:MatAt W go gi n m F) {i:Nat} (hi:i < n):NBlk W (gi i) m (F i):=by
 obtain ⟨cs,-,-,-,h⟩:=h
 exact h i hi
theorem MatAt.cell (h:MatAt W go gi n m F) {i:Nat} (hi:i < n):W.cell? ⟨go,i,none⟩ = some (.slice (some ⟨gi i,0,none⟩) m m):=by
 obtain ⟨cs,h1,h2,h3,-⟩:=h
 rw [cell_of_row W go i cs _ (0,0) h1]
 exact h3 i hi
theorem MatAt.frozen (h:MatAt W go gi n m F) (i:Nat):W.frozen? ⟨go,i,none⟩ = false:=by
 obtain ⟨cs,h1,-⟩:=h
 simp [World.frozen?,h1]
theorem MatAt.below (h:MatAt W go gi n m F) (hb:Below W.heap.size W W'):MatAt W' go gi n m F:=by
 have hlt:=h.lt
 obtain ⟨cs,h1,h2,h3,h4⟩:=h
 exact ⟨cs,(hb.block _ hlt).trans h1,h2,h3,fun i hi=>(h4 i hi).below hb⟩
theorem MatAt.congr (h:MatAt W go gi n m F) (he:∀ i k,i < n -> k < m -> F i k = F' i k):MatAt W go gi n m F':=by
 obtain ⟨cs,h1,h2,h3,h4⟩:=h
 exact ⟨cs,h1,h2,h3,fun i hi=>(h4 i hi).congr fun j hj=>he i j hi hj⟩
def upm (F:Nat -> Nat -> Cx) (i k:Nat) (x:Cx):Nat -> Nat -> Cx:=upf F i (upf (F i) k x)
theorem MatAt.set {B:Nat} (h:MatAt W go gi n m F) (hs:MatSep B go gi n) {i k:Nat} (hi:i < n) {x:Cx} (hb:But W W' (gi i)) (he:Ext W W') (hr:NBlk W' (gi i) m (upf (F i) k x)):MatAt W' go gi n m (upm F i k x):=by
 obtain ⟨cs,h1,h2,h3,h4⟩:=h
 refine ⟨cs,(hb.other _ (Ne.symm (hs.ne i hi))).trans h1,h2,h3,fun j hj=>?_⟩
 by_cases hji:j = i
 ·subst hji
  rw [upm,upf_same]
  exact hr
 ·rw [upm,upf_other _ _ hji]
  exact (h4 j hj).but hb he fun e=>hji (hs.inj j i hj hi e)
end
structure PMat (B:Nat) (W:World) (go:Nat) (gi:Nat -> Nat) (n m k:Nat) (F:Nat -> Nat -> Cx):Prop where
 sep:MatSep B go gi k
 kn:k <= n
 cells:∃ cs:Array Value,W.heap[go]? = some (.cells cs 46 (0,0)) /\ cs.size = n /\ (∀ i,i < k -> cs[i]? = some (.slice (some ⟨gi i,0,none⟩) m m)) /\ (∀ i,k <= i -> i < n -> cs[i]? = some (.slice none 0 0))
 rows:∀ i,i < k -> NBlk W (gi i) m (F i)
section
variable {B:Nat} {W W':World} {go:Nat} {gi:Nat -> Nat} {n m k:Nat} {F F':Nat -> Nat -> Cx}
theorem PMat.lt (h:PMat B W go gi n m k F):go < W.heap.size:=by
 obtain ⟨cs,h,-⟩:=h.cells
 exact heap_ge_none h
theorem PMat.below (h:PMat B W go gi n m k F) (hb:Below W.heap.size W W'):PMat B W' go gi n m k F:=by
 have hlt:=h.lt
 obtain ⟨cs,h1,h2,h3,h4⟩:=h.cells
 exact ⟨h.sep,h.kn,⟨cs,(hb.block _ hlt).trans h1,h2,h3,h4⟩,fun i hi=>(h.rows i hi).below hb⟩
theorem PMat.cell (h:PMat B W go gi n m k F) {i:Nat} (hi:i < k):W.cell? ⟨go,i,none⟩ = some (.slice (some ⟨gi i,0,none⟩) m m):=by
 obtain ⟨cs,h1,h2,h3,-⟩:=h.cells
 rw [cell_of_row W go i cs _ (0,0) h1]
 exact h3 i hi
theorem PMat.cell_nil (h:PMat B W go gi n m k F) {i:Nat} (hk:k <= i) (hi:i < n):W.cell? ⟨go,i,none⟩ = some (.slice none 0 0):=by
 obtain ⟨cs,h1,h2,-,h4⟩:=h.cells
 rw [cell_of_row W go i cs _ (0,0) h1]
 exact h4 i hk hi
theorem PMat.frozen (h:PMat B W go gi n m k F) (i:Nat):W.frozen? ⟨go,i,none⟩ = false:=by
 obtain ⟨cs,h1,-⟩:=h.cells
 simp [World.frozen?,h1]
theorem PMat.done (h:PMat B W go gi n m n F):MatAt W go gi n m F /\ MatSep B go gi n:=by
 obtain ⟨cs,h1,h2,h3,-⟩:=h.cells
 exact ⟨⟨cs,h1,h2,h3,h.rows⟩,h.sep⟩
theorem PMat.congr (h:PMat B W go gi n m k F) (he:∀ i j,i < k -> j < m -> F i j = F' i j):PMat B W go gi n m k F' :=
 ⟨h.sep,h.kn,h.cells,fun i hi=>(h.rows i hi).congr fun j hj=>he i j hi hj⟩
theorem PMat.row (h:PMat B W go gi n m k F) (hb:Below W.heap.size W W') {g:Nat} (hg:W.heap.size <= g) (hr:NBlk W' g m (F k)) (hk:k < n) :
  PMat B (W'.setCell ⟨go,k,none⟩ (.slice (some ⟨g,0,none⟩) m m)) go (upf gi k g) n m (k + 1) F /\ But W' (W'.setCell ⟨go,k,none⟩ (.slice (some ⟨g,0,none⟩) m m)) go /\ Ext W' (W'.setCell ⟨go,k,none⟩ (.slice (some ⟨g,0,none⟩) m m)):=by
 have hgo:=h.lt
 have h':=h.below hb
 obtain ⟨cs,h1,h2,h3,h4⟩:=h'.cells
 have hbut:But W' (W'.setCell ⟨go,k,none⟩ (.slice (some ⟨g,0,none⟩) m m)) go:=by
  rw [setCell_eq_setRow W' go k cs _ (0,0) _ h1]
  exact But.setRow _ _ _
 have hodd:oddB cs = true:=by
  unfold oddB
  rw [List.all_eq_true]
  intro v hv
  obtain ⟨i,hi,rfl⟩:=List.getElem_of_mem hv
  have hi':i < n:=by simpa [h2] using hi
  have hget:∀ u,cs[i]? = some u -> cs.toList[i] = u:=fun u hu=>by
   obtain ⟨hlt,hu⟩:=Array.getElem?_eq_some_iff.1 hu
   simpa using hu
  rcases Nat.lt_or_ge i k with hik | hik
  ·rw [hget _ (h3 i hik)]
  ·rw [hget _ (h4 i hik hi')]
 have hext:=hbut.ext h1 hodd
 have hgi:∀ i,i < k -> gi i < W.heap.size:=fun i hi=>(h.rows i hi).lt
 refine ⟨?_,hbut,hext⟩
 refine ⟨⟨h.sep.lo,fun i hi=>?_,fun i hi=>?_,fun i j hi hj e=>?_⟩,oM,⟨cs.setIfInBounds k (.slice (some ⟨g,0,none⟩) m m),?_,by simp [h2],fun i hi=>?_,fun i hi hin=>?_⟩,fun i hi=>?_⟩
 ·by_cases hik:i = k
  ·rw [hik,upf_same]; have:=h.sep.lo; omega
  ·rw [upf_other _ _ hik]; exact h.sep.los i oM
 ·by_cases hik:i = k
  ·rw [hik,upf_same]; omega
  ·rw [upf_other _ _ hik]; exact h.sep.ne i oM
 ·by_cases hik:i = k
  ·by_cases hjk:j = k
   ·omega
   ·rw [hik,upf_same,upf_other _ _ hjk] at e
    have:=hgi j oM
    omega
  ·by_cases hjk:j = k
   ·rw [hjk,upf_same,upf_other _ _ hik] at e
    have:=hgi i oM
    omega
   ·rw [upf_other _ _ hik,upf_other _ _ hjk] at e
    exact h.sep.inj i j oM oM e
 ·rw [setCell_eq_setRow W' go k cs _ (0,0) _ h1]
  exact setRow_heap W' go cs _ _ _ h1
 ·rw [Array.getElem?_setIfInBounds]
  by_cases hik:k = i
  ·subst hik
   rw [if_pos rfl,if_pos oM,upf_same]
  ·rw [if_neg hik,upf_other _ _ (fun e=>hik e.symm)]
   exact h3 i oM
 ·rw [Array.getElem?_setIfInBounds,if_neg oM]
  exact h4 i oM hin
 ·by_cases hik:i = k
  ·rw [hik,upf_same]
   exact hr.but hbut hext oM
  ·rw [upf_other _ _ hik]
   exact (h'.rows i oM).but hbut hext (h.sep.ne i oM)
theorem PMat.set (h:PMat B W go gi n m k F) {i:Nat} (hi:i < k) {f:Nat -> Cx} (hb:But W W' (gi i)) (he:Ext W W') (hr:NBlk W' (gi i) m f):PMat B W' go gi n m k (upf F i f):=by
 obtain ⟨cs,h1,h2,h3,h4⟩:=h.cells
 refine ⟨h.sep,h.kn,⟨cs,(hb.other _ (Ne.symm (h.sep.ne i hi))).trans h1,h2,h3,h4⟩,fun j hj=>?_⟩
 by_cases hji:j = i
 ·subst hji
  rw [upf_same]
  exact hr
 ·rw [upf_other _ _ hji]
  exact (h.rows j hj).but hb he fun e=>hji (h.sep.inj j i hj hi e)
theorem info_num:∃ i,Tryz.prog.info? 35 = some i /\ i.zero = some (.agg zNum) /\ i.size = 5 /\ i.bytes <= 200:=by
 have h:(Tryz.prog.info? 35).map (fun i=>(i.zero,i.size,decide (i.bytes <= 200))) = some (some (.agg zNum),5,true):=kR
 cases hq:Tryz.prog.info? 35 with
 | none=>rw [hq] at h; cases h
 | some i =>
  rw [hq] at h
  simp only [Option.map_some,Option.some.injEq,Prod.mk.injEq,decide_eq_true_eq] at h
  exact ⟨i,rfl,h.1,h.2.1,h.2.2⟩
theorem info_row:∃ i,Tryz.prog.info? 46 = some i /\ i.zero = some (.slice none 0 0) /\ i.size = 1 /\ i.bytes <= 200:=by
 have h:(Tryz.prog.info? 46).map (fun i=>(i.zero,i.size,decide (i.bytes <= 200))) = some (some (.slice none 0 0),1,true):=kR
 cases hq:Tryz.prog.info? 46 with
 | none=>rw [hq] at h; cases h
 | some i =>
  rw [hq] at h
  simp only [Option.map_some,Option.some.injEq,Prod.mk.injEq,decide_eq_true_eq] at h
  exact ⟨i,rfl,h.1,h.2.1,h.2.2⟩
theorem IsNum.zero (W:World):IsNum W (.agg zNum) .zero:=by
 refine ⟨_,_,_,_,_,0,0,1,rfl,Low.zero,?_,?_,IsNat.zero _ _ _⟩
 ·exact ⟨_,rfl,IsNat.zero _ _ _⟩
 ·exact ⟨_,rfl,IsNat.zero _ _ _⟩
theorem make_row (n:Nat) (hn:n <= 1099511627776) (w:World):∃ w',(Instr.makeSlice 46 (.int .i64 (n:Int)) (.int .i64 (n:Int))).run Tryz.prog w = .ok (.slice (some ⟨w.heap.size,0,none⟩) n n) w' /\
  Below w.heap.size w w' /\ w'.heap.size = w.heap.size + 1 /\ NBlk w' w.heap.size n (fun _=>.zero):=by
 obtain ⟨i,hi,hz,hs,hbt⟩:=info_num
 have h:=run_make (P:=Tryz.prog) w 46 35 i (.agg zNum) Tryz.underlying46 hi hz .i64 .i64 n n oM oM (by
  have:i.bytes * n <= 200 * 1099511627776:=Nat.mul_le_mul hbt hn
  have e:((i.bytes:Int) * (n:Int)) = ((i.bytes * n:Nat):Int):=sP
  rw [e]; omega) oM
 simp only [Int.toNat_natCast,hs] at h
 refine ⟨_,h,rfB.alloc lR _,sP,madeCells zNum (n * 5),?_,by rw [size_madeCells]; omega,?_,fun j hj=>?_⟩
 ·show (w.heap.push _)[w.heap.size]? = _
  simp [Value.cells]
 ·rw [Array.all_eq_true]
  intro k hk
  have h5:k % 5 = 0 ∨ k % 5 = 1 ∨ k % 5 = 2 ∨ k % 5 = 3 ∨ k % 5 = 4:=oM
  have e:(madeCells zNum (n * 5))[k] = zNum[k % 5]!:=by simp [madeCells,zNum]
  rw [e]
  rcases h5 with h5 | h5 | h5 | h5 | h5 <;> (rw [h5]; rfl)
 ·have hget:∀ r,r < 5 -> (madeCells zNum (n * 5))[5 * j + r]? = some (zNum[r]!):=fun r hr=>by
   have h1:5 * j + r < n * 5:=oM
   have h2:(5 * j + r) % 5 = r:=oM
   simp [madeCells,h1,zNum,h2]
  exact ⟨none,none,none,false,false,0,0,0,0,0,0,hget 0 oM,hget 1 oM,hget 2 oM,hget 3 oM,hget 4 oM,IsNum.zero _⟩
theorem make_mat (n m:Nat) (hn:n <= 1099511627776) (w:World) (F:Nat -> Nat -> Cx) (gi:Nat -> Nat):∃ w',(Instr.makeSlice 26 (.int .i64 (n:Int)) (.int .i64 (n:Int))).run Tryz.prog w = .ok (.slice (some ⟨w.heap.size,0,none⟩) n n) w' /\
  Below w.heap.size w w' /\ w'.heap.size = w.heap.size + 1 /\ PMat w.heap.size w' w.heap.size gi n m 0 F:=by
 obtain ⟨i,hi,hz,hs,hbt⟩:=info_row
 have h:=run_make (P:=Tryz.prog) w 26 46 i (.slice none 0 0) Tryz.underlying26 hi hz .i64 .i64 n n oM oM (by
  have:i.bytes * n <= 200 * 1099511627776:=Nat.mul_le_mul hbt hn
  have e:((i.bytes:Int) * (n:Int)) = ((i.bytes * n:Nat):Int):=sP
  rw [e]; omega) oM
 simp only [Int.toNat_natCast,hs,Nat.mul_one] at h
 refine ⟨_,h,rfB.alloc lR _,sP,⟨Nat.le_refl _,fun i hi=>absurd hi oM,fun i hi=>absurd hi oM,fun i j hi=>absurd hi oM⟩,oM,⟨madeCells (Value.slice none 0 0).cells n,?_,size_madeCells _ _,fun i hi=>absurd hi oM,fun i _ hi=>?_⟩,fun i hi=>absurd hi oM⟩
 ·show (w.heap.push _)[w.heap.size]? = _
  simp
 ·simp [madeCells,hi,Value.cells,Nat.mod_one]
end
def cpyn (f f':Nat -> Cx) (o m:Nat):Nat -> Cx:=fun j=>if o <= j /\ j < o + m then f (j - o) else f' j
theorem copy_num (w:World) (T:TypeId) (g g1 n m d c c1 o:Nat) (f f':Nat -> Cx) (h1:NBlk w g1 m f) (h:NBlk w g n f') (ho:o + d = n) (hm:m <= d) :
  ∃ w',(Builtin.copy_ #[46,46] T #[.slice (some ⟨g,5 * o,none⟩) d c,.slice (some ⟨g1,0,none⟩) m c1]).run Tryz.prog w = .ok (goInt m) w' /\
   But w w' g /\ Ext w w' /\ NBlk w' g n (cpyn f f' o m):=by
 obtain ⟨i,hi,hz,hs,hbt⟩:=info_num
 obtain ⟨cs0,hz0,-,hodd⟩:=h.odd
 obtain ⟨cs1,a1,a2,a3,a4⟩:=h1
 obtain ⟨cs,b1,b2,b3,b4⟩:=h
 rw [b1] at hz0
 have he0:cs0 = cs:=by cases hz0; rfl
 rw [he0] at hodd
 clear hz0 he0 cs0
 have hl:=run_loadCells_list (P:=Tryz.prog) (w:=w) ⟨g1,0,none⟩ cs1.toList (fun j v hv=>by
  have hadd:(⟨g1,0,none⟩:Addr).add j = ⟨g1,j,none⟩:=by unfold Addr.add; split <;> simp_all
  rw [hadd,cell_of_row w g1 _ cs1 _ (0,0) a1]
  simpa using hv)
 have hst:=run_storeCells_at (P:=Tryz.prog) g (5 * o) _ cs1.toList 0 cs w b1 sO (fun v hv=>(Array.all_eq_true_iff_forall_mem.1 a3) v (by simpa using hv))
 obtain ⟨cs',hcs⟩:∃ cs':Array Value,cs' = (cs.toList.take (5 * o + 0) ++ cs1.toList ++ cs.toList.drop (5 * o + 0 + cs1.toList.length)).toArray:=⟨_,rfl⟩
 rw [<- hcs] at hst
 have hmin:Nat.min m d = m:=Nat.min_eq_left hm
 have hlen:cs1.toList.length = m * 5:=sO
 have hrun:(Builtin.copy_ #[46,46] T #[.slice (some ⟨g,5 * o,none⟩) d c,.slice (some ⟨g1,0,none⟩) m c1]).run Tryz.prog w = .ok (goInt m) (w.setRow g cs'):=by
  rw [hlen] at hl
  simp [Builtin.copy_,run_underlying Tryz.underlying46,Builtin.lenOf,Builtin.firstCells,sizeOf,typeInfo,hi,hs,hmin,hl,hst]
 have hbut:=But.setRow w g cs'
 have hext:=hbut.ext b1 hodd
 have hsz:cs'.size = 5 * n:=by rw [hcs]; simp; omega
 have hget:∀ i,cs'[i]? = if i < 5 * o then cs[i]? else if i < 5 * o + 5 * m then cs1[i - 5 * o]? else cs[i]?:=fun i=>by
  rw [hcs]
  have hl:(cs.toList.take (5 * o)).length = 5 * o:=sO
  simp only [List.getElem?_toArray,Nat.add_zero]
  by_cases c1:i < 5 * o
  ·rw [if_pos c1,List.append_assoc,List.getElem?_append_left (by rw [hl]; exact c1),List.getElem?_take_of_lt c1]
   simp
  ·rw [if_neg c1]
   by_cases c2:i < 5 * o + 5 * m
   ·rw [if_pos c2,List.append_assoc,List.getElem?_append_right (by rw [hl]; omega),hl,List.getElem?_append_left (by rw [hlen]; omega)]
    simp
   ·rw [if_neg c2,List.getElem?_append_right (by simp [hl]; omega)]
    simp only [List.length_append,hl,hlen,List.getElem?_drop]
    rw [show 5 * o + m * 5 + (i - (5 * o + m * 5)) = i by omega]
    simp
 refine ⟨_,hrun,hbut,hext,cs',setRow_heap w g cs cs' _ _ b1,hsz,?_,fun j hj=>?_⟩
 ·rw [Array.all_eq_true]
  intro i hi
  have:=hget i
  rw [Array.getElem?_eq_getElem hi] at this
  split at this
  ·have hlt:i < cs.size:=oM
   rw [Array.getElem?_eq_getElem hlt] at this
   rw [Option.some.inj this]
   exact (Array.all_eq_true.1 b3) i hlt
  ·split at this
   ·have hlt:i - 5 * o < cs1.size:=oM
    rw [Array.getElem?_eq_getElem hlt] at this
    rw [Option.some.inj this]
    exact (Array.all_eq_true.1 a3) _ hlt
   ·have hlt:i < cs.size:=oM
    rw [Array.getElem?_eq_getElem hlt] at this
    rw [Option.some.inj this]
    exact (Array.all_eq_true.1 b3) i hlt
 ·by_cases hjo:o <= j /\ j < o + m
  ·rw [show cpyn f f' o m j = f (j - o) from if_pos hjo]
   obtain ⟨A',B',C',p',q',na',ca',nb',cb',nc',cc',x1,x2,x3,x4,x5,x6⟩:=a4 (j - o) oM
   have hsame:∀ r,r < 5 -> cs'[5 * j + r]? = cs1[5 * (j - o) + r]?:=fun r hr=>by
    rw [hget,if_neg oM,if_pos oM,show 5 * j + r - 5 * o = 5 * (j - o) + r by omega]
   exact ⟨A',B',C',p',q',na',ca',nb',cb',nc',cc',(hsame 0 oM).trans x1,(hsame 1 oM).trans x2,(hsame 2 oM).trans x3,(hsame 3 oM).trans x4,(hsame 4 oM).trans x5,x6.ext hext⟩
  ·rw [show cpyn f f' o m j = f' j from if_neg hjo]
   obtain ⟨A',B',C',p',q',na',ca',nb',cb',nc',cc',x1,x2,x3,x4,x5,x6⟩:=b4 j hj
   have hsame:∀ r,r < 5 -> cs'[5 * j + r]? = cs[5 * j + r]?:=fun r hr=>by
    rw [hget]
    by_cases c1:5 * j + r < 5 * o
    ·rw [if_pos c1]
    ·rw [if_neg c1,if_neg oM]
   exact ⟨A',B',C',p',q',na',ca',nb',cb',nc',cc',(hsame 0 oM).trans x1,(hsame 1 oM).trans x2,(hsame 2 oM).trans x3,(hsame 3 oM).trans x4,(hsame 4 oM).trans x5,x6.ext hext⟩
end Go.Proofs.YtffegeaflohfhaaGreatDoor
