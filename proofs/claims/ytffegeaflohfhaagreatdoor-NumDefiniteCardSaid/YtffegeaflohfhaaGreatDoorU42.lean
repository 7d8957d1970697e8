import Derived.Test.YtffegeaflohfhaaGreatDoorS23
import Derived.Test.YtffegeaflohfhaaGreatDoorU28
import Derived.Test.YtffegeaflohfhaaGreatDoorU40
import Derived.Test.YtffegeaflohfhaaGreatDoorU41
import Derived.Test.YtffegeaflohfhaaGreatDoorU15
import Derived.Test.YtffegeaflohfhaaGreatDoorU27
import Derived.Test.YtffegeaflohfhaaGreatDoorU35
import Derived.Test.YtffegeaflohfhaaGreatDoorU36
import Derived.Test.YtffegeaflohfhaaGreatDoorS02
set_option linter.unusedVariables false
set_option linter.unusedSimpArgs false
set_option maxRecDepth 100000
set_option maxHeartbeats 8000000
namespace Go.Proofs.YtffegeaflohfhaaGreatDoor
open Go.RowKit
structure RowsQ (B:Nat) (W:World) (go:Nat) (gi li ci:Nat -> Nat) (n k:Nat) (V:Nat -> Nat -> Prop) (F:Nat -> Nat -> Cx):Prop where
 sep:MatSep B go gi k
 kn:k <= n
 cells:∃ cs:Array Value,W.heap[go]? = some (.cells cs 50 (0,0)) /\ cs.size = n /\ (∀ i,i < k -> cs[i]? = some (.slice (some ⟨gi i,0,none⟩) (li i) (ci i))) /\ (∀ i,k <= i -> i < n -> cs[i]? = some (.slice none 0 0))
 rows:∀ i,i < k -> QBlk W (gi i) (ci i) (V i) (F i)
section
variable {B:Nat} {W W':World} {go:Nat} {gi li ci:Nat -> Nat} {n k:Nat} {V V':Nat -> Nat -> Prop} {F F':Nat -> Nat -> Cx}
theorem RowsQ.lt (h:RowsQ B W go gi li ci n k V F):go < W.heap.size:=by
 obtain ⟨cs,h,-⟩:=h.cells
 exact heap_ge_none h
theorem RowsQ.below (h:RowsQ B W go gi li ci n k V F) (hb:Below W.heap.size W W'):RowsQ B W' go gi li ci n k V F:=by
 have hlt:=h.lt
 obtain ⟨cs,h1,h2,h3,h4⟩:=h.cells
 exact ⟨h.sep,h.kn,⟨cs,(hb.block _ hlt).trans h1,h2,h3,h4⟩,fun i hi=>(h.rows i hi).below hb⟩
theorem RowsQ.cell (h:RowsQ B W go gi li ci n k V F) {i:Nat} (hi:i < k):W.cell? ⟨go,i,none⟩ = some (.slice (some ⟨gi i,0,none⟩) (li i) (ci i)):=by
 obtain ⟨cs,h1,h2,h3,-⟩:=h.cells
 rw [cell_of_row W go i cs _ (0,0) h1]
 exact h3 i hi
theorem RowsQ.cell_nil (h:RowsQ B W go gi li ci n k V F) {i:Nat} (hk:k <= i) (hi:i < n):W.cell? ⟨go,i,none⟩ = some (.slice none 0 0):=by
 obtain ⟨cs,h1,h2,-,h4⟩:=h.cells
 rw [cell_of_row W go i cs _ (0,0) h1]
 exact h4 i hk hi
theorem RowsQ.frozen (h:RowsQ B W go gi li ci n k V F) (i:Nat):W.frozen? ⟨go,i,none⟩ = false:=by
 obtain ⟨cs,h1,-⟩:=h.cells
 simp [World.frozen?,h1]
theorem RowsQ.to (h:RowsQ B W go gi li ci n k V F) (hV:∀ i j,i < k -> j < ci i -> V' i j -> V i j /\ F i j = F' i j):RowsQ B W go gi li ci n k V' F' :=
 ⟨h.sep,h.kn,h.cells,fun i hi=>(h.rows i hi).to fun j hj hv=>hV i j hi hj hv⟩
theorem RowsQ.odd (h:RowsQ B W go gi li ci n k V F):∃ cs,W.heap[go]? = some (.cells cs 50 (0,0)) /\ oddB cs = true /\ cs.size = n:=by
 obtain ⟨cs,h1,h2,h3,h4⟩:=h.cells
 refine ⟨cs,h1,?_,h2⟩
 unfold oddB
 rw [List.all_eq_true]
 intro v hv
 obtain ⟨i,hi,rfl⟩:=List.getElem_of_mem hv
 have hi':i < n:=by simpa [h2] using hi
 have hget:∀ u,cs[i]? = some u -> cs.toList[i] = u:=fun u hu=>by
  obtain ⟨hlt,hu⟩:=Array.getElem?_eq_some_iff.1 hu
  simpa using hu
 rcases Nat.lt_or_ge i k with hik | hik
 ·rw [hget _ (h3 i hik)]
 ·rw [hget _ (h4 i hik hi')]
theorem RowsQ.cut (h:RowsQ B W go gi li ci n k V F) {i l c:Nat} {A:Option Addr}:But W (W.setCell ⟨go,i,none⟩ (.slice A l c)) go /\ Ext W (W.setCell ⟨go,i,none⟩ (.slice A l c)):=by
 obtain ⟨cs,h1,h2,-⟩:=h.odd
 have hbut:But W (W.setCell ⟨go,i,none⟩ (.slice A l c)) go:=by
  rw [setCell_eq_setRow W go i cs _ (0,0) _ h1]
  exact But.setRow _ _ _
 exact ⟨hbut,hbut.ext h1 h2⟩
theorem RowsQ.lay (h:RowsQ B W go gi li ci n k V F) {i:Nat} (hi:i <= k) (hn:i < n) {g l c:Nat} {U:Nat -> Prop} {f:Nat -> Cx} (hB:B <= g) (hg:g ≠ go) (hne:∀ j,j < k -> j ≠ i -> gi j ≠ g) (hr:QBlk W g c U f) :
  RowsQ B (W.setCell ⟨go,i,none⟩ (.slice (some ⟨g,0,none⟩) l c)) go (upf gi i g) (upf li i l) (upf ci i c) n (max k (i + 1)) (upf V i U) (upf F i f):=by
 obtain ⟨hbut,hext⟩:=h.cut (i:=i) (l:=l) (c:=c) (A:=some ⟨g,0,none⟩)
 obtain ⟨cs,h1,h2,h3,h4⟩:=h.cells
 have hk:=h.kn
 refine ⟨⟨h.sep.lo,fun j hj=>?_,fun j hj=>?_,fun a b ha hb e=>?_⟩,oM,⟨cs.setIfInBounds i (.slice (some ⟨g,0,none⟩) l c),?_,by simp [h2],fun j hj=>?_,fun j hj hin=>?_⟩,fun j hj=>?_⟩
 ·by_cases e:j = i
  ·rw [e,upf_same]; exact hB
  ·rw [upf_other _ _ e]; exact h.sep.los j oM
 ·by_cases e:j = i
  ·rw [e,upf_same]; exact hg
  ·rw [upf_other _ _ e]; exact h.sep.ne j oM
 ·by_cases ea:a = i
  ·by_cases eb:b = i
   ·omega
   ·rw [ea,upf_same,upf_other _ _ eb] at e
    exact absurd e.symm (hne b oM eb)
  ·by_cases eb:b = i
   ·rw [eb,upf_same,upf_other _ _ ea] at e
    exact absurd e (hne a oM ea)
   ·rw [upf_other _ _ ea,upf_other _ _ eb] at e
    exact h.sep.inj a b oM oM e
 ·rw [setCell_eq_setRow W go i cs _ (0,0) _ h1]
  exact setRow_heap W go cs _ _ _ h1
 ·rw [Array.getElem?_setIfInBounds]
  by_cases e:i = j
  ·subst e
   rw [if_pos rfl,if_pos oM,upf_same,upf_same,upf_same]
  ·rw [if_neg e,upf_other _ _ (Ne.symm e),upf_other _ _ (Ne.symm e),upf_other _ _ (Ne.symm e)]
   exact h3 j oM
 ·rw [Array.getElem?_setIfInBounds,if_neg oM]
  exact h4 j oM hin
 ·by_cases e:j = i
  ·rw [e,upf_same,upf_same,upf_same,upf_same]
   exact hr.but hbut hext hg
  ·rw [upf_other _ _ e,upf_other _ _ e,upf_other _ _ e,upf_other _ _ e]
   exact (h.rows j oM).but hbut hext (h.sep.ne j oM)
theorem RowsQ.set (h:RowsQ B W go gi li ci n k V F) {i:Nat} (hi:i < k) {f:Nat -> Cx} {U:Nat -> Prop} (hb:But W W' (gi i)) (he:Ext W W') (hr:QBlk W' (gi i) (ci i) U f):RowsQ B W' go gi li ci n k (upf V i U) (upf F i f):=by
 obtain ⟨cs,h1,h2,h3,h4⟩:=h.cells
 refine ⟨h.sep,h.kn,⟨cs,(hb.other _ (Ne.symm (h.sep.ne i hi))).trans h1,h2,h3,h4⟩,fun j hj=>?_⟩
 by_cases hji:j = i
 ·subst hji
  rw [upf_same,upf_same]
  exact hr
 ·rw [upf_other _ _ hji,upf_other _ _ hji]
  exact (h.rows j hj).ext he (hb.other _ fun e=>hji (h.sep.inj j i hj hi e))
end
abbrev tM:TypeId:=28
abbrev tR:TypeId:=50
abbrev tQ:TypeId:=42
theorem uM:Tryz.prog.underlying tM = some (.slice tR):=Tryz.underlying28
theorem uR:Tryz.prog.underlying tR = some (.slice tQ):=Tryz.underlying50
theorem sR:∀ w,(sizeOf tR).run Tryz.prog w = .ok 1 w:=fun w=>kR
theorem sQ:∀ w,(sizeOf tQ).run Tryz.prog w = .ok 5 w:=fun w=>kR
theorem aR:∀ w,(isAgg tR).run Tryz.prog w = .ok false w:=fun w=>by
 unfold isAgg
 rw [Sem.run_bind,run_underlying uR w]
 rfl
section
variable {ops:Array Oper} {kl:List RK} {B:Nat} {w0:World} {a0:Act} {o:Oper} {i:Nat}
theorem uQe {x:Operand} {g n k:Nat} {V:Nat -> Prop} {f:Nat -> Cx} (ho:o.op = .load tQ x) (hx:Kn ops kl a0 i x (fun _=>.pointer (some ⟨g,5 * k,none⟩))) (hQ:∀ W,Below B w0 W -> QBlk W g n V f) (hk:k < n) (hV:V k):ObU Tryz.prog ops kl B w0 a0 o i (kQ (f k)) :=
 fun ts W a ha hb hB hp K hK=>⟨wp_load_qe ho (hx ts W a ha hp) (hQ W hb) hk hV fun v hv=>hK _ _ hv rfB⟩
theorem uIr {g l c k:Nat} {x y:Operand} (ho:o.op = .indexAddr tM x y) (hx:Kn ops kl a0 i x (fun _=>.slice (some ⟨g,0,none⟩) l c)) (hy:Kn ops kl a0 i y (fun _=>.int .i64 (k:Int))) (hk:k < l):ObU Tryz.prog ops kl B w0 a0 o i (kIs (.pointer (some ⟨g,k,none⟩))) :=
 uIx ho hx hy hk (Nat.mul_one k) uM sR
theorem uIq {g l c k:Nat} {x y:Operand} (ho:o.op = .indexAddr tR x y) (hx:Kn ops kl a0 i x (fun _=>.slice (some ⟨g,0,none⟩) l c)) (hy:Kn ops kl a0 i y (fun _=>.int .i64 (k:Int))) (hk:k < l):ObU Tryz.prog ops kl B w0 a0 o i (kIs (.pointer (some ⟨g,5 * k,none⟩))) :=
 uIx ho hx hy hk (Nat.mul_comm k 5) uR sQ
theorem uLr' {x:Operand} {b:Addr} {v:Value} (ho:o.op = .load tR x) (hx:Kn ops kl a0 i x (fun _=>.pointer (some b))) (hc:∀ W,Below B w0 W -> W.cell? b = some v):ObU Tryz.prog ops kl B w0 a0 o i (kIs v):=uLc ho hx hc aR
end
theorem PMatQ.rows0 {B:Nat} {W:World} {go:Nat} {gi li ci:Nat -> Nat} {n m:Nat} {F:Nat -> Nat -> Cx} {V:Nat -> Nat -> Prop} (h:PMatQ B W go gi n m 0 F):RowsQ B W go gi li ci n 0 V F:=by
 obtain ⟨cs,h1,h2,-,h4⟩:=h.cells
 exact ⟨h.sep,h.kn,⟨cs,h1,h2,fun i hi=>oM,h4⟩,fun i hi=>oM⟩
def El (W:World) (cs:Array Value) (o:Nat) (V:Prop) (x:Cx):Prop:=∃ A B C p q na ca nb cb nc cc,cs[o]? = some (.bool p) /\ cs[o + 1]? = some (.slice A na ca) /\ cs[o + 2]? = some (.bool q) /\ cs[o + 3]? = some (.slice B nb cb) /\ cs[o + 4]? = some (.slice C nc cc) /\
 (V -> IsQ W (.agg #[.bool p,.slice A na ca,.bool q,.slice B nb cb,.slice C nc cc]) x)
theorem El.to {W W':World} {cs cs':Array Value} {o o':Nat} {V V':Prop} {x:Cx} (h:El W cs o V x) (he:Ext W W') (hV:V' -> V) (hc:∀ r,r < 5 -> cs'[o' + r]? = cs[o + r]?):El W' cs' o' V' x:=by
 obtain ⟨A,B,C,p,q,na,ca,nb,cb,nc,cc,a1,a2,a3,a4,a5,a6⟩:=h
 exact ⟨A,B,C,p,q,na,ca,nb,cb,nc,cc,(hc 0 oM).trans a1,(hc 1 oM).trans a2,(hc 2 oM).trans a3,(hc 3 oM).trans a4,(hc 4 oM).trans a5,fun h=>IsQ.ext (a6 (hV h)) he⟩
theorem El.nil (W:World) (cs:Array Value) (o:Nat) (x:Cx) (hc:∀ r,r < 5 -> cs[o + r]? = some (zQ[r]!)):El W cs o False x :=
 ⟨none,none,none,false,false,0,0,0,0,0,0,hc 0 oM,hc 1 oM,hc 2 oM,hc 3 oM,hc 4 oM,fun h=>h.elim⟩
theorem zero_at (k i r:Nat) (hi:i < k) (hr:r < 5):(Builtin.zeroCells zQ k)[5 * i + r]? = some (zQ[r]!):=by
 have h2:(5 * i + r) % 5 = r:=oM
 have h1:5 * i + r < k * 5:=oM
 simp [Builtin.zeroCells,zQ,h1,h2]
theorem zQ_one:zQ.all (·.oneCell') = true:=by simp [zQ,Value.oneCell']
theorem cell_row {W:World} {b:Nat} {ds:Array Value} {T:TypeId} (hb:W.heap[b]? = some (.cells ds T (0,0))):∀ j u,ds.toList[j]? = some u -> W.cell? ((⟨b,0,none⟩:Addr).add j) = some u:=fun j u hu=>by
 have hadd:(⟨b,0,none⟩:Addr).add j = ⟨b,j,none⟩:=by unfold Addr.add; split <;> simp_all
 rw [hadd,cell_of_row W b _ ds _ (0,0) hb]
 simpa using hu
theorem row_copy {w:World} {e g m cc:Nat} {F:Nat -> Cx} (he:w.heap[e]? = some (.cells #[] 42 (0,0))) (hg:QBlk w g m (fun _=>True) F) (hm:m < 1000000000) :
  ∃ W' gN c',(∀ ty,(Builtin.append_ #[50,50] ty #[.slice (some ⟨e,0,none⟩) 0 0,.slice (some ⟨g,0,none⟩) m cc]).run Tryz.prog w = .ok (.slice (some ⟨gN,0,none⟩) m c') W') /\
   Below e w W' /\ (gN = e ∨ gN = w.heap.size) /\ m <= c' /\ QBlk W' gN c' (fun j=>j < m) F:=by
 obtain ⟨i,hi,hz,hs,hbt⟩:=info_q
 obtain ⟨cs,h1,h2,h3,h4⟩:=hg
 have helt:e < w.heap.size:=heap_ge_none he
 rcases Nat.eq_zero_or_pos m with h0 | h0
 ·subst h0
  have hr:=fun ty=>run_append_room (P:=Tryz.prog) w 50 ty 42 i Tryz.underlying50 hi e 0 0 #[] he ⟨g,0,none⟩ 0 cc [] sP (fun j u hu=>by simp at hu) (fun u hu=>by simp at hu) oM sP
  have hb:=But.setRow w e #[]
  refine ⟨w.setRow e #[],e,0,fun ty=>by simpa using hr ty,hb.below rfB lR,.inl rfl,Nat.le_refl _,#[],setRow_heap w e _ _ _ _ he,rfl,sP,fun j hj=>oM⟩
 ·have hr:=fun ty=>run_append_grow (P:=Tryz.prog) w 50 ty 42 i (.agg zQ) Tryz.underlying50 hi hz ⟨e,0,none⟩ 0 0 [] sP (fun j u hu=>by simp at hu) ⟨g,0,none⟩ m cc cs.toList (by simp [hs,h2]; omega) (cell_row h1) oM oM (growslice_fits oM (by
   have:(0 + m) * i.bytes <= 1000000000 * 200:=Nat.mul_le_mul oM hbt
   omega))
  have hge:=grownCap_ge w (0 + m) 0 42
  generalize grownCap w (0 + m) 0 42 = cap at *
  simp only [Nat.zero_add] at hr hge
  have hcs:(([]:List Value).toArray ++ cs.toList.toArray ++ Builtin.zeroCells (Value.agg zQ).cells (cap - m)) = cs ++ Builtin.zeroCells zQ (cap - m):=by simp [Value.cells]
  rw [hcs] at hr
  have hb:Below w.heap.size w (w.drew.alloc (.cells (cs ++ Builtin.zeroCells zQ (cap - m)) 42)):=(rfB.drew).alloc lR _
  have hx:=Ext.of_below hb
  refine ⟨_,w.heap.size,cap,hr,hb.mono (Nat.le_of_lt helt),.inr rfl,hge,_,heap_alloc_new w.drew _,?_,one_app h3 (one_sub zQ_one (zero_sub zQ dE _)),fun j hj=>?_⟩
  ·simp [size_zeroCells,h2,zQ]; omega
  ·show El _ _ (5 * j) (j < m) (F j)
   by_cases hjm:j < m
   ·refine El.to (cs:=cs) (o:=5 * j) (h4 j hjm) hx (fun _=>trivial) fun r hr=>?_
    rw [Array.getElem?_append_left oM]
   ·refine El.to (cs:=Builtin.zeroCells zQ (cap - m)) (o:=5 * (j - m)) (V:=False) (El.nil w _ _ _ fun r hr=>zero_at _ _ r oM hr) hx (fun h=>hjm h) fun r hr=>?_
    rw [Array.getElem?_append_right oM,h2,show 5 * j + r - 5 * m = 5 * (j - m) + r by omega]
end Go.Proofs.YtffegeaflohfhaaGreatDoor
