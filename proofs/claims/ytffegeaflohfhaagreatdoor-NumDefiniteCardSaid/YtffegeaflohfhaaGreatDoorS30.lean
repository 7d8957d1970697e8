import Derived.Below
import Derived.Carry
import Derived.ChangeSame
import Derived.Deep.Slices
import Derived.LaidMore
import Derived.Laws.CopyOwn
import Derived.Laws.CopyRow
import Derived.Lib.SmallJoins
import Derived.OpenShut
import Derived.ProofKit
import Derived.SevenTiedAt
import Derived.Stop.Joined
import Derived.Test.YtffegeaflohfhaaGreatDoorCards
import Derived.Test.YtffegeaflohfhaaGreatDoorRows
import Derived.Test.YtffegeaflohfhaaGreatDoorTie
import Derived.Test.YtffegeaflohfhaaGreatDoorS04
import Derived.Test.YtffegeaflohfhaaGreatDoorS13
import Derived.Test.YtffegeaflohfhaaGreatDoorS02
set_option linter.unusedVariables false
set_option linter.unusedSimpArgs false
set_option maxRecDepth 100000
set_option maxHeartbeats 8000000
namespace Go.Proofs.YtffegeaflohfhaaGreatDoor
open Go.RowKit
def RatS (W:World) (A:Option Addr) (len:Nat) (f:Nat -> Int × Int × Int):Prop:=0 < len -> ∃ b off,A = some ⟨b,off,none⟩ /\ b < W.heap.size /\
 (∀ j,j < len -> W.cell? ⟨b,off + 3 * j,none⟩ = some (.int .i64 (f j).1) /\ W.cell? ⟨b,off + 3 * j + 1,none⟩ = some (.int .i64 (f j).2.1) /\ W.cell? ⟨b,off + 3 * j + 2,none⟩ = some (.int .i64 (f j).2.2))
def Rat64 (f:Nat -> Int × Int × Int):Prop:=∀ j,(-9223372036854775808 <= (f j).1 /\ (f j).1 < 9223372036854775808) /\ (-9223372036854775808 <= (f j).2.1 /\ (f j).2.1 < 9223372036854775808) /\ (-9223372036854775808 <= (f j).2.2 /\ (f j).2.2 < 9223372036854775808)
theorem RatS.below {W W':World} {A:Option Addr} {len:Nat} {f:Nat -> Int × Int × Int} (h:RatS W A len f) (hb:Below W.heap.size W W'):RatS W' A len f:=fun hl=>by
 obtain ⟨b,off,hA,hlt,hc⟩:=h hl
 refine ⟨b,off,hA,lL hlt hb.size,fun j hj=>?_⟩
 obtain ⟨c0,c1,c2⟩:=hc j hj
 exact ⟨(hb.cell (p:=⟨b,_,none⟩) hlt).trans c0,(hb.cell (p:=⟨b,_,none⟩) hlt).trans c1,(hb.cell (p:=⟨b,_,none⟩) hlt).trans c2⟩
theorem wp_load_rat {o:Oper} {a:Act} {w:World} {K:Act -> World -> Prop} {Q:Exit -> Act -> World -> Prop} {x:Operand} (ho:o.op = .load 76 x) {b i:Nat} (hx:a.eval x = .pointer (some ⟨b,i,none⟩)) {r s t:Int}
  (h0:w.cell? ⟨b,i,none⟩ = some (.int .i64 r)) (h1:w.cell? ⟨b,i + 1,none⟩ = some (.int .i64 s)) (h2:w.cell? ⟨b,i + 2,none⟩ = some (.int .i64 t))
  (hK:K (a.put o.dst (.agg #[.int .i64 r,.int .i64 s,.int .i64 t])) w):o.wp Tryz.prog a w K Q:=by
 have hl:=run_loadCells_list (P:=Tryz.prog) (w:=w) ⟨b,i,none⟩ [.int .i64 r,.int .i64 s,.int .i64 t] (fun j v hv=>by
  have hadd:(⟨b,i,none⟩:Addr).add j = ⟨b,i + j,none⟩:=by unfold Addr.add; split <;> simp_all
  rw [hadd]
  match j,hv with
  | 0,hv=>simp at hv; rw [<- hv]; exact h0
  | 1,hv=>simp at hv; rw [<- hv]; exact h1
  | 2,hv=>simp at hv; rw [<- hv]; exact h2
  | j + 3,hv=>simp at hv)
 have hinfo:(Tryz.prog.info? 76).map (·.size) = some 3:=kR
 cases hq:Tryz.prog.info? 76 with
 | none=>rw [hq] at hinfo; cases hinfo
 | some i' =>
  have hs:i'.size = 3:=by rw [hq] at hinfo; simpa using hinfo
  have hagg:(isAgg 76).run Tryz.prog w = .ok true w:=by
   unfold isAgg
   rw [Sem.run_bind,run_underlying Tryz.underlying76 w]
   rfl
  have hlv:(loadVar 76 ⟨b,i,none⟩).run Tryz.prog w = .ok (.agg #[.int .i64 r,.int .i64 s,.int .i64 t]) w:=by
   simp only [List.length_cons,List.length_nil] at hl
   simp [loadVar,Sem.run_bind,hagg,sizeOf,typeInfo,hq,hs,hl]
  unfold Oper.wp execOp
  simp only [ho,hx,Instr.loadAt,Instr.sureAddr,Sem.run_bind,Sem.run_pure,Result.andThen_ok,hlv]
  exact hK
theorem RatS.cells {W:World} {b off len:Nat} {f:Nat -> Int × Int × Int} (h:RatS W (some ⟨b,off,none⟩) len f) {j:Nat} (hj:j < len) :
  W.cell? ⟨b,off + 3 * j,none⟩ = some (.int .i64 (f j).1) /\ W.cell? ⟨b,off + 3 * j + 1,none⟩ = some (.int .i64 (f j).2.1) /\ W.cell? ⟨b,off + 3 * j + 2,none⟩ = some (.int .i64 (f j).2.2):=by
 obtain ⟨b',off',e,-,hc⟩:=h oM
 injection e with e
 injection e with e1 e2
 subst e1; subst e2
 exact hc j hj
end Go.Proofs.YtffegeaflohfhaaGreatDoor
namespace Go.Proofs.YtffegeaflohfhaaGreatDoor
open Go Go.ChangeShapes Go.WideShapes Go.ChangeAt Go.WideMaps Go.WideElems Go.RowKit Go.Joins
theorem own_knob:ownKnob Tryz.prog.godebug = none:=kR
theorem prog_laid:laidOutB Tryz.prog = true:=kR
section
variable {H:Type} {enc:TypeId × Value -> H}
theorem trodAll_stays {sp:Nat -> Bool} {W W':World} (hb:Below W.heap.size W W'):∀ {ts:List TypeId} {vs:List Value} {ds:List (DataW H)} {p:List MemPlace},
  (ts.all fun t=>Tryz.prog.readableRec t && decide (t < Tryz.prog.types.size)) = true -> DataW.TrodAll enc Tryz.prog W 0 (fun _=>true) true ts vs ds p -> (∀ x ∈ p,x.block < W.heap.size) -> (∀ x ∈ p,sp x.block = true) ->
  DataW.TrodAll enc Tryz.prog W' 0 sp true ts vs ds p:=by
 intro ts
 induction ts with
 | nil =>
  intro vs ds p _ h _ _
  obtain ⟨rfl,rfl,rfl⟩:=trodAll_nil h
  exact rfl
 | cons t ts ih =>
  intro vs ds p ht h hp hs
  obtain ⟨v,vs',d,ds',q,r,rfl,rfl,rfl,h1,h2⟩:=trodAll_cons h
  simp only [List.all_cons,Bool.and_eq_true,decide_eq_true_eq] at ht
  obtain ⟨⟨t1,t2⟩,t3⟩:=ht
  exact ⟨q,r,WideElems.Trod_stays prog_laid t1 t2 h1 (fun x hx=>hb.same (hp x (List.mem_append_left _ hx))) (fun x hx=>hs x (List.mem_append_left _ hx)),ih t3 h2 (fun x hx=>hp x (List.mem_append_right _ hx)) (fun x hx=>hs x (List.mem_append_right _ hx)),rfl⟩
theorem law_post {s:ChangeSpec} {fn:Func} {apart fresh handsOn again:Bool} {W W':World} {args:Array Value} {ds gs:List (DataW H)} {before:List MemPlace} (hv:s.vars = []) (hr:fn.resultTypes = #[4])
  (ht:(fn.params.toList.all fun t=>Tryz.prog.readableRec t && decide (t < Tryz.prog.types.size)) = true)
  (hfn:(s.fn H (ds ++ gs)).results = [.lit (.bool true)] /\ (s.fn H (ds ++ gs)).args = ds /\ (s.fn H (ds ++ gs)).vars = [])
  (hW:DataW.Whole enc Tryz.prog fn.params.toList s.vars apart W args.toList ds gs before) (hb:Below W.heap.size W W'):s.post enc Tryz.prog fn apart fresh handsOn again W args (.bool true) W':=by
 have hlt:∀ p ∈ before,p.block < W.heap.size:=fun p hp=>hW.lt p hp
 have hWW:=hW
 obtain ⟨p,q,hA,hV,rfl,hfz,hnd⟩:=hW
 rw [hv] at hV
 obtain ⟨rfl,rfl⟩:=trodVars_none hV
 rw [List.append_nil] at *
 obtain ⟨f1,f2,f3⟩:=hfn
 have hres:∀ (b:Nat) (sp:Nat -> Bool) (hd:Bool),DataW.TrodAll enc Tryz.prog W' b sp hd fn.resultTypes.toList ((Value.bool true).resultList fn.resultTypes.size) [.lit (.bool true)] []:=fun b sp hd=>by
  rw [hr]
  exact trodAll_mk1 (shut_bool Tryz.underlying4 _)
 have hstay:=fun (sp:Nat -> Bool) (hs:∀ x ∈ p,sp x.block = true)=>trodAll_stays (sp:=sp) hb ht hA hlt hs
 refine ⟨ds,[],p,[],p,[],by simpa using hWW,?_,?_,?_,?_,fun _=>⟨?_,?_⟩⟩
 ·rw [List.append_nil,f1]; exact hres _ _ _
 ·rw [List.append_nil,f2]; exact hstay _ fun x hx=>by simpa using hlt x hx
 ·rw [List.append_nil,f3,hv]; exact rfl
 ·exact World.keptBut_mono (fun x hx=>⟨hx,.inr (.inl hx)⟩) (hb.frame (· ∈ p))
 ·exact ok_one hr rfl (okWide_bool_mk Tryz.underlying4 _)
 ·refine ⟨[.lit (.bool true)] ++ ds,[],[] ++ p,⟨[] ++ p,[],trodAll_append (hstay _ fun _ _=>rfl) (hres _ _ _),by rw [hv]; exact rfl,sP,?_,?_⟩,fun x hx _=>by simpa using hx⟩
  ·intro b off hp
   have hin:MemPlace.cell b off ∈ p:=by simpa using hp
   rw [hb.frozen (hlt _ hin)]
   exact hfz b off hin
  ·intro ha
   simpa using hnd ha
end
theorem tab_named:Tryz.prog.globalNamed "math/bits.deBruijn32tab" = some 1:=kR
theorem tab_type:(Tryz.prog.globals[1]?).map (·.type) = some 184:=kR
theorem tab_cells8:Tryz.prog.cellsOf 5 = 1:=kR
theorem tab_of_laid {W:World} (h:laidMetH Tryz.prog [("math/bits.deBruijn32tab",Rows.laid_math_bits_deBruijn32tab)] W):Tab W:=by
 rw [MakeChecks.laidMetH_plain _ _ _ kR] at h
 obtain ⟨ps,⟨g0,t0,cs0,f0,p0,q0,hg0,ht0,hv0,hd0,-⟩,-,-⟩:=h
 obtain rfl:=Option.some.inj (tab_named.symm.trans hg0)
 obtain rfl:=Option.some.inj (tab_type.symm.trans ht0)
 obtain ⟨xs,m1,rfl,hx1,hlen,hn,hel⟩:=DataW.trod_array Tryz.underlying184 hd0
 rw [tab_cells8] at hel
 have hcell:∀ k,W.cell? ⟨1,k,none⟩ = cs0[k]?:=fun k=>World.var?_cell tab_named hv0 k
 have hx2:=(Prod.mk.injEq _ _ _ _).mp hx1
 have hx3:=hx2.1
 unfold Rows.laid_math_bits_deBruijn32tab at hx3
 injection hx3 with hx3
 have key:∀ k,k < 32 -> cs0[k]? = some (.int .u8 ((Lib.deBruijn32tab.getD k 0:Nat):Int)):=fun k hk=>by
  have h0:=hel k hk
  have hxk:xs[k]? = some xs[k]:=List.getElem?_eq_getElem oM
  rw [hxk] at h0
  obtain ⟨n,e1,e2,-⟩:=DataW.trod_int Tryz.underlying5 h0
  have e3:(xs.map (·.1))[k]? = some (.lit (.int .u8 n)):=by rw [List.getElem?_map,hxk,Option.map_some,e2]
  rw [<- hx3] at e3
  have e4:cs0[k]? = some (.int .u8 n):=by
   have:(cs0.toList.drop (k * 1))[0]? = some (.int .u8 n):=by
    have h5:((cs0.toList.drop (k * 1)).take 1)[0]? = some (.int .u8 n):=by rw [e1]; rfl
    rwa [List.getElem?_take_of_lt oM] at h5
   simpa using this
  rw [e4]
  have e5:∀ k,k < 32 -> ∀ n:Int,([DataW.lit (.int .u8 0),.lit (.int .u8 1),.lit (.int .u8 28),.lit (.int .u8 2),.lit (.int .u8 29),.lit (.int .u8 14),.lit (.int .u8 24),.lit (.int .u8 3),.lit (.int .u8 30),.lit (.int .u8 22),.lit (.int .u8 20),.lit (.int .u8 15),.lit (.int .u8 25),.lit (.int .u8 17),.lit (.int .u8 4),.lit (.int .u8 8),.lit (.int .u8 31),.lit (.int .u8 27),.lit (.int .u8 13),.lit (.int .u8 23),.lit (.int .u8 21),.lit (.int .u8 19),.lit (.int .u8 16),.lit (.int .u8 7),.lit (.int .u8 26),.lit (.int .u8 12),.lit (.int .u8 18),.lit (.int .u8 6),.lit (.int .u8 11),.lit (.int .u8 5),.lit (.int .u8 10),.lit (.int .u8 9)]:List (DataW Unit))[k]? = some (.lit (.int .u8 n)) -> n = ((Lib.deBruijn32tab.getD k 0:Nat):Int):=by
   intro k hk n h
   match k,hk with
   | 0,_ | 1,_ | 2,_ | 3,_ | 4,_ | 5,_ | 6,_ | 7,_ | 8,_ | 9,_ | 10,_ | 11,_ | 12,_ | 13,_ | 14,_ | 15,_ | 16,_ | 17,_ | 18,_ | 19,_ | 20,_ | 21,_ | 22,_ | 23,_ | 24,_ | 25,_ | 26,_ | 27,_ | 28,_ | 29,_ | 30,_ | 31,_=>simp at h; rw [<- h]; rfl
   | k + 32,hk=>omega
  rw [e5 k hk n e3]
 refine ⟨?_,fun k hk=>(hcell k).trans (key k hk)⟩
 have h0:=(hcell 0).trans (key 0 oM)
 exact World.block_lt_of_cell? W ⟨1,0,none⟩ h0
theorem door_met (os:Os) (args:Array Value):laidMetH Tryz.prog [("math/bits.deBruijn32tab",Rows.laid_math_bits_deBruijn32tab)] ((World.doorLaid Tryz.prog 400 os).forCall (fun _ _=>0) ⟨#[],args,[]⟩).memory :=
 laidMetH_of_parts3 (fuel:=8) (laidMet_of_run' 8 kR kR) kR kR
theorem i64_bounds {n:Int} (hw:(Lit.int .i64 n).wf = true):-9223372036854775808 <= n /\ n < 9223372036854775808:=by
 have hw':(decide (IntKind.i64.min <= n) && decide (n <= IntKind.i64.max)) = true:=hw
 simp only [Bool.and_eq_true] at hw'
 have e1:IntKind.i64.min = -9223372036854775808:=dE
 have e2:IntKind.i64.max = 9223372036854775807:=dE
 have h1:=of_decide_eq_true hw'.1
 have h2:=of_decide_eq_true hw'.2
 omega
section
variable {H:Type} {enc:TypeId × Value -> H} {W:World} {base b0:Nat} {v:Value} {d:DataW H} {p:List MemPlace}
theorem zero64:(-9223372036854775808 <= (0:Int) /\ (0:Int) < 9223372036854775808) /\ (-9223372036854775808 <= (0:Int) /\ (0:Int) < 9223372036854775808) /\ (-9223372036854775808 <= (0:Int) /\ (0:Int) < 9223372036854775808):=dE
theorem ratio_size:Tryz.prog.cellsOf 76 = 3:=kR
theorem int_size:Tryz.prog.cellsOf 2 = 1:=kR
theorem open_ratioc {fuel:Nat} {cs:List Value} {x:DataW H × List MemPlace} (hf:DataW.trod enc Tryz.prog W base (fun _=>true) true fuel 23 cs = some x) :
  ∃ A len cap f,cs = [.slice A len cap] /\ len <= 9223372036854775807 /\ RatS W A len f /\ Rat64 f:=by
 rcases Go.Deep.open_slice Tryz.underlying23 hf with ⟨hcs,-⟩ | ⟨a,len,cap,m,n,D,Pl,hcs,-,hl,hm,hmm,-,hi⟩
 ·exact ⟨none,0,0,fun _=>(0,0,0),hcs,oM,fun h=>absurd h oM,fun _=>zero64⟩
 ·subst hcs
  have hmx:cap <= 9223372036854775807:=by
   have:maxLen = 9223372036854775807:=dE
   omega
  have hlm:len <= m:=by rw [hmm]; simp; exact hl
  have el:∀ j,j < len -> ∃ r s t:Int,W.cell? (a.add (3 * j)) = some (.int .i64 r) /\ W.cell? (a.add (3 * j + 1)) = some (.int .i64 s) /\ W.cell? (a.add (3 * j + 2)) = some (.int .i64 t) /\
    (-9223372036854775808 <= r /\ r < 9223372036854775808) /\ (-9223372036854775808 <= s /\ s < 9223372036854775808) /\ (-9223372036854775808 <= t /\ t < 9223372036854775808):=fun j hj=>by
   obtain ⟨cs,hc,ht⟩:=hi j oM
   rw [ratio_size] at hc
   obtain ⟨-,hlen,hat⟩:=World.cells?_some hc
   obtain ⟨y0,y1,y2,n',-,-,t0,t1,t2⟩:=Go.Deep.trod_struct3 Tryz.underlying76 ht
   match cs,hlen with
   | [c0,c1,c2],_ =>
    have u0:DataW.trod enc Tryz.prog W base (fun _=>true) true n' 2 [c0] = some y0:=by simpa [int_size] using t0
    have u1:DataW.trod enc Tryz.prog W base (fun _=>true) true n' 2 [c1] = some y1:=by simpa [int_size] using t1
    have u2:DataW.trod enc Tryz.prog W base (fun _=>true) true n' 2 [c2] = some y2:=by simpa [int_size] using t2
    obtain ⟨n0,e0,-,w0⟩:=DataW.trod_int Tryz.underlying2 u0
    obtain ⟨n1,e1,-,w1⟩:=DataW.trod_int Tryz.underlying2 u1
    obtain ⟨n2,e2,-,w2⟩:=DataW.trod_int Tryz.underlying2 u2
    simp at e0 e1 e2
    subst e0 e1 e2
    have k0:=hat 0 oM
    have k1:=hat 1 oM
    have k2:=hat 2 oM
    rw [Go.Deep.add_add,Nat.mul_comm j 3] at k0 k1 k2
    exact ⟨n0,n1,n2,k0,k1,k2,i64_bounds w0,i64_bounds w1,i64_bounds w2⟩
  let f:Nat -> Int × Int × Int:=fun j=>if hj:j < len then (Classical.choose (el j hj),Classical.choose (Classical.choose_spec (el j hj)),Classical.choose (Classical.choose_spec (Classical.choose_spec (el j hj)))) else (0,0,0)
  have hf':∀ j,j < len -> W.cell? (a.add (3 * j)) = some (.int .i64 (f j).1) /\ W.cell? (a.add (3 * j + 1)) = some (.int .i64 (f j).2.1) /\ W.cell? (a.add (3 * j + 2)) = some (.int .i64 (f j).2.2) /\
    (-9223372036854775808 <= (f j).1 /\ (f j).1 < 9223372036854775808) /\ (-9223372036854775808 <= (f j).2.1 /\ (f j).2.1 < 9223372036854775808) /\ (-9223372036854775808 <= (f j).2.2 /\ (f j).2.2 < 9223372036854775808):=fun j hj=>by
   have hs:=Classical.choose_spec (Classical.choose_spec (Classical.choose_spec (el j hj)))
   simp only [f,dif_pos hj]
   exact hs
  refine ⟨some a,len,cap,f,rfl,oM,fun h0=>?_,fun j=>?_⟩
  ·obtain ⟨b,off,spot⟩:=a
   have g0:=(hf' 0 h0).1
   have hspot:spot = none:=by simpa [Addr.add] using World.cell?_spot g0
   subst hspot
   have hadd:∀ k,(⟨b,off,none⟩:Addr).add k = ⟨b,off + k,none⟩:=fun k=>by unfold Addr.add; split <;> simp_all
   refine ⟨b,off,rfl,?_,fun j hj=>?_⟩
   ·have:=World.block_lt_of_cell? W _ g0
    simpa [Addr.add] using this
   ·obtain ⟨k0,k1,k2,-⟩:=hf' j hj
    rw [hadd] at k0 k1 k2
    exact ⟨k0,k1,k2⟩
  ·by_cases hj:j < len
   ·obtain ⟨-,-,-,h1,h2,h3⟩:=hf' j hj
    exact ⟨h1,h2,h3⟩
   ·have e:f j = (0,0,0):=by simp only [f,dif_neg hj]
    rw [e]
    exact zero64
theorem open_ratios (hv:Value.okWide Tryz.prog W .any b0 23 v) (h:DataW.Trod enc Tryz.prog W base (fun _=>true) true 23 v d p) :
  ∃ A len cap f,v = .slice A len cap /\ len <= 9223372036854775807 /\ RatS W A len f /\ Rat64 f:=by
 obtain ⟨A,len,cap,rfl⟩:=okWide_slice Tryz.underlying23 hv
 obtain ⟨fuel,hf⟩:=h
 obtain ⟨A',len',cap',f,hcs,h1,h2,h3⟩:=open_ratioc hf
 simp [Value.cells] at hcs
 obtain ⟨rfl,rfl,rfl⟩:=hcs
 exact ⟨_,_,_,f,rfl,h1,h2,h3⟩
end
end Go.Proofs.YtffegeaflohfhaaGreatDoor
