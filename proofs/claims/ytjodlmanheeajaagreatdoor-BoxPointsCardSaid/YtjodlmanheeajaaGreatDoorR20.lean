import Derived.Below
import Derived.Carry
import Derived.ChangeSame
import Derived.LaidMore
import Derived.Lib.SmallJoins
import Derived.OpenShut
import Derived.ProofKit
import Derived.SevenTiedAt
import Derived.Stop.Joined
import Derived.Test.YtjodlmanheeajaaGreatDoorCards
import Derived.Test.YtjodlmanheeajaaGreatDoorRows
import Derived.Test.YtjodlmanheeajaaGreatDoorTie
import Derived.Test.YtjodlmanheeajaaGreatDoorR04
import Derived.Test.YtjodlmanheeajaaGreatDoorR02
set_option linter.unusedVariables false
set_option linter.unusedSimpArgs false
set_option maxRecDepth 100000
set_option maxHeartbeats 8000000
namespace Go.Proofs.YtjodlmanheeajaaGreatDoor
open Go Go.ChangeShapes Go.WideShapes Go.ChangeAt Go.WideMaps Go.WideElems Go.RowKit Go.Joins
theorem own_knob:ownKnob Tryz.prog.godebug = none:=kR
theorem prog_laid:laidOutB Tryz.prog = true:=kR
section
variable {H:Type} {enc:TypeId × Value -> H}
theorem trodAll_stays {sp:Nat -> Bool} {W W':World} (hb:Below W.heap.size W W'):∀ {ts:List TypeId} {vs:List Value} {ds:List (DataW H)} {p:List MemPlace},
  (ts.all fun t=>Tryz.prog.readableRec t && decide (t < Tryz.prog.types.size)) = true -> DataW.TrodAll enc Tryz.prog W 0 (fun _=>true) true ts vs ds p -> (∀ x ∈ p,x.block < W.heap.size) -> (∀ x ∈ p,sp x.block = true) ->
  DataW.TrodAll enc Tryz.prog W' 0 sp true ts vs ds p:=by
 intro ts
 induction ts with
 | nil =>
  intro vs ds p _ h _ _
  obtain ⟨rfl,rfl,rfl⟩:=trodAll_nil h
  exact rfl
 | cons t ts ih =>
  intro vs ds p ht h hp hs
  obtain ⟨v,vs',d,ds',q,r,rfl,rfl,rfl,h1,h2⟩:=trodAll_cons h
  simp only [List.all_cons,Bool.and_eq_true,decide_eq_true_eq] at ht
  obtain ⟨⟨t1,t2⟩,t3⟩:=ht
  exact ⟨q,r,WideElems.Trod_stays prog_laid t1 t2 h1 (fun x hx=>hb.same (hp x (List.mem_append_left _ hx))) (fun x hx=>hs x (List.mem_append_left _ hx)),ih t3 h2 (fun x hx=>hp x (List.mem_append_right _ hx)) (fun x hx=>hs x (List.mem_append_right _ hx)),rfl⟩
theorem law_post {s:ChangeSpec} {fn:Func} {apart fresh handsOn again:Bool} {W W':World} {args:Array Value} {ds gs:List (DataW H)} {before:List MemPlace} (hv:s.vars = []) (hr:fn.resultTypes = #[4])
  (ht:(fn.params.toList.all fun t=>Tryz.prog.readableRec t && decide (t < Tryz.prog.types.size)) = true)
  (hfn:(s.fn H (ds ++ gs)).results = [.lit (.bool true)] /\ (s.fn H (ds ++ gs)).args = ds /\ (s.fn H (ds ++ gs)).vars = [])
  (hW:DataW.Whole enc Tryz.prog fn.params.toList s.vars apart W args.toList ds gs before) (hb:Below W.heap.size W W'):s.post enc Tryz.prog fn apart fresh handsOn again W args (.bool true) W':=by
 have hlt:∀ p ∈ before,p.block < W.heap.size:=fun p hp=>hW.lt p hp
 have hWW:=hW
 obtain ⟨p,q,hA,hV,rfl,hfz,hnd⟩:=hW
 rw [hv] at hV
 obtain ⟨rfl,rfl⟩:=trodVars_none hV
 rw [List.append_nil] at *
 obtain ⟨f1,f2,f3⟩:=hfn
 have hres:∀ (b:Nat) (sp:Nat -> Bool) (hd:Bool),DataW.TrodAll enc Tryz.prog W' b sp hd fn.resultTypes.toList ((Value.bool true).resultList fn.resultTypes.size) [.lit (.bool true)] []:=fun b sp hd=>by
  rw [hr]
  exact trodAll_mk1 (shut_bool Tryz.underlying4 _)
 have hstay:=fun (sp:Nat -> Bool) (hs:∀ x ∈ p,sp x.block = true)=>trodAll_stays (sp:=sp) hb ht hA hlt hs
 refine ⟨ds,[],p,[],p,[],by simpa using hWW,?_,?_,?_,?_,fun _=>⟨?_,?_⟩⟩
 ·rw [List.append_nil,f1]; exact hres _ _ _
 ·rw [List.append_nil,f2]; exact hstay _ fun x hx=>by simpa using hlt x hx
 ·rw [List.append_nil,f3,hv]; exact rfl
 ·exact World.keptBut_mono (fun x hx=>⟨hx,.inr (.inl hx)⟩) (hb.frame (· ∈ p))
 ·exact ok_one hr rfl (okWide_bool_mk Tryz.underlying4 _)
 ·refine ⟨[.lit (.bool true)] ++ ds,[],[] ++ p,⟨[] ++ p,[],trodAll_append (hstay _ fun _ _=>rfl) (hres _ _ _),by rw [hv]; exact rfl,sP,?_,?_⟩,fun x hx _=>by simpa using hx⟩
  ·intro b off hp
   have hin:MemPlace.cell b off ∈ p:=by simpa using hp
   rw [hb.frozen (hlt _ hin)]
   exact hfz b off hin
  ·intro ha
   simpa using hnd ha
end
theorem tab_named:Tryz.prog.globalNamed "math/bits.deBruijn32tab" = some 3:=kR
theorem tab_type:(Tryz.prog.globals[3]?).map (·.type) = some 249:=kR
theorem tab_cells8:Tryz.prog.cellsOf 5 = 1:=kR
end Go.Proofs.YtjodlmanheeajaaGreatDoor
