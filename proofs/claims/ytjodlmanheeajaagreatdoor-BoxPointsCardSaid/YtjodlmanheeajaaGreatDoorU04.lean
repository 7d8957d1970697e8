import Derived.Test.YtjodlmanheeajaaGreatDoorR12
import Derived.Test.YtjodlmanheeajaaGreatDoorR13
import Derived.Test.YtjodlmanheeajaaGreatDoorU01
import Derived.Test.YtjodlmanheeajaaGreatDoorR27
import Derived.Test.YtjodlmanheeajaaGreatDoorR36
import Derived.Test.YtjodlmanheeajaaGreatDoorR38
import Derived.Test.YtjodlmanheeajaaGreatDoorU02
import Derived.Test.YtjodlmanheeajaaGreatDoorR22
import Derived.Test.YtjodlmanheeajaaGreatDoorR40
import Derived.Test.YtjodlmanheeajaaGreatDoorR02
set_option linter.unusedVariables false
set_option linter.unusedSimpArgs false
set_option maxRecDepth 100000
set_option maxHeartbeats 8000000
namespace Go.Proofs.YtjodlmanheeajaaGreatDoor
open Go.RowKit
section
variable {P:Program} {ops:Array Oper} {a0:Act}
end
section
variable {P:Program} {ops:Array Oper} {a0:Act}
end
section
variable {P:Program} {ops:Array Oper} {kl:List RK} {B:Nat} {w0:World} {a0:Act} {o:Oper} {i:Nat} {p:Value -> World -> Prop}
theorem pg {q:Value -> World -> Prop} {ts:Nat -> Value} {W:World} (j:Nat) (h:∀ j,predB ops i j = true -> PAt kl ts W j) (hk:rk kl j = .val q:=by rfl) (hj:predB ops i j = true:=by kernel_rfl):q (ts j) W:=(h j hj).of hk
theorem Kn.at (j:Nat) {s:Nat} (hs:∀ ts,slot ops a0 ts s = ts j:=by intro ts; kernel_rfl):Kn ops kl a0 i (.tmp s) (fun ts=>ts j):=fun ts _ _ ha _=>(ha s).trans (hs ts)
theorem uC1 {f:FuncId} {tys:Array TypeId} {x:Operand} {u:(Nat -> Value) -> Value} (ho:o.op = .call ⟨.value (.func f),#[x],tys⟩) (hx:Kn ops kl a0 i x u)
  (con:∀ ts W,Below B w0 W -> (∀ j,predB ops i j = true -> PAt kl ts W j) -> Calls P f #[u ts] W fun e w'=>∃ v,e = .returned v /\ p v w' /\ Below W.heap.size W w')
  (hf:∀ w a,(invoke (.fn (.func f) #[]) #[a]).run P w = .ok (.enter f #[a]) w:=by intro w a; kernel_rfl):ObU P ops kl B w0 a0 o i p :=
 fun ts W a ha hb hB hp K hK=>⟨wp_callf ho (xs:=#[u ts]) (by simp [hx ts W a ha hp]) (fun w=>hf w _) ((con ts W hb hp).mono fun e w' ⟨v,h1,h2,h3⟩=>⟨v,h1,hK v w' h2 h3⟩)⟩
end
section
variable {P:Program} {ops:Array Oper} {kl:List RK} {B:Nat} {w0:World} {a0:Act} {o:Oper} {i:Nat} {p:Value -> World -> Prop}
theorem region_lastA {id:Nat} {dr:Bool} {w:World} {Q:Exit -> Act -> World -> Prop} (kl:List RK) (fl:(Nat -> Value) -> Array Value) (hfl:∀ ts,fillT ts ops.toList 0 a0.tmps = fl ts) (hm:P.follows .mixedOrders = true) (hb:backB ops = true) (hd:dstB ops a0.tmps.size = true) (hl:looksB ops = true) (hkd:kindB ops kl = true)
  (hst:stabs (hasPut kl) kl) (hlen:kl.length + 1 = ops.size) {ol:Oper} (hol:ops.toList[kl.length]? = some ol) (hlast:(ol.dst.isNone && ol.guard.isNone && (List.range kl.length).all (predB ops kl.length)) = true)
  (hob:AllObA P ops kl w.heap.size w a0 (ops.toList.take kl.length) kl 0)
  (fin:∀ (ts:Nat -> Value) (W:World) (a:Act),(∀ t,a.eval (.tmp t) = slot ops a0 ts t) -> Below w.heap.size w W -> (∀ i,i < kl.length -> Held kl w.heap.size ts (fun _=>true) W i) ->
   ∀ K:World -> Prop,(∀ W',Q .normal ⟨fl ts,a0.defers⟩ W' -> K W') -> Goes (Oper.wp P ol a W (fun a' W'=>a'.defers = a.defers /\ K W') (fun _ _ _=>False))) :
  (Code.region id ops dr).wp P Q a0 w:=by
 obtain rfl:fl = fun ts=>fillT ts ops.toList 0 a0.tmps:=funext fun ts=>(hfl ts).symm
 have hdn:ol.dst = none:=by
  simp only [Bool.and_eq_true] at hlast
  simpa using hlast.1.1
 refine region_last kl hm hb hd hl hkd hst hlen hol hlast (AllObA.all hd _ _ _ hob) fun ts W hbW hh _ K hK=>?_
 have h:=(fin ts W ⟨fillT ts ops.toList 0 a0.tmps,a0.defers⟩ (fun t=>fill_slot hd ts t) hbW hh (fun W'=>K ⟨fillT ts ops.toList 0 a0.tmps,a0.defers⟩ W') fun W' hq=>hK _ _ hq).out
 exact ⟨wp_transfer0 (k:=fun W'=>K ⟨fillT ts ops.toList 0 a0.tmps,a0.defers⟩ W') rfl hdn h fun W' hk=>hk⟩
end
end Go.Proofs.YtjodlmanheeajaaGreatDoor
namespace Go.Proofs.YtjodlmanheeajaaGreatDoor
open Go.RowKit
theorem lo_any (p q r s:Nat) (w:World):Calls Tryz.prog 50 #[.agg #[.float .f64 p,.float .f64 q,.float .f64 r,.float .f64 s]] w fun e w'=>e = .returned (.complex .f64 p r) /\ Below w.heap.size w w':=by
 have hfb:=floatbits_run
 have hsf:=store_float
 go_enter Tryz.func50,Tryz.ntmps50
 go_wp2
 go_ret
 exact ⟨rfl,(bT (Below.refl w.heap.size w) (below_alloc _ _))⟩
theorem hi_any (p q r s:Nat) (w:World):Calls Tryz.prog 51 #[.agg #[.float .f64 p,.float .f64 q,.float .f64 r,.float .f64 s]] w fun e w'=>e = .returned (.complex .f64 q s) /\ Below w.heap.size w w':=by
 have hfb:=floatbits_run
 have hsf:=store_float
 go_enter Tryz.func51,Tryz.ntmps51
 go_wp2
 go_ret
 exact ⟨rfl,(bT (Below.refl w.heap.size w) (below_alloc _ _))⟩
end Go.Proofs.YtjodlmanheeajaaGreatDoor
namespace Go.Proofs.YtjodlmanheeajaaGreatDoor
end Go.Proofs.YtjodlmanheeajaaGreatDoor
namespace Go.Proofs.YtjodlmanheeajaaGreatDoor
open Go.RowKit
end Go.Proofs.YtjodlmanheeajaaGreatDoor
namespace Go.Proofs.YtjodlmanheeajaaGreatDoor
section
variable {s t u:Sp}
theorem Sp.in_self (hs:s.Ok):s.within s = true:=by
 rw [Sp.within_eq hs hs]
 exact decide_eq_true ⟨Int.le_refl _,Int.le_refl _⟩
end
section
variable {a b c:Bx}
end
end Go.Proofs.YtjodlmanheeajaaGreatDoor
