import Derived.Test.YtjodlmanheeajaaGreatDoorR16
import Derived.Test.YtjodlmanheeajaaGreatDoorR02
set_option linter.unusedVariables false
set_option linter.unusedSimpArgs false
set_option maxRecDepth 100000
set_option maxHeartbeats 8000000
namespace Go.Proofs.YtjodlmanheeajaaGreatDoor
open Go.RowKit
def RetNumE (w:World) (x:Cx) (k:Int) (e:Ending) (w':World):Prop:=∃ v,e = .returned (.tuple #[v,.int .i64 k]) /\ IsNum w' v x /\ Below w.heap.size w w'
theorem RetNumE.box {w W:World} {v:Value} {x:Cx} {k:Int} {g:Nat} (hb:Below w.heap.size w W) (hg:w.heap.size <= g) (hB:NumBox W g) (h:IsNum W v x) (v0 v1 v2 v3 v4:Value) :
  RetNumE w x k (.returned (.tuple #[v,.int .i64 k])) (((((W.setCell ⟨g,0,none⟩ v0).setCell ⟨g,1,none⟩ v1).setCell ⟨g,2,none⟩ v2).setCell ⟨g,3,none⟩ v3).setCell ⟨g,4,none⟩ v4) :=
 ⟨v,rfl,h.box5 hB _ _ _ _ _,below_box5 hb hg _ _ _ _ _⟩
theorem run_load5e {w:World} {g:Nat} (h:NumBox w g) (v0 v1 v2 v3 v4 r:Value) :
  ((Sem.run Tryz.prog (asAddr (Value.pointer (some { block:=g,off:=0 }))) (((((w.setCell ⟨g,0,none⟩ v0).setCell ⟨g,1,none⟩ v1).setCell ⟨g,2,none⟩ v2).setCell ⟨g,3,none⟩ v3).setCell ⟨g,4,none⟩ v4)).andThen
   fun a w'=>(Sem.run Tryz.prog (loadVar 49 a) w').andThen fun a w'=>Result.ok (Value.tuple #[a,r]) w') =
  Result.ok (Value.tuple #[Value.agg #[v0,v1,v2,v3,v4],r]) (((((w.setCell ⟨g,0,none⟩ v0).setCell ⟨g,1,none⟩ v1).setCell ⟨g,2,none⟩ v2).setCell ⟨g,3,none⟩ v3).setCell ⟨g,4,none⟩ v4):=by
 obtain ⟨o0,o1,o2,o3,o4,h0,h1,h2,h3,h4,-⟩:=h
 simp [go_sem,h0,h1,h2,h3,h4]
end Go.Proofs.YtjodlmanheeajaaGreatDoor
