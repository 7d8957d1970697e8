import Derived.Test.YtffegeaflohfhaaGreatDoorT31
import Derived.Test.YtffegeaflohfhaaGreatDoorS39
import Derived.Test.YtffegeaflohfhaaGreatDoorT42
import Derived.Test.YtffegeaflohfhaaGreatDoorS02
set_option linter.unusedVariables false
set_option linter.unusedSimpArgs false
set_option maxRecDepth 100000
set_option maxHeartbeats 8000000
namespace Go.Proofs.YtffegeaflohfhaaGreatDoor
open Go.RowKit
def Sqr (n:Nat) (ml:Nat -> Nat):Prop:=Vld n ml /\ n = colsOf n ml
def RetB (w:World) (p:Prop) (e:Ending) (w':World):Prop:=∃ b:Bool,e = .returned (.bool b) /\ (b = true ↔ p) /\ Below w.heap.size w w'
def RetNo (w:World) (k:Int) (e:Ending) (w':World):Prop:=e = .returned (.tuple #[.slice none 0 0,.int .i64 k]) /\ Below w.heap.size w w'
theorem squareN_all (w:World) (v:Value) (n:Nat) (ml:Nat -> Nat) (F:Nat -> Nat -> Cx) (h:NSS w v n ml F) (hn:n <= 1099511627776) (hml:∀ i,i < n -> ml i <= 1099511627776) :
  Calls Tryz.prog 43 #[v] w (RetB w (Sqr n ml)):=by
 have HV:=hid (sidesN_all w v n ml F h hn hml)
 obtain ⟨A,c,rfl,-⟩:=h
 clear hml
 go_enter Tryz.func43,Tryz.ntmps43
 go_wp2_with fail
 refine HV.out.mono ?_
 rintro e W2 ⟨r,cc,b,rfl,hb1,hb2,hb3⟩
 have X1:=hid hb1
 have X2:=hid hb2
 have X3:=hid hb3
 clear hb1 hb2 hb3 HV
 cases b
 ·go_wp2
  go_ret
  exact ⟨false,rfl,⟨fun h=>absurd h sP,fun h=>X1.out.2 h.1⟩,X3.out⟩
 ·go_wp2
  go_ret
  refine ⟨_,rfl,?_,X3.out⟩
  obtain ⟨e1,e2⟩:=X2.out (by trivial)
  have hv:=X1.out.1 (by trivial)
  have:Sqr n ml ↔ r = cc:=⟨fun h=>by rw [e1,e2]; exact h.2,fun h=>⟨hv,by rw [<- e2,<- h]; exact e1.symm⟩⟩
  rw [this]
  simp
  try omega
end Go.Proofs.YtffegeaflohfhaaGreatDoor
