import Derived.Test.YtffegeaflohfhaaGreatDoorS27
import Derived.Test.YtffegeaflohfhaaGreatDoorS30
import Derived.Test.YtffegeaflohfhaaGreatDoorS36
import Derived.Test.YtffegeaflohfhaaGreatDoorS40
import Derived.Test.YtffegeaflohfhaaGreatDoorT42
import Derived.Test.YtffegeaflohfhaaGreatDoorT50
import Derived.Test.YtffegeaflohfhaaGreatDoorS02
set_option linter.unusedVariables false
set_option linter.unusedSimpArgs false
set_option maxRecDepth 100000
set_option maxHeartbeats 8000000
namespace Go.Proofs.YtffegeaflohfhaaGreatDoor
open Go Go.ChangeShapes Go.WideShapes Go.ChangeAt Go.WideMaps Go.WideElems Go.RowKit Go.Joins
theorem list_size:Tryz.prog.cellsOf 23 = 1:=kR
section
variable {H:Type} {enc:TypeId × Value -> H} {W:World} {base b0:Nat} {v:Value} {d:DataW H} {p:List MemPlace}
theorem open_ratioss (hv:Value.okWide Tryz.prog W .any b0 22 v) (h:DataW.Trod enc Tryz.prog W base (fun _=>true) true 22 v d p) :
  ∃ A len cap ml f,v = .slice A len cap /\ len <= 9223372036854775807 /\ (∀ i,i < len -> ml i <= 9223372036854775807) /\ RatSS W A len ml f /\ ∀ i,Rat64 (f i):=by
 obtain ⟨A,len,cap,rfl⟩:=okWide_slice Tryz.underlying22 hv
 obtain ⟨fuel,hf⟩:=h
 rcases Go.Deep.open_slice Tryz.underlying22 hf with ⟨hcs,-⟩ | ⟨a,len',cap',m,n,D,Pl,hcs,-,hl,hm,hmm,-,hi⟩
 ·simp [Value.cells] at hcs
  obtain ⟨rfl,rfl,rfl⟩:=hcs
  exact ⟨none,0,0,fun _=>0,fun _ _=>(0,0,0),rfl,oM,fun i hi=>oM,fun h=>absurd h oM,fun _ _=>zero64⟩
 ·simp [Value.cells] at hcs
  obtain ⟨rfl,rfl,rfl⟩:=hcs
  have hmx:cap <= 9223372036854775807:=by
   have:maxLen = 9223372036854775807:=dE
   omega
  have hlm:len <= m:=by rw [hmm]; simp; exact hl
  have el:∀ j,j < len -> ∃ (l:Nat) (g:Nat -> Int × Int × Int),l <= 9223372036854775807 /\ Rat64 g /\ ∃ Ai ci,W.cell? (a.add j) = some (.slice Ai l ci) /\ RatS W Ai l g:=fun j hj=>by
   obtain ⟨cs,hc,ht⟩:=hi j oM
   rw [list_size] at hc
   obtain ⟨-,hlen,hat⟩:=World.cells?_some hc
   obtain ⟨Ai,l,ci,g,rfl,h1,h2,h3⟩:=open_ratioc ht
   have k0:=hat 0 oM
   rw [Go.Deep.add_add,Nat.mul_one,Nat.add_zero] at k0
   exact ⟨l,g,h1,h3,Ai,ci,by simpa using k0,h2⟩
  let ml:Nat -> Nat:=fun j=>if hj:j < len then Classical.choose (el j hj) else 0
  let f:Nat -> Nat -> Int × Int × Int:=fun j=>if hj:j < len then Classical.choose (Classical.choose_spec (el j hj)) else fun _=>(0,0,0)
  have hs:∀ j,j < len -> ml j <= 9223372036854775807 /\ Rat64 (f j) /\ ∃ Ai ci,W.cell? (a.add j) = some (.slice Ai (ml j) ci) /\ RatS W Ai (ml j) (f j):=fun j hj=>by
   have:=Classical.choose_spec (Classical.choose_spec (el j hj))
   simp only [ml,f,dif_pos hj]
   exact this
  refine ⟨some a,len,cap,ml,f,rfl,oM,fun i hi=>(hs i hi).1,fun h0=>?_,fun j=>?_⟩
  ·obtain ⟨b,off,spot⟩:=a
   obtain ⟨-,-,A0,c0,g0,-⟩:=hs 0 h0
   have hspot:spot = none:=by simpa [Addr.add] using World.cell?_spot g0
   subst hspot
   have hadd:∀ k,(⟨b,off,none⟩:Addr).add k = ⟨b,off + k,none⟩:=fun k=>by unfold Addr.add; split <;> simp_all
   refine ⟨b,off,rfl,?_,fun j hj=>?_⟩
   ·have:=World.block_lt_of_cell? W _ g0
    simpa [Addr.add] using this
   ·obtain ⟨-,-,Ai,ci,k0,k1⟩:=hs j hj
    rw [hadd] at k0
    exact ⟨Ai,ci,k0,k1⟩
  ·by_cases hj:j < len
   ·exact (hs j hj).2.1
   ·have e:f j = fun _=>(0,0,0):=by simp only [f,dif_neg hj]
    rw [e]
    exact fun _=>zero64
end
end Go.Proofs.YtffegeaflohfhaaGreatDoor
