import Derived.Test.YtjodlmanheeajaaGreatDoorR20
import Derived.Test.YtjodlmanheeajaaGreatDoorR21
import Derived.Test.YtjodlmanheeajaaGreatDoorR02
set_option linter.unusedVariables false
set_option linter.unusedSimpArgs false
set_option maxRecDepth 100000
set_option maxHeartbeats 8000000
namespace Go.Proofs.YtjodlmanheeajaaGreatDoor
open Go Go.ChangeShapes Go.WideShapes Go.ChangeAt Go.WideMaps Go.WideElems Go.RowKit Go.Joins
theorem tab64_named:Tryz.prog.globalNamed "math/bits.deBruijn64tab" = some 1:=kR
theorem tab64_type:(Tryz.prog.globals[1]?).map (·.type) = some 213:=kR
def LaidTabs (W:World):Prop:=laidMetH Tryz.prog [("math/bits.deBruijn32tab",Rows.laid_math_bits_deBruijn32tab),("math/bits.deBruijn64tab",Rows.laid_math_bits_deBruijn64tab)] W
theorem tab_of_tabs {W:World} (h:LaidTabs W):Tab W:=by
 unfold LaidTabs at h
 rw [MakeChecks.laidMetH_plain _ _ _ kR] at h
 obtain ⟨ps,⟨g0,t0,cs0,f0,p0,q0,hg0,ht0,hv0,hd0,-⟩,-,-⟩:=h
 obtain rfl:=Option.some.inj (tab_named.symm.trans hg0)
 obtain rfl:=Option.some.inj (tab_type.symm.trans ht0)
 obtain ⟨xs,m1,rfl,hx1,hlen,hn,hel⟩:=DataW.trod_array Tryz.underlying249 hd0
 rw [tab_cells8] at hel
 have hcell:∀ k,W.cell? ⟨3,k,none⟩ = cs0[k]?:=fun k=>World.var?_cell tab_named hv0 k
 have hx2:=(Prod.mk.injEq _ _ _ _).mp hx1
 have hx3:=hx2.1
 unfold Rows.laid_math_bits_deBruijn32tab at hx3
 injection hx3 with hx3
 have key:∀ k,k < 32 -> cs0[k]? = some (.int .u8 ((Lib.deBruijn32tab.getD k 0:Nat):Int)):=fun k hk=>by
  have h0:=hel k hk
  have hxk:xs[k]? = some xs[k]:=List.getElem?_eq_getElem oM
  rw [hxk] at h0
  obtain ⟨n,e1,e2,-⟩:=DataW.trod_int Tryz.underlying5 h0
  have e3:(xs.map (·.1))[k]? = some (.lit (.int .u8 n)):=by rw [List.getElem?_map,hxk,Option.map_some,e2]
  rw [<- hx3] at e3
  have e4:cs0[k]? = some (.int .u8 n):=by
   have:(cs0.toList.drop (k * 1))[0]? = some (.int .u8 n):=by
    have h5:((cs0.toList.drop (k * 1)).take 1)[0]? = some (.int .u8 n):=by rw [e1]; rfl
    rwa [List.getElem?_take_of_lt oM] at h5
   simpa using this
  rw [e4]
  have e5:∀ k,k < 32 -> ∀ n:Int,([DataW.lit (.int .u8 0),.lit (.int .u8 1),.lit (.int .u8 28),.lit (.int .u8 2),.lit (.int .u8 29),.lit (.int .u8 14),.lit (.int .u8 24),.lit (.int .u8 3),.lit (.int .u8 30),.lit (.int .u8 22),.lit (.int .u8 20),.lit (.int .u8 15),.lit (.int .u8 25),.lit (.int .u8 17),.lit (.int .u8 4),.lit (.int .u8 8),.lit (.int .u8 31),.lit (.int .u8 27),.lit (.int .u8 13),.lit (.int .u8 23),.lit (.int .u8 21),.lit (.int .u8 19),.lit (.int .u8 16),.lit (.int .u8 7),.lit (.int .u8 26),.lit (.int .u8 12),.lit (.int .u8 18),.lit (.int .u8 6),.lit (.int .u8 11),.lit (.int .u8 5),.lit (.int .u8 10),.lit (.int .u8 9)]:List (DataW Unit))[k]? = some (.lit (.int .u8 n)) -> n = ((Lib.deBruijn32tab.getD k 0:Nat):Int):=by
   intro k hk n h
   match k,hk with
   | 0,_ | 1,_ | 2,_ | 3,_ | 4,_ | 5,_ | 6,_ | 7,_ | 8,_ | 9,_ | 10,_ | 11,_ | 12,_ | 13,_ | 14,_ | 15,_ | 16,_ | 17,_ | 18,_ | 19,_ | 20,_ | 21,_ | 22,_ | 23,_ | 24,_ | 25,_ | 26,_ | 27,_ | 28,_ | 29,_ | 30,_ | 31,_=>simp at h; rw [<- h]; rfl
   | k + 32,hk=>omega
  rw [e5 k hk n e3]
 refine ⟨?_,fun k hk=>(hcell k).trans (key k hk)⟩
 have h0:=(hcell 0).trans (key 0 oM)
 exact World.block_lt_of_cell? W ⟨3,0,none⟩ h0
theorem tab64_of_tabs {W:World} (h:LaidTabs W):Tab64 W:=by
 unfold LaidTabs at h
 rw [MakeChecks.laidMetH_plain _ _ _ kR] at h
 obtain ⟨ps,⟨g1,t1,cs1,f1,p1,q1,-,-,-,-,⟨⟨g0,t0,cs0,f0,p0,q0,hg0,ht0,hv0,hd0,-⟩,-⟩⟩,-,-⟩:=h
 obtain rfl:=Option.some.inj (tab64_named.symm.trans hg0)
 obtain rfl:=Option.some.inj (tab64_type.symm.trans ht0)
 obtain ⟨xs,m1,rfl,hx1,hlen,hn,hel⟩:=DataW.trod_array Tryz.underlying213 hd0
 rw [tab_cells8] at hel
 have hcell:∀ k,W.cell? ⟨1,k,none⟩ = cs0[k]?:=fun k=>World.var?_cell tab64_named hv0 k
 have hx2:=(Prod.mk.injEq _ _ _ _).mp hx1
 have hx3:=hx2.1
 unfold Rows.laid_math_bits_deBruijn64tab at hx3
 injection hx3 with hx3
 have key:∀ k,k < 64 -> cs0[k]? = some (.int .u8 ((Lib.deBruijn64tab.getD k 0:Nat):Int)):=fun k hk=>by
  have h0:=hel k hk
  have hxk:xs[k]? = some xs[k]:=List.getElem?_eq_getElem oM
  rw [hxk] at h0
  obtain ⟨n,e1,e2,-⟩:=DataW.trod_int Tryz.underlying5 h0
  have e3:(xs.map (·.1))[k]? = some (.lit (.int .u8 n)):=by rw [List.getElem?_map,hxk,Option.map_some,e2]
  rw [<- hx3] at e3
  have e4:cs0[k]? = some (.int .u8 n):=by
   have:(cs0.toList.drop (k * 1))[0]? = some (.int .u8 n):=by
    have h5:((cs0.toList.drop (k * 1)).take 1)[0]? = some (.int .u8 n):=by rw [e1]; rfl
    rwa [List.getElem?_take_of_lt oM] at h5
   simpa using this
  rw [e4]
  have e5:∀ k,k < 64 -> ∀ n:Int,([DataW.lit (.int .u8 0),.lit (.int .u8 1),.lit (.int .u8 56),.lit (.int .u8 2),.lit (.int .u8 57),.lit (.int .u8 49),.lit (.int .u8 28),.lit (.int .u8 3),.lit (.int .u8 61),.lit (.int .u8 58),.lit (.int .u8 42),.lit (.int .u8 50),.lit (.int .u8 38),.lit (.int .u8 29),.lit (.int .u8 17),.lit (.int .u8 4),.lit (.int .u8 62),.lit (.int .u8 47),.lit (.int .u8 59),.lit (.int .u8 36),.lit (.int .u8 45),.lit (.int .u8 43),.lit (.int .u8 51),.lit (.int .u8 22),.lit (.int .u8 53),.lit (.int .u8 39),.lit (.int .u8 33),.lit (.int .u8 30),.lit (.int .u8 24),.lit (.int .u8 18),.lit (.int .u8 12),.lit (.int .u8 5),.lit (.int .u8 63),.lit (.int .u8 55),.lit (.int .u8 48),.lit (.int .u8 27),.lit (.int .u8 60),.lit (.int .u8 41),.lit (.int .u8 37),.lit (.int .u8 16),.lit (.int .u8 46),.lit (.int .u8 35),.lit (.int .u8 44),.lit (.int .u8 21),.lit (.int .u8 52),.lit (.int .u8 32),.lit (.int .u8 23),.lit (.int .u8 11),.lit (.int .u8 54),.lit (.int .u8 26),.lit (.int .u8 40),.lit (.int .u8 15),.lit (.int .u8 34),.lit (.int .u8 20),.lit (.int .u8 31),.lit (.int .u8 10),.lit (.int .u8 25),.lit (.int .u8 14),.lit (.int .u8 19),.lit (.int .u8 9),.lit (.int .u8 13),.lit (.int .u8 8),.lit (.int .u8 7),.lit (.int .u8 6)]:List (DataW Unit))[k]? = some (.lit (.int .u8 n)) -> n = ((Lib.deBruijn64tab.getD k 0:Nat):Int):=by
   intro k hk n h
   match k,hk with
   | 0,_ | 1,_ | 2,_ | 3,_ | 4,_ | 5,_ | 6,_ | 7,_ | 8,_ | 9,_ | 10,_ | 11,_ | 12,_ | 13,_ | 14,_ | 15,_ | 16,_ | 17,_ | 18,_ | 19,_ | 20,_ | 21,_ | 22,_ | 23,_ | 24,_ | 25,_ | 26,_ | 27,_ | 28,_ | 29,_ | 30,_ | 31,_ | 32,_ | 33,_ | 34,_ | 35,_ | 36,_ | 37,_ | 38,_ | 39,_ | 40,_ | 41,_ | 42,_ | 43,_ | 44,_ | 45,_ | 46,_ | 47,_ | 48,_ | 49,_ | 50,_ | 51,_ | 52,_ | 53,_ | 54,_ | 55,_ | 56,_ | 57,_ | 58,_ | 59,_ | 60,_ | 61,_ | 62,_ | 63,_=>simp at h; rw [<- h]; rfl
   | k + 64,hk=>omega
  rw [e5 k hk n e3]
 refine ⟨?_,fun k hk=>(hcell k).trans (key k hk)⟩
 have h0:=(hcell 0).trans (key 0 oM)
 exact World.block_lt_of_cell? W ⟨1,0,none⟩ h0
end Go.Proofs.YtjodlmanheeajaaGreatDoor
