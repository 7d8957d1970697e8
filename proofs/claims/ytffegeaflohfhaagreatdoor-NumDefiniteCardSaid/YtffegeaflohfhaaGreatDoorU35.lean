import Derived.Test.YtffegeaflohfhaaGreatDoorS33
import Derived.Test.YtffegeaflohfhaaGreatDoorS34
import Derived.Test.YtffegeaflohfhaaGreatDoorS37
import Derived.Test.YtffegeaflohfhaaGreatDoorU15
import Derived.Deep.RegionHeld3
import Derived.Test.YtffegeaflohfhaaGreatDoorS02
set_option linter.unusedVariables false
set_option linter.unusedSimpArgs false
set_option maxRecDepth 100000
set_option maxHeartbeats 8000000
namespace Go.Proofs.YtffegeaflohfhaaGreatDoor
open Go.RowKit
theorem rcmpI_sign {a b:Int}:(if a < b then (-1:Int) else if a = b then 0 else 1) = if a < 0 then (if b < 0 then cmpN b.natAbs a.natAbs else -1) else (if b < 0 then 1 else cmpN a.natAbs b.natAbs):=by
 unfold cmpN
 repeat' split
 all_goals first | rfl | omega
theorem rIntCmp_any (v u:Value) (a b:Int) (w:World) (h:IsRI w v a) (h':IsRI w u b) (sa:wl a.natAbs < 549755813888) (sb:wl b.natAbs < 549755813888) :
  Calls Tryz.prog 163 #[v,u] w fun e w'=>e = .returned (.int .i64 (if a < b then (-1:Int) else if a = b then 0 else 1)) /\ Below w.heap.size w w':=by
 obtain ⟨A1,n1,c1,rfl,hn1,hs1⟩:=h.parts
 obtain ⟨A2,n2,c2,rfl,hn2,hs2⟩:=h'.parts
 rw [rcmpI_sign]
 have HA:=hid (fun W (hb:Below w.heap.size w W)=>rNatCmp_any _ _ _ _ W (hs1.below hb) (hs2.below hb) oM oM)
 have HB:=hid (fun W (hb:Below w.heap.size w W)=>rNatCmp_any _ _ _ _ W (hs2.below hb) (hs1.below hb) oM oM)
 clear h h' hs1 hs2 hn1 hn2 sa sb
 generalize cmpN a.natAbs b.natAbs = m1 at *
 generalize cmpN b.natAbs a.natAbs = m2 at *
 by_cases ha:a < 0 <;> by_cases hb:b < 0
 ·simp only [ha,hb,↓reduceIte,decide_true,decide_false]
  clear ha hb
  go_enter Tryz.func163,Tryz.ntmps163
  go_wp2_with fail
  refine (HB.out _ bel).mono ?_
  rintro e W5 ⟨rfl,q5,rfl⟩
  go_wp2
  go_ret
  exact ⟨rfl,bel⟩
 ·simp only [ha,hb,↓reduceIte,decide_true,decide_false]
  clear ha hb
  go_enter Tryz.func163,Tryz.ntmps163
  go_wp2
  go_ret
  exact ⟨rfl,bel⟩
 ·simp only [ha,hb,↓reduceIte,decide_true,decide_false]
  clear ha hb
  go_enter Tryz.func163,Tryz.ntmps163
  go_wp2
  go_ret
  exact ⟨rfl,bel⟩
 ·simp only [ha,hb,↓reduceIte,decide_true,decide_false]
  clear ha hb
  go_enter Tryz.func163,Tryz.ntmps163
  go_wp2_with fail
  refine (HA.out _ bel).mono ?_
  rintro e W5 ⟨rfl,q5,rfl⟩
  go_wp2
  go_ret
  exact ⟨rfl,bel⟩
end Go.Proofs.YtffegeaflohfhaaGreatDoor
