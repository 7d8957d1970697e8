import Derived.Test.YtffegeaflohfhaaGreatDoorS13
import Derived.Test.YtffegeaflohfhaaGreatDoorS22
import Derived.Test.YtffegeaflohfhaaGreatDoorS26
import Derived.Test.YtffegeaflohfhaaGreatDoorS34
import Derived.Test.YtffegeaflohfhaaGreatDoorS37
import Derived.Test.YtffegeaflohfhaaGreatDoorU35
import Derived.Test.YtffegeaflohfhaaGreatDoorS38
import Derived.Test.YtffegeaflohfhaaGreatDoorU15
import Derived.Deep.RegionHeld3
import Derived.Test.YtffegeaflohfhaaGreatDoorS02
set_option linter.unusedVariables false
set_option linter.unusedSimpArgs false
set_option maxRecDepth 100000
set_option maxHeartbeats 8000000
namespace Go.Proofs.YtffegeaflohfhaaGreatDoor
open Go.RowKit
theorem rSign_any (v:Value) (x:Cx) (w:World) (h:IsQ w v x) :
  Calls Tryz.prog 92 #[v] w fun e w'=>e = .returned (.int .i64 (sgnR x.re)) /\ Below w.heap.size w w':=by
 obtain ⟨A1,n1,c1,p1,A1b,n1b,c1b,p1b,A1c,n1c,c1c,a1,b1,d1,rfl,hl1,hr1,hi1,hs1,hn1,hm1,hd1,hp1,hq1,-,-⟩:=h.parts
 rw [sgnR_of hl1.pos hl1.2.2.1]
 have hz:=wl_eq_zero (x:=a1.natAbs)
 rcases Int.lt_trichotomy a1 0 with k | k | k
 ·rw [Int.sign_eq_neg_one_of_neg k]
  rw [decide_eq_true k] at hp1
  subst hp1
  clear hl1 hr1 hi1 hs1 h hn1 hm1 hd1 hq1 hz k
  go_enter Tryz.func92,Tryz.ntmps92
  go_wp2
  go_ret
  exact ⟨rfl,bel⟩
 ·rw [show a1.sign = 0 by rw [k]; rfl]
  have h0:n1 = 0:=oM
  rw [show decide (a1 < 0) = false by simp; omega] at hp1
  subst hp1 h0
  clear hl1 hr1 hi1 hs1 h hm1 hd1 hq1 hz k hn1
  go_enter Tryz.func92,Tryz.ntmps92
  go_wp2
  go_ret
  exact ⟨rfl,bel⟩
 ·rw [Int.sign_eq_one_of_pos k]
  have h0:0 < n1:=oM
  rw [show decide (a1 < 0) = false by simp; omega] at hp1
  subst hp1
  clear hl1 hr1 hi1 hs1 h hm1 hd1 hq1 hz k hn1
  go_enter Tryz.func92,Tryz.ntmps92
  go_wp2
  go_ret
  exact ⟨rfl,bel⟩
theorem rcmpI_zero (a b:Int):((if a < b then (-1:Int) else if a = b then 0 else 1) = 0) ↔ a = b:=by
 constructor
 ·intro h; split at h
  ·simp at h
  ·split at h
   ·assumption
   ·simp at h
 ·rintro rfl; simp
theorem rcmpN_zero (a b:Nat):cmpN a b = 0 ↔ a = b:=by
 unfold cmpN
 constructor
 ·intro h; split at h
  ·simp at h
  ·split at h
   ·assumption
   ·simp at h
 ·rintro rfl; simp
theorem rSame_any (v u:Value) (x y:Cx) (w:World) (h:IsQ w v x) (h':IsQ w u y) (m:Nat) (hx:Sz x m) (hy:Sz y m) (hm:m < 549755813888) :
  Calls Tryz.prog 132 #[v,u] w fun e w'=>e = .returned (.bool (decide (x = y))) /\ Below w.heap.size w w':=by
 obtain ⟨A1,n1,c1,p1,A1b,n1b,c1b,p1b,A1c,n1c,c1c,a1,b1,d1,rfl,hl1,hr1,hi1,hs1,hn1,hm1,hd1,hp1,hq1,-,-⟩:=h.parts
 obtain ⟨A2,n2,c2,p2,A2b,n2b,c2b,p2b,A2c,n2c,c2c,a2,b2,d2,rfl,hl2,hr2,hi2,hs2,hn2,hm2,hd2,hp2,hq2,-,-⟩:=h'.parts
 obtain ⟨s1,s2,s3⟩:=hx _ _ _ hl1
 obtain ⟨s4,s5,s6⟩:=hy _ _ _ hl2
 have hxy:x = y ↔ a1 = a2 /\ b1 = b2 /\ d1 = d2:=by
  constructor
  ·rintro rfl; exact hl1.uniq hl2
  ·rintro ⟨rfl,rfl,rfl⟩; exact hl1.eq hl2
 have H1:=hid (fun W (hb:Below w.heap.size w W)=>rIntCmp_any _ _ a1 a2 W (hr1.below hb) (hr2.below hb) oM oM)
 have H2:=hid (fun W (hb:Below w.heap.size w W)=>rIntCmp_any _ _ b1 b2 W (hi1.below hb) (hi2.below hb) oM oM)
 have H3:=hid (fun W (hb:Below w.heap.size w W)=>rNatCmp_any _ _ d1 d2 W (hs1.below hb) (hs2.below hb) oM oM)
 have k1:=rcmpI_zero a1 a2
 have k2:=rcmpI_zero b1 b2
 have k3:=rcmpN_zero d1 d2
 generalize (if a1 < a2 then (-1:Int) else if a1 = a2 then 0 else 1) = m1 at *
 generalize (if b1 < b2 then (-1:Int) else if b1 = b2 then 0 else 1) = m2 at *
 generalize cmpN d1 d2 = m3 at *
 have hd:decide (x = y) = (decide (m1 = 0) && (decide (m2 = 0) && decide (m3 = 0))):=by
  rw [Bool.eq_iff_iff]
  simp only [decide_eq_true_eq,Bool.and_eq_true,hxy,k1,k2,k3]
 have HD:=hid hd
 clear hl1 hr1 hi1 hs1 h hn1 hm1 hd1 hp1 hq1 hl2 hr2 hi2 hs2 h' hn2 hm2 hd2 hp2 hq2 hx hy hm k1 k2 k3 hxy hd s1 s2 s3 s4 s5 s6
 go_enter Tryz.func132,Tryz.ntmps132
 go_wp2_with fail
 refine (H1.out _ bel).mono ?_
 rintro e W5 ⟨rfl,hb5⟩
 obtain ⟨hc5,hf5,hz5⟩:=bcells hb5 (w.heap.size + 2) sP
 have B5:Below w.heap.size w W5:=bel
 by_cases q1:m1 = 0
 ·go_wp2_with fail
  refine (H2.out _ B5).mono ?_
  rintro e W6 ⟨rfl,hb6⟩
  obtain ⟨hc6,hf6,hz6⟩:=bcells hb6 (w.heap.size + 2) oM
  have B6:=bT B5 hb6
  by_cases q2:m2 = 0
  ·go_wp2_with fail
   refine (H3.out _ B6).mono ?_
   rintro e W7 ⟨rfl,q7,rfl⟩
   by_cases q3:m3 = 0
   all_goals
    go_wp2
    go_ret
    exact ⟨by rw [HD.out]; simp [q1,q2,q3],bel⟩
  ·go_wp2
   go_ret
   exact ⟨by rw [HD.out]; simp [q1,q2],B6⟩
 ·go_wp2
  go_ret
  exact ⟨by rw [HD.out]; simp [q1],B5⟩
end Go.Proofs.YtffegeaflohfhaaGreatDoor
