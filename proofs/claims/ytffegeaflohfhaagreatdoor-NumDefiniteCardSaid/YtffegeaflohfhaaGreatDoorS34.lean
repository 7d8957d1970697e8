import Derived.Deep.LoopGhost
import Derived.Deep.RegionHeld3
import Derived.Test.YtffegeaflohfhaaGreatDoorS13
import Derived.Test.YtffegeaflohfhaaGreatDoorS15
import Derived.Test.YtffegeaflohfhaaGreatDoorS18
import Derived.Test.YtffegeaflohfhaaGreatDoorS33
import Derived.Test.YtffegeaflohfhaaGreatDoorS02
set_option linter.unusedVariables false
set_option linter.unusedSimpArgs false
set_option maxRecDepth 100000
set_option maxHeartbeats 8000000
namespace Go.Proofs.YtffegeaflohfhaaGreatDoor
open Go.RowKit
theorem rNatDiv_any (v u:Value) (x y:Nat) (w:World) (hv:IsNat w v x) (hu:IsNat w u y) (hy:0 < y) (hn:wl x < 549755813888) (hm:wl y < 549755813888) :
  Calls Tryz.prog 143 #[v,u] w (RetTwo w (x / y) (x % y)):=by
 by_cases hlt:x < y
 ·have hc:=rNatCmp_any v u x y w hv hu oM oM
  rw [show cmpN x y = -1 by simp [cmpN,hlt]] at hc
  have HC:=hid hc
  have HV:=hid hv
  rw [Nat.div_eq_of_lt hlt,Nat.mod_eq_of_lt hlt]
  clear hc hv hu
  go_enter Tryz.func143,Tryz.ntmps143
  go_wp2_with fail
  refine HC.out.mono ?_
  rintro e w1 ⟨rfl,q,rfl⟩
  go_wp2
  go_ret2
  exact ⟨_,v,rfl,IsNat.zero _ _ _,HV.out.drewN q,below_drewN _ _⟩
 by_cases hl1:wl y = 1
 ·have hc0:decide (cmpN x y < 0) = false:=by
   unfold cmpN
   rw [if_neg hlt]
   split <;> rfl
  have HC:=hid (rNatCmp_any v u x y w hv hu oM oM)
  generalize cmpN x y = cm at *
  have hvy:=vs_dg_wl y
  rw [hl1,vs_one] at hvy
  have hyd:y < 4294967296:=by rw [<- hvy]; exact dg_lt _ _
  have HD:=hid (fun W (h:Below w.heap.size w W)=>natDigit_any v x y W (hv.below h) hy hyd oM)
  obtain ⟨A',c',rfl,hc',hw'⟩:=hu
  obtain ⟨b',o',rfl,hb',hcell'⟩:=hw' oM
  have hcy:=hcell' 0 oM
  rw [hvy,Nat.add_zero] at hcy
  have hr:x % y < 4294967296:=by have:=Nat.mod_lt x hy; omega
  rw [hl1] at *
  clear hv hw' hcell' hvy hl1 hlt
  generalize hq:x / y = dq at *
  generalize hr2:x % y = dr at *
  clear hq hr2
  go_enter Tryz.func143,Tryz.ntmps143
  go_wp2_with fail
  refine HC.out.mono ?_
  rintro e w1 ⟨rfl,q,rfl⟩
  have hcy2:(w.drewN q).cell? ⟨b',o',none⟩ = some (.int .u32 (y:Int)):=hcy
  go_wp2_with fail
  refine (HD.out _ (below_drewN _ _)).mono ?_
  rintro e w2 ⟨v2,rfl,hv2,hb2⟩
  go_wp2_with fail
  refine (rNatOf_any dr w2 oM).mono ?_
  rintro e w3 ⟨v3,rfl,hv3,hb3⟩
  go_wp2
  go_ret2
  exact ⟨v2,v3,rfl,hv2.below hb3,hv3,bT (bT (below_drewN _ _) hb2) hb3⟩
 ·exact rNatDiv_long v u x y w hv hu (by have h0:wl y ≠ 0:=fun e=>by { have:=wl_eq_zero.1 e; omega }; omega) oM hn
theorem rNatGcd_any (v u:Value) (x y:Nat) (w:World) (hv:IsNat w v x) (hu:IsNat w u y) (hn:wl x < 549755813888) (hm:wl y < 549755813888) :
  Calls Tryz.prog 142 #[v,u] w (RetNat w (Nat.gcd x y)):=by
 have HV:=hid hv
 have HU:=hid hu
 have HN:=hid hn
 have HM:=hid hm
 clear hv hu hn hm
 go_enter Tryz.func142,Tryz.ntmps142
 go_wp2
 go_loopg [0,1] y (fun k va vb wr=>∃ p:Nat,IsNat wr va p /\ IsNat wr vb k /\ Nat.gcd p k = Nat.gcd x y /\ wl p < 549755813888 /\ wl k < 549755813888 /\ Below w.heap.size w wr)
 case atStart=>exact ⟨x,HV.out,HU.out,rfl,HN.out,HM.out,Below.refl _ _⟩
 case round =>
  obtain ⟨p,hp,hk,hg,hn,hm,hb⟩:=hrel
  have HG:=hid hg
  have HB:=hid hb
  have HP:=hid hp
  clear hg hb
  rcases Nat.eq_zero_or_pos gk with h0 | h0
  ·subst h0
   obtain ⟨A,c,rfl,hc,hw⟩:=hk
   rw [wl_zero] at *
   go_wp2
   go_ret
   exact ⟨_,rfl,by have:=HG.out; rw [Nat.gcd_zero_right] at this; rw [<- this]; exact HP.out,HB.out⟩
  ·have HD:=hid (rNatDiv_any _ _ p gk wr hp hk h0 hn hm)
   have HK:=hid hk
   have hwk:0 < wl gk:=Nat.pos_of_ne_zero fun e=>by { have:=wl_eq_zero.1 e; omega }
   have hlk:wl (p % gk) < 549755813888:=Nat.lt_of_le_of_lt (wl_mono (Nat.le_of_lt (Nat.mod_lt p h0))) hm
   have HLK:=hid hlk
   have HM:=hid hm
   have hlt:=Nat.mod_lt p h0
   have HLT:=hid hlt
   obtain ⟨A,c,rfl,hc,hw⟩:=hk
   clear hp hn hlk hlt hw hc
   generalize hwl:wl gk = m at *
   have HWL:=hid hwl
   clear hwl
   go_wp2_with fail
   refine HD.out.mono ?_
   rintro e w1 ⟨vq,vr,rfl,hq,hr,hb1⟩
   have HQ:=hid hr
   have HB1:=hid hb1
   clear hq hr hb1
   go_wp2
   go_roundg (p % gk)
   case measure=>exact HLT.out
   case rel=>exact ⟨gk,HK.out.below HB1.out,HQ.out,by rw [<- HG.out,Nat.gcd_comm p gk,Nat.gcd_rec gk p,Nat.gcd_comm],by rw [HWL.out]; exact HM.out,HLK.out,bT HB.out HB1.out⟩
def IsRI (w:World) (v:Value) (z:Int):Prop:=∃ s,v = .agg #[.bool (decide (z < 0)),s] /\ IsNat w s z.natAbs
theorem IsRI.below {w w':World} {v:Value} {z:Int} (h:IsRI w v z) (hb:Below w.heap.size w w'):IsRI w' v z:=by
 obtain ⟨s,h1,h2⟩:=h
 exact ⟨s,h1,h2.below hb⟩
theorem IsRI.box2 {w:World} {v:Value} {z:Int} {g:Nat} (h:IsRI w v z) (hB:IntBox w g) (u0 u1:Value):IsRI ((w.setCell ⟨g,0,none⟩ u0).setCell ⟨g,1,none⟩ u1) v z:=by
 obtain ⟨s,h1,h2⟩:=h
 exact ⟨s,h1,h2.box2 hB _ _⟩
theorem IsRI.parts {w:World} {v:Value} {z:Int} (h:IsRI w v z):∃ A n c,v = .agg #[.bool (decide (z < 0)),.slice A n c] /\ n = wl z.natAbs /\ IsNat w (.slice A n c) z.natAbs:=by
 obtain ⟨s,rfl,h⟩:=h
 obtain ⟨A,n,c,rfl,hn⟩:=h.ex
 exact ⟨A,n,c,rfl,hn,h⟩
def RetRI (w:World) (z:Int) (e:Ending) (w':World):Prop:=∃ v,e = .returned v /\ IsRI w' v z /\ Below w.heap.size w w'
theorem run_loadRI {w:World} {g:Nat} (h:IntBox w g) (v0 v1:Value) :
  ((Sem.run Tryz.prog (asAddr (Value.pointer (some { block:=g,off:=0 }))) ((w.setCell ⟨g,0,none⟩ v0).setCell ⟨g,1,none⟩ v1)).andThen
   fun a w'=>Sem.run Tryz.prog (loadVar 40 a) w') =
  Result.ok (Value.agg #[v0,v1]) ((w.setCell ⟨g,0,none⟩ v0).setCell ⟨g,1,none⟩ v1):=by
 obtain ⟨o0,o1,h0,h1,-⟩:=h
 simp [go_sem,h0,h1]
theorem RetRI.box {w W:World} {v:Value} {z:Int} {g:Nat} (hb:Below w.heap.size w W) (hg:w.heap.size <= g) (hB:IntBox W g) (h:IsRI W v z) (v0 v1:Value) :
  RetRI w z (.returned v) ((W.setCell ⟨g,0,none⟩ v0).setCell ⟨g,1,none⟩ v1) :=
 ⟨v,rfl,h.box2 hB _ _,(hb.setCell hg _).setCell hg _⟩
theorem RetRI.of {w W:World} {v:Value} {z:Int} (hb:Below w.heap.size w W) (hn:Below w.heap.size w W -> IsRI W v z):RetRI w z (.returned v) W:=⟨v,rfl,hn hb,hb⟩
theorem IntBox.mk' {w:World} {g:Nat} {A:Option Addr} {n c:Nat} {p:Bool} (h0:w.cell? ⟨g,0,none⟩ = some (.bool p)) (h1:w.cell? ⟨g,1,none⟩ = some (.slice A n c)):IntBox w g :=
 ⟨_,_,h0,h1,Odd.bool _,Odd.slice _ _ _⟩
theorem wrap_neg (k:Nat) (h:k <= 9223372036854775808):IntKind.u64.wrap (wrap64 (k:Int)) = (k:Int):=by
 rw [IntKind.wrap_u64]
 unfold wrap64
 omega
theorem rIntOf_any (z:Int) (w:World) (h1:-9223372036854775808 <= z) (h2:z < 9223372036854775808) :
  Calls Tryz.prog 105 #[.int .i64 z] w (RetRI w z):=by
 by_cases hz:z < 0
 ·obtain ⟨k,hk,rfl⟩:∃ k:Nat,0 < k /\ z = -(k:Int):=⟨z.natAbs,oM,oM⟩
  have hw:=wrap_neg k oM
  have hkk:k < 18446744073709551616:=oM
  have HF:=hid (fun W=>rNatOf_any k W hkk)
  go_enter Tryz.func105,Tryz.ntmps105
  go_wp2_with fail
  refine (HF.out _).mono ?_
  rintro e W2 ⟨r,rfl,hr,hb2⟩
  obtain ⟨hc2,hf2,hz2⟩:=bcells hb2 (w.heap.size + 1) sP
  obtain ⟨A,n,c,rfl,hn⟩:=hr.ex
  clear hn
  go_wp2
  have IB:IntBox W2 w.heap.size:=IntBox.of hc2 oM (IntBox.mk' (A:=none) (n:=0) (c:=0) (p:=false) sG sG)
  refine bodyPost_ret (v:=.agg #[.bool true,.slice A n c]) (by simp [results,Tryz.results105]; exact run_loadRI IB _ _) rfl ?_
  exact RetRI.box (bT (below_alloc _ _) hb2) oM IB ⟨_,by rw [decide_eq_true hz],by rw [Int.natAbs_neg,Int.natAbs_natCast]; exact hr⟩ _ _
 ·obtain ⟨k,rfl⟩:∃ k:Nat,z = (k:Int):=⟨z.natAbs,oM⟩
  have hw:IntKind.u64.wrap (k:Int) = (k:Int):=by
   simp [IntKind.wrap,IntKind.bits,IntKind.signed]
   omega
  have hk:k < 18446744073709551616:=oM
  have HF:=hid (fun W=>rNatOf_any k W hk)
  go_enter Tryz.func105,Tryz.ntmps105
  go_wp2_with fail
  refine (HF.out _).mono ?_
  rintro e W2 ⟨r,rfl,hr,hb2⟩
  obtain ⟨hc2,hf2,hz2⟩:=bcells hb2 (w.heap.size + 1) sP
  obtain ⟨A,n,c,rfl,hn⟩:=hr.ex
  clear hn
  go_wp2
  have IB:IntBox W2 w.heap.size:=IntBox.of hc2 oM (IntBox.mk' (A:=none) (n:=0) (c:=0) (p:=false) sG sG)
  refine bodyPost_ret (v:=.agg #[.bool false,.slice A n c]) (by simp [results,Tryz.results105]; exact run_loadRI IB _ _) rfl ?_
  exact RetRI.box (bT (below_alloc _ _) hb2) oM IB ⟨_,by rw [show decide ((k:Int) < 0) = false by simp],by rw [Int.natAbs_natCast]; exact hr⟩ _ _
theorem rsigned_any (p:Bool) (v:Value) (x:Nat) (z:Int) (w:World) (h:IsNat w v x) (hx:z.natAbs = x) (hz:(p && decide (0 < x)) = decide (z < 0)) :
  Calls Tryz.prog 144 #[.bool p,v] w (RetRI w z):=by
 have HV:=hid h
 obtain ⟨A,n,c,rfl,hn⟩:=h.ex
 have hd:decide (0 < n) = decide (0 < x):=by
  rw [Bool.eq_iff_iff]
  simp
  rw [hn]
  have:=wl_eq_zero (x:=x)
  omega
 clear hn h
 cases p
 ·have hz2:decide (z < 0) = false:=by rw [<- hz]; rfl
  have HZ:=hid hz2
  have HX:=hid hx
  clear hd hz hz2 hx
  go_enter Tryz.func144,Tryz.ntmps144
  go_wp2
  refine bodyPost_ret (v:=.agg #[.bool false,.slice A n c]) (by simp [results,Tryz.results144,go_sem]) rfl ?_
  exact RetRI.of bel fun B=>⟨_,by rw [HZ.out],by rw [HX.out]; exact HV.out.below B⟩
 ·have hz2:decide (z < 0) = decide (0 < x):=by rw [<- hz]; rfl
  have HZ:=hid hz2
  have HX:=hid hx
  clear hz hz2 hx
  generalize decide (0 < x) = q at *
  go_enter Tryz.func144,Tryz.ntmps144
  go_wp2
  refine bodyPost_ret (v:=.agg #[.bool q,.slice A n c]) (by simp [results,Tryz.results144,go_sem]) rfl ?_
  exact RetRI.of bel fun B=>⟨_,by rw [HZ.out],by rw [HX.out]; exact HV.out.below B⟩
theorem rIntNeg_any (v:Value) (z:Int) (w:World) (h:IsRI w v z) :
  Calls Tryz.prog 111 #[v] w (RetRI w (-z)):=by
 obtain ⟨A,n,c,rfl,hn,hs⟩:=h.parts
 have HS:=hid (fun W (hb:Below w.heap.size w W)=>rsigned_any (!decide (z < 0)) _ z.natAbs (-z) W (hs.below hb) (by rw [Int.natAbs_neg]) (by
  rw [Bool.eq_iff_iff]
  simp
  omega))
 clear hn hs h
 generalize decide (z < 0) = q at *
 go_enter Tryz.func111,Tryz.ntmps111
 go_wp2_with fail
 refine (HS.out _ bel).mono ?_
 rintro e W2 ⟨r,rfl,hr,hb2⟩
 obtain ⟨hc2,hf2,hz2⟩:=bcells hb2 (w.heap.size + 2) sP
 obtain ⟨A2,n2,c2,rfl,hn2,hs2⟩:=hr.parts
 clear hn2
 generalize decide (-z < 0) = q2 at *
 go_wp2
 have IB:IntBox W2 (w.heap.size + 1):=IntBox.of hc2 oM (IntBox.mk' (A:=none) (n:=0) (c:=0) (p:=false) sG sG)
 refine bodyPost_ret (v:=.agg #[.bool q2,.slice A2 n2 c2]) (by simp [results,Tryz.results111]; exact run_loadRI IB _ _) rfl ?_
 exact RetRI.box bel oM IB hr _ _
def IsQ (w:World) (v:Value) (x:Cx):Prop:=∃ r p i q s a b d,v = .agg #[.bool p,r,.bool q,i,s] /\ Low x a b d /\ IsRI w (.agg #[.bool p,r]) a /\ IsRI w (.agg #[.bool q,i]) b /\ IsNat w s d
theorem IsQ.below {w w':World} {v:Value} {x:Cx} (h:IsQ w v x) (hb:Below w.heap.size w w'):IsQ w' v x:=by
 obtain ⟨r,p,i,q,s,a,b,d,h1,h2,h3,h4,h5⟩:=h
 exact ⟨r,p,i,q,s,a,b,d,h1,h2,h3.below hb,h4.below hb,h5.below hb⟩
def RetQ (w:World) (x:Cx) (e:Ending) (w':World):Prop:=∃ v,e = .returned v /\ IsQ w' v x /\ Below w.heap.size w w'
theorem IsQ.mk {W:World} {r i s:Value} {p q:Bool} {x:Cx} {a b:Int} {d:Nat} (hl:Low x a b d) (hr:IsRI W (.agg #[.bool p,r]) a) (hi:IsRI W (.agg #[.bool q,i]) b) (hs:IsNat W s d) :
  IsQ W (.agg #[.bool p,r,.bool q,i,s]) x:=⟨r,p,i,q,s,a,b,d,rfl,hl,hr,hi,hs⟩
theorem IsQ.parts {w:World} {v:Value} {x:Cx} (h:IsQ w v x):∃ A n c p A' n' c' p' A'' n'' c'' a b d,
  v = .agg #[.bool p,.slice A n c,.bool p',.slice A' n' c',.slice A'' n'' c''] /\ Low x a b d /\
  IsRI w (.agg #[.bool p,.slice A n c]) a /\ IsRI w (.agg #[.bool p',.slice A' n' c']) b /\ IsNat w (.slice A'' n'' c'') d /\ n = wl a.natAbs /\ n' = wl b.natAbs /\ n'' = wl d /\ p = decide (a < 0) /\ p' = decide (b < 0) /\
  IsNat w (.slice A n c) a.natAbs /\ IsNat w (.slice A' n' c') b.natAbs:=by
 obtain ⟨r,p,i,q,s,a,b,d,rfl,hl,hr,hi,hs⟩:=h
 obtain ⟨A,n,c,e1,hn1,h1⟩:=hr.parts
 obtain ⟨A',n',c',e2,hn2,h2⟩:=hi.parts
 obtain ⟨A'',n'',c'',rfl,hnn⟩:=hs.ex
 simp at e1 e2
 obtain ⟨rfl,rfl⟩:=e1
 obtain ⟨rfl,rfl⟩:=e2
 exact ⟨A,n,c,_,A',n',c',_,A'',n'',c'',a,b,d,rfl,hl,hr,hi,hs,hn1,hn2,hnn,rfl,rfl,h1,h2⟩
theorem IsQ.box5 {w:World} {v:Value} {x:Cx} {g:Nat} (h:IsQ w v x) (hB:NumBox w g) (v0 v1 v2 v3 v4:Value) :
  IsQ (((((w.setCell ⟨g,0,none⟩ v0).setCell ⟨g,1,none⟩ v1).setCell ⟨g,2,none⟩ v2).setCell ⟨g,3,none⟩ v3).setCell ⟨g,4,none⟩ v4) v x:=by
 obtain ⟨r,p,i,q,s,a,b,d,h1,h2,⟨s1,e1,h3⟩,⟨s2,e2,h4⟩,h5⟩:=h
 exact ⟨r,p,i,q,s,a,b,d,h1,h2,⟨s1,e1,h3.box5 hB _ _ _ _ _⟩,⟨s2,e2,h4.box5 hB _ _ _ _ _⟩,h5.box5 hB _ _ _ _ _⟩
theorem RetQ.box {w W:World} {v:Value} {x:Cx} {g:Nat} (hb:Below w.heap.size w W) (hg:w.heap.size <= g) (hB:NumBox W g) (h:IsQ W v x) (v0 v1 v2 v3 v4:Value) :
  RetQ w x (.returned v) (((((W.setCell ⟨g,0,none⟩ v0).setCell ⟨g,1,none⟩ v1).setCell ⟨g,2,none⟩ v2).setCell ⟨g,3,none⟩ v3).setCell ⟨g,4,none⟩ v4) :=
 ⟨v,rfl,h.box5 hB _ _ _ _ _,below_box5 hb hg _ _ _ _ _⟩
theorem run_loadQ {w:World} {g:Nat} (h:NumBox w g) (v0 v1 v2 v3 v4:Value) :
  ((Sem.run Tryz.prog (asAddr (Value.pointer (some { block:=g,off:=0 }))) (((((w.setCell ⟨g,0,none⟩ v0).setCell ⟨g,1,none⟩ v1).setCell ⟨g,2,none⟩ v2).setCell ⟨g,3,none⟩ v3).setCell ⟨g,4,none⟩ v4)).andThen
   fun a w'=>Sem.run Tryz.prog (loadVar 42 a) w') =
  Result.ok (Value.agg #[v0,v1,v2,v3,v4]) (((((w.setCell ⟨g,0,none⟩ v0).setCell ⟨g,1,none⟩ v1).setCell ⟨g,2,none⟩ v2).setCell ⟨g,3,none⟩ v3).setCell ⟨g,4,none⟩ v4):=by
 obtain ⟨o0,o1,o2,o3,o4,h0,h1,h2,h3,h4,-⟩:=h
 simp [go_sem,h0,h1,h2,h3,h4]
theorem NumBox.nilQ {w:World} {g:Nat} (h0:w.cell? ⟨g,0,none⟩ = some (.bool false)) (h1:w.cell? ⟨g,1,none⟩ = some (.slice none 0 0)) (h2:w.cell? ⟨g,2,none⟩ = some (.bool false)) (h3:w.cell? ⟨g,3,none⟩ = some (.slice none 0 0)) (h4:w.cell? ⟨g,4,none⟩ = some (.slice none 0 0)):NumBox w g :=
 ⟨_,_,_,_,_,h0,h1,h2,h3,h4,Odd.bool _,Odd.slice _ _ _,Odd.bool _,Odd.slice _ _ _,Odd.slice _ _ _⟩
theorem gcd3_ref (a b:Int) (d:Nat):Nat.gcd (Nat.gcd a.natAbs b.natAbs) d = gcd3 a b d:=by
 unfold gcd3
 rw [Nat.gcd_comm,<- Nat.gcd_assoc]
theorem sign_quot {a:Int} {g:Nat} (hg:0 < g) (hd:(g:Int) ∣ a):(a / (g:Int)).natAbs = a.natAbs / g /\ (decide (a < 0) && decide (0 < a.natAbs / g)) = decide (a / (g:Int) < 0):=by
 obtain ⟨k,rfl⟩:=hd
 have h1:(g:Int) * k / g = k:=Int.mul_ediv_cancel_left _ oM
 rw [h1,Int.natAbs_mul,Int.natAbs_natCast,Nat.mul_div_cancel_left _ hg]
 refine ⟨rfl,?_⟩
 rw [Bool.eq_iff_iff]
 simp only [Bool.and_eq_true,decide_eq_true_eq]
 constructor
 ·rintro ⟨h2,h3⟩
  rcases Int.lt_trichotomy k 0 with h | h | h
  ·exact h
  ·subst h; simp at h2
  ·have:=Int.mul_pos (show (0:Int) < g by omega) h; omega
 ·intro h
  exact ⟨Int.mul_neg_of_pos_of_neg oM h,oM⟩
theorem rMake_one (r i s:Value) (a b:Int) (d:Nat) (x:Cx) (w:World) (hr:IsRI w r a) (hi:IsRI w i b) (hs:IsNat w s d) (hl:Low x a b d) (h1:gcd3 a b d = 1)
  (sa:wl a.natAbs < 549755813888) (sb:wl b.natAbs < 549755813888) (sd:wl d < 549755813888) :
  Calls Tryz.prog 106 #[r,i,s] w (RetQ w x):=by
 have hd:=hl.pos
 obtain ⟨A1,n1,c1,rfl,hn1,hs1⟩:=hr.parts
 obtain ⟨A2,n2,c2,rfl,hn2,hs2⟩:=hi.parts
 obtain ⟨A3,n3,c3,rfl,hn3⟩:=hs.ex
 have G1:=hid (fun W (hb:Below w.heap.size w W)=>rNatGcd_any _ _ _ _ W (hs1.below hb) (hs2.below hb) sa sb)
 have sg:wl (Nat.gcd a.natAbs b.natAbs) < 549755813888:=by
  rcases Nat.eq_zero_or_pos a.natAbs with h0 | h0
  ·rw [h0,Nat.gcd_zero_left]; exact sb
  ·exact Nat.lt_of_le_of_lt (wl_mono (Nat.gcd_le_left _ h0)) sa
 have G2:=hid (fun v W (hv:IsNat W v (Nat.gcd a.natAbs b.natAbs)) (hb:Below w.heap.size w W)=>rNatGcd_any _ _ _ _ W hv (hs.below hb) sg sd)
 rw [gcd3_ref,h1] at G2
 have HL:=hid hl
 have HR:=hid hr
 have HI:=hid hi
 have HS:=hid hs
 clear hr hi hs hl h1 sg sa sb sd hn1 hn2 hn3 hs1 hs2
 generalize decide (a < 0) = p1 at *
 generalize decide (b < 0) = p2 at *
 generalize Nat.gcd a.natAbs b.natAbs = g at *
 go_enter Tryz.func106,Tryz.ntmps106
 go_wp2_with fail
 refine (G1.out _ bel).mono ?_
 rintro e W2 ⟨v2,rfl,hv2,hb2⟩
 obtain ⟨hc2,hf2,hz2⟩:=bcells hb2 (w.heap.size + 3) sP
 go_wp2_with fail
 refine (G2.out _ _ hv2 bel).mono ?_
 rintro e W3 ⟨v3,rfl,hv3,hb3⟩
 obtain ⟨hc3,hf3,hz3⟩:=bcells hb3 (w.heap.size + 3) oM
 have NB:NumBox W3 (w.heap.size + 2):=NumBox.of hc3 oM (NumBox.of hc2 oM (.nilQ sG sG sG sG sG))
 have B3:Below w.heap.size w W3:=bel
 obtain ⟨A4,c4,rfl,hc4,hw4⟩:=hv3
 rw [wl_one] at *
 obtain ⟨b4,o4,rfl,hb4,hcell4⟩:=hw4 oM
 have hcy:=hcell4 0 oM
 rw [show dg 1 0 = 1 from by simp [dg_zero],Nat.add_zero] at hcy
 clear hcell4 hw4 hv2
 go_wp2
 refine bodyPost_ret (v:=.agg #[.bool p1,.slice A1 n1 c1,.bool p2,.slice A2 n2 c2,.slice A3 n3 c3]) (by simp [results,Tryz.results106]; exact run_loadQ NB _ _ _ _ _) rfl ?_
 exact RetQ.box B3 oM NB (.mk HL.out (HR.out.below B3) (HI.out.below B3) (HS.out.below B3)) _ _ _ _ _
theorem rMake_big (r i s:Value) (a b:Int) (d k:Nat) (x:Cx) (w:World) (hr:IsRI w r a) (hi:IsRI w i b) (hs:IsNat w s d) (hd:0 < d) (hk:gcd3 a b d = k) (h1:k ≠ 1) (hl:Low x (a / (k:Nat)) (b / (k:Nat)) (d / k))
  (sa:wl a.natAbs < 549755813888) (sb:wl b.natAbs < 549755813888) (sd:wl d < 549755813888) :
  Calls Tryz.prog 106 #[r,i,s] w (RetQ w x):=by
 obtain ⟨A1,n1,c1,rfl,hn1,hs1⟩:=hr.parts
 obtain ⟨A2,n2,c2,rfl,hn2,hs2⟩:=hi.parts
 obtain ⟨A3,n3,c3,rfl,hn3⟩:=hs.ex
 have hk0:0 < k:=by rw [<- hk]; exact gcd3_pos hd
 obtain ⟨kd,ka,kb⟩:=gcd3_dvd a b d
 rw [hk] at kd ka kb
 have sk:wl k < 549755813888:=Nat.lt_of_le_of_lt (wl_mono (Nat.le_of_dvd hd kd)) sd
 have G1:=hid (fun W (hb:Below w.heap.size w W)=>rNatGcd_any _ _ _ _ W (hs1.below hb) (hs2.below hb) sa sb)
 have sg:wl (Nat.gcd a.natAbs b.natAbs) < 549755813888:=by
  rcases Nat.eq_zero_or_pos a.natAbs with h0 | h0
  ·rw [h0,Nat.gcd_zero_left]; exact sb
  ·exact Nat.lt_of_le_of_lt (wl_mono (Nat.gcd_le_left _ h0)) sa
 have G2:=hid (fun v W (hv:IsNat W v (Nat.gcd a.natAbs b.natAbs)) (hb:Below w.heap.size w W)=>rNatGcd_any _ _ _ _ W hv (hs.below hb) sg sd)
 rw [gcd3_ref,hk] at G2
 have D1:=hid (fun v W (hv:IsNat W v k) (hb:Below w.heap.size w W)=>rNatDiv_any _ _ _ _ W (hs1.below hb) hv hk0 sa sk)
 have D2:=hid (fun v W (hv:IsNat W v k) (hb:Below w.heap.size w W)=>rNatDiv_any _ _ _ _ W (hs2.below hb) hv hk0 sb sk)
 have D3:=hid (fun v W (hv:IsNat W v k) (hb:Below w.heap.size w W)=>rNatDiv_any _ _ _ _ W (hs.below hb) hv hk0 sd sk)
 have QA:=sign_quot hk0 ka
 have QB:=sign_quot hk0 kb
 have S1:=hid (fun v W (hv:IsNat W v (a.natAbs / k))=>rsigned_any _ v _ (a / (k:Int)) W hv QA.1 QA.2)
 have S2:=hid (fun v W (hv:IsNat W v (b.natAbs / k))=>rsigned_any _ v _ (b / (k:Int)) W hv QB.1 QB.2)
 have HL:=hid hl
 have H1:=hid h1
 clear hr hi hs hl h1 hk sg sa sb sd sk hk0 kd ka kb hn1 hn2 hn3 hs1 hs2 QA QB hd
 generalize decide (a < 0) = p1 at *
 generalize decide (b < 0) = p2 at *
 generalize Nat.gcd a.natAbs b.natAbs = g at *
 go_enter Tryz.func106,Tryz.ntmps106
 go_wp2_with fail
 refine (G1.out _ bel).mono ?_
 rintro e W2 ⟨v2,rfl,hv2,hb2⟩
 obtain ⟨hc2,hf2,hz2⟩:=bcells hb2 (w.heap.size + 3) sP
 go_wp2_with fail
 refine (G2.out _ _ hv2 bel).mono ?_
 rintro e W3 ⟨v3,rfl,hv3,hb3⟩
 obtain ⟨hc3,hf3,hz3⟩:=bcells hb3 (w.heap.size + 3) oM
 have NB:NumBox W3 (w.heap.size + 2):=NumBox.of hc3 oM (NumBox.of hc2 oM (.nilQ sG sG sG sG sG))
 have B3:Below w.heap.size w W3:=bel
 have k0:W3.cell? ⟨w.heap.size,0,none⟩ = some (.bool p1):=by rw [hc3 _ _ oM,hc2 _ _ oM]; simp [go_sem]
 have k1:W3.cell? ⟨w.heap.size,1,none⟩ = some (.slice A1 n1 c1):=by rw [hc3 _ _ oM,hc2 _ _ oM]; simp [go_sem]
 have k2:W3.cell? ⟨w.heap.size + 1,0,none⟩ = some (.bool p2):=by rw [hc3 _ _ oM,hc2 _ _ oM]; simp [go_sem]
 have k3:W3.cell? ⟨w.heap.size + 1,1,none⟩ = some (.slice A2 n2 c2):=by rw [hc3 _ _ oM,hc2 _ _ oM]; simp [go_sem]
 have kf:∀ o,W3.frozen? ⟨w.heap.size + 2,o,none⟩ = false:=fun o=>by rw [hf3 _ _ oM,hf2 _ _ oM]; simp [go_sem]
 have kc:=fun o=>(hc3 (w.heap.size + 2) o oM).trans (hc2 _ o oM)
 have HNB:=hid NB
 clear NB hb2 hc2 hf2 hz2 hb3 hc3 hf3 hv2
 have HV3:=hid hv3
 obtain ⟨A4,c4,rfl,hc4,hw4⟩:=hv3
 have hq:(wl k = 1 /\ ∃ b o,A4 = some ⟨b,o,none⟩ /\ b < W3.heap.size /\ W3.cell? ⟨b,o,none⟩ = some (.int .u32 (k:Int))) ∨ ((wl k:Int) == 1) = false:=by
  by_cases hk1:wl k = 1
  ·refine .inl ⟨hk1,?_⟩
   obtain ⟨b4,o4,e4,hb4,hcell4⟩:=hw4 oM
   have hcy:=hcell4 0 oM
   have hx:=vs_dg_wl k
   rw [hk1,vs_one] at hx
   rw [hx,Nat.add_zero] at hcy
   exact ⟨b4,o4,e4,hb4,hcy⟩
  ·exact .inr sO
 clear hw4 hc4
 have h1:=H1.out
 have hk2:((k:Int) == 1) = false:=sO
 clear h1
 rcases hq with ⟨hk1,b4,o4,rfl,hb4,hcy⟩ | hk1
 all_goals
  try rw [hk1] at HV3
  go_wp2_with fail
  refine (D1.out _ _ HV3.out B3).mono ?_
  rintro e W4 ⟨v4,u4,rfl,hv4,hu4,hb4⟩
  obtain ⟨hc4,hf4,hz4⟩:=bcells hb4 (w.heap.size + 3) oM
  have k0':=(hc4 w.heap.size 0 oM).trans k0
  have k1':=(hc4 w.heap.size 1 oM).trans k1
  have k2':=(hc4 (w.heap.size + 1) 0 oM).trans k2
  have k3':=(hc4 (w.heap.size + 1) 1 oM).trans k3
  have kf':∀ o,W4.frozen? ⟨w.heap.size + 2,o,none⟩ = false:=fun o=>(hf4 _ o oM).trans (kf o)
  have kc':=fun o=>(hc4 _ o oM).trans (kc o)
  have HB4:=hid hb4
  have HV4:=hid hv4
  have HNB4:=hid (NumBox.of (g:=w.heap.size + 2) hc4 oM HNB.out)
  clear hc4 hf4 hb4 hv4 hu4
  go_wp2_with fail
  refine (D2.out _ _ (HV3.out.below HB4.out) (bT B3 HB4.out)).mono ?_
  rintro e W5 ⟨v5,u5,rfl,hv5,hu5,hb5⟩
  obtain ⟨hc5,hf5,hz5⟩:=bcells hb5 (w.heap.size + 3) oM
  have k0'':=(hc5 w.heap.size 0 oM).trans k0'
  have k2'':=(hc5 (w.heap.size + 1) 0 oM).trans k2'
  have kf'':∀ o,W5.frozen? ⟨w.heap.size + 2,o,none⟩ = false:=fun o=>(hf5 _ o oM).trans (kf' o)
  have kc'':=fun o=>(hc5 _ o oM).trans (kc' o)
  have HB5:=hid hb5
  have HV5:=hid hv5
  have HNB5:=hid (NumBox.of (g:=w.heap.size + 2) hc5 oM HNB4.out)
  clear hc5 hf5 hb5 hv5 hu5
  go_wp2_with fail
  refine (D3.out _ _ ((HV3.out.below HB4.out).below HB5.out) (bT (bT B3 HB4.out) HB5.out)).mono ?_
  rintro e W6 ⟨v6,u6,rfl,hv6,hu6,hb6⟩
  obtain ⟨hc6,hf6,hz6⟩:=bcells hb6 (w.heap.size + 3) oM
  have k0:=(hc6 w.heap.size 0 oM).trans k0''
  have k2:=(hc6 (w.heap.size + 1) 0 oM).trans k2''
  have kf:∀ o,W6.frozen? ⟨w.heap.size + 2,o,none⟩ = false:=fun o=>(hf6 _ o oM).trans (kf'' o)
  have kc:=fun o=>(hc6 _ o oM).trans (kc'' o)
  have HNB6:=hid (NumBox.of (g:=w.heap.size + 2) hc6 oM HNB5.out)
  have B6:Below w.heap.size w W6:=bT (bT (bT B3 HB4.out) HB5.out) hb6
  have HA:=hid (fun W (hb:Below W6.heap.size W6 W)=>S1.out v4 W (((HV4.out.below HB5.out).below hb6).below hb))
  have HB:=hid (fun W (hb:Below W6.heap.size W6 W)=>S2.out v5 W ((HV5.out.below hb6).below hb))
  obtain ⟨A9,n9,c9,rfl,-⟩:=hv6.ex
  have HS:=hid hv6
  clear hc6 hf6 hb6 hv6 hu6 k0' k1' k2' k3' k0'' k2'' kf' kf'' kc' kc''
  have hne1:¬ (w.heap.size + 1 + 1 = w.heap.size):=oM
  have hne2:¬ (w.heap.size = w.heap.size + 1 + 1):=oM
  go_wp2_with fail
  go_region_held3 (fun w'=>w'.cell? ⟨w.heap.size,0,none⟩ = some (.bool p1) /\ w'.cell? ⟨w.heap.size + 1,0,none⟩ = some (.bool p2)) (go_keep) (first | (go_at_call 144; (first | ((with_reducible refine (HA.out _ ?_).mono ?_); (exact bel); (rintro e W7 ⟨r7,rfl,hr7,hb7⟩; obtain ⟨A7,n7,c7,rfl,-,-⟩:=hr7.parts; generalize decide (a / (k:Int) < 0) = q7 at *; obtain ⟨hc7,hf7,hz7⟩:=bcells hb7 (w.heap.size + 3) (by simp <;> omega))) | ((with_reducible refine (HB.out _ ?_).mono ?_); (exact bel); (rintro e W8 ⟨r8,rfl,hr8,hb8⟩; obtain ⟨A8,n8,c8,rfl,-,-⟩:=hr8.parts; generalize decide (b / (k:Int) < 0) = q8 at *; have kb8:Below W7.heap.size W7 W8:=bel; clear hb8; obtain ⟨hc8,hf8,hz8⟩:=bcells kb8 (w.heap.size + 3) oM)))))
  go_wp2
  have C7:Below W6.heap.size W6 W7:=bel
  have C8:=bT C7 kb8
  have B8:=bT B6 C8
  have NB:NumBox W8 (w.heap.size + 2):=NumBox.of hc8 oM (NumBox.of hc7 (g:=w.heap.size + 2) oM HNB6.out)
  refine bodyPost_ret (v:=.agg #[.bool q7,.slice A7 n7 c7,.bool q8,.slice A8 n8 c8,.slice A9 n9 c9]) (by simp [results,Tryz.results106]; exact run_loadQ NB _ _ _ _ _) rfl ?_
  exact RetQ.box B8 oM NB (.mk HL.out (hr7.below kb8) hr8 (HS.out.below C8)) _ _ _ _ _
theorem rMake_any (r i s:Value) (a b:Int) (d:Nat) (x:Cx) (w:World) (hr:IsRI w r a) (hi:IsRI w i b) (hs:IsNat w s d) (hd:0 < d) (h1:x.re * (d:Rat) = (a:Rat)) (h2:x.im * (d:Rat) = (b:Rat))
  (sa:wl a.natAbs < 549755813888) (sb:wl b.natAbs < 549755813888) (sd:wl d < 549755813888) :
  Calls Tryz.prog 106 #[r,i,s] w (RetQ w x):=by
 have hl:=Low.of hd h1 h2
 by_cases hk:gcd3 a b d = 1
 ·rw [hk] at hl
  exact rMake_one r i s a b d x w hr hi hs (by simpa using hl) hk sa sb sd
 ·exact rMake_big r i s a b d _ x w hr hi hs hd rfl hk hl sa sb sd
theorem IsRI.zero (w:World) (A:Option Addr) (c:Nat):IsRI w (.agg #[.bool false,.slice A 0 c]) 0:=⟨_,sP,IsNat.zero w A c⟩
theorem IsRI.box5 {w:World} {v:Value} {z:Int} {g:Nat} (h:IsRI w v z) (hB:NumBox w g) (v0 v1 v2 v3 v4:Value) :
  IsRI (((((w.setCell ⟨g,0,none⟩ v0).setCell ⟨g,1,none⟩ v1).setCell ⟨g,2,none⟩ v2).setCell ⟨g,3,none⟩ v3).setCell ⟨g,4,none⟩ v4) v z:=by
 obtain ⟨s,h1,h2⟩:=h
 exact ⟨s,h1,h2.box5 hB _ _ _ _ _⟩
theorem run_loadQa {w:World} {g:Nat} (h:NumBox w g) (hg:g < w.heap.size) (v0 v1 v2 v3 v4:Value) (C:Array Value) (T:TypeId) :
  ((Sem.run Tryz.prog (asAddr (Value.pointer (some { block:=g,off:=0 }))) ((((((w.setCell ⟨g,0,none⟩ v0).setCell ⟨g,1,none⟩ v1).setCell ⟨g,2,none⟩ v2).setCell ⟨g,3,none⟩ v3).setCell ⟨g,4,none⟩ v4).alloc (.cells C T))).andThen
   fun a w'=>Sem.run Tryz.prog (loadVar 42 a) w') =
  Result.ok (Value.agg #[v0,v1,v2,v3,v4]) ((((((w.setCell ⟨g,0,none⟩ v0).setCell ⟨g,1,none⟩ v1).setCell ⟨g,2,none⟩ v2).setCell ⟨g,3,none⟩ v3).setCell ⟨g,4,none⟩ v4).alloc (.cells C T)):=by
 obtain ⟨o0,o1,o2,o3,o4,h0,h1,h2,h3,h4,-⟩:=h
 simp [go_sem,h0,h1,h2,h3,h4,hg]
theorem rWhole_any (z:Int) (w:World) (h1:-9223372036854775808 <= z) (h2:z < 9223372036854775808) :
  Calls Tryz.prog 49 #[.int .i64 z] w (RetQ w (.int z)):=by
 have HF:=hid (fun W=>rIntOf_any z W h1 h2)
 clear h1 h2
 go_enter Tryz.func49,Tryz.ntmps49
 go_wp2_with fail
 refine (HF.out _).mono ?_
 rintro e W2 ⟨r,rfl,hr,hb2⟩
 obtain ⟨hc2,hf2,hz2⟩:=bcells hb2 (w.heap.size + 1) sP
 obtain ⟨A,n,c,rfl,hn,-⟩:=hr.parts
 clear hn
 generalize decide (z < 0) = q at *
 have lt0:w.heap.size < W2.heap.size:=oM
 go_wp2
 have NB:NumBox W2 w.heap.size:=NumBox.of hc2 oM (.nilQ sG sG sG sG sG)
 refine bodyPost_ret (v:=.agg #[.bool q,.slice A n c,.bool false,.slice none 0 0,.slice (some ⟨W2.heap.size,0,none⟩) 1 1]) (by simp [results,Tryz.results49]; exact run_loadQa NB lt0 _ _ _ _ _ _ _) rfl ?_
 have B2:Below w.heap.size w W2:=bT (below_alloc _ _) hb2
 exact ⟨_,rfl,.mk (Low.int z) ((hr.box5 NB _ _ _ _ _).below (below_alloc _ _)) (IsRI.zero _ _ _) (IsNat.one _ _ sP sG 1 lR),bT (below_box5 B2 oM _ _ _ _ _) (below_alloc _ _)⟩
def RetQE (w:World) (x:Cx) (k:Int) (e:Ending) (w':World):Prop:=∃ v,e = .returned (.tuple #[v,.int .i64 k]) /\ IsQ w' v x /\ Below w.heap.size w w'
theorem RetQE.box {w W:World} {v:Value} {x:Cx} {k:Int} {g:Nat} (hb:Below w.heap.size w W) (hg:w.heap.size <= g) (hB:NumBox W g) (h:IsQ W v x) (v0 v1 v2 v3 v4:Value) :
  RetQE w x k (.returned (.tuple #[v,.int .i64 k])) (((((W.setCell ⟨g,0,none⟩ v0).setCell ⟨g,1,none⟩ v1).setCell ⟨g,2,none⟩ v2).setCell ⟨g,3,none⟩ v3).setCell ⟨g,4,none⟩ v4) :=
 ⟨v,rfl,h.box5 hB _ _ _ _ _,below_box5 hb hg _ _ _ _ _⟩
theorem run_loadQe {w:World} {g:Nat} (h:NumBox w g) (v0 v1 v2 v3 v4 r:Value) :
  ((Sem.run Tryz.prog (asAddr (Value.pointer (some { block:=g,off:=0 }))) (((((w.setCell ⟨g,0,none⟩ v0).setCell ⟨g,1,none⟩ v1).setCell ⟨g,2,none⟩ v2).setCell ⟨g,3,none⟩ v3).setCell ⟨g,4,none⟩ v4)).andThen
   fun a w'=>(Sem.run Tryz.prog (loadVar 42 a) w').andThen fun a w'=>Result.ok (Value.tuple #[a,r]) w') =
  Result.ok (Value.tuple #[Value.agg #[v0,v1,v2,v3,v4],r]) (((((w.setCell ⟨g,0,none⟩ v0).setCell ⟨g,1,none⟩ v1).setCell ⟨g,2,none⟩ v2).setCell ⟨g,3,none⟩ v3).setCell ⟨g,4,none⟩ v4):=by
 obtain ⟨o0,o1,o2,o3,o4,h0,h1,h2,h3,h4,-⟩:=h
 simp [go_sem,h0,h1,h2,h3,h4]
theorem rNew_any (p q r:Int) (w:World) (hp:-9223372036854775808 <= p) (hp':p < 9223372036854775808) (hq:-9223372036854775808 <= q) (hq':q < 9223372036854775808) (hr:-9223372036854775808 <= r) (hr':r < 9223372036854775808) (h0:r ≠ 0) :
  Calls Tryz.prog 114 #[.int .i64 p,.int .i64 q,.int .i64 r] w (RetQE w (.ratio p q r) 0):=by
 have s1:=wl_i64 hp hp'
 have s2:=wl_i64 hq hq'
 have s3:=wl_i64 hr hr'
 have FR:=hid (fun W=>rIntOf_any r W hr hr')
 have FP:=hid (fun W=>rIntOf_any p W hp hp')
 have FQ:=hid (fun W=>rIntOf_any q W hq hq')
 have HMk:=hid (fun W v u t (h1:IsRI W v (if decide (r < 0) then -p else p)) (h2:IsRI W u (if decide (r < 0) then -q else q)) (h3:IsNat W t r.natAbs) =>
  rMake_any v u t _ _ r.natAbs (.ratio p q r) W h1 h2 h3 oM (ratio_terms h0) (ratio_terms h0) (by split <;> (try rw [Int.natAbs_neg]) <;> omega) (by split <;> (try rw [Int.natAbs_neg]) <;> omega) oM)
 have r1:(r == 0) = false:=by simpa using h0
 clear s1 s2 s3 hp hp' hq hq' hr hr' h0
 go_enter Tryz.func114,Tryz.ntmps114
 go_wp2_with fail
 refine (FR.out _).mono ?_
 rintro e W2 ⟨v,rfl,hr2,hb2⟩
 obtain ⟨hc2,hf2,hz2⟩:=bcells hb2 (w.heap.size + 1) sP
 obtain ⟨A2,n2,c2,rfl,hn,hs2⟩:=hr2.parts
 clear hn hr2
 generalize decide (r < 0) = sg at *
 go_upto_region 4 with fail
 obtain ⟨W1,hW1⟩:∃ W1:World,W1 = W2.alloc (.cells #[.bool sg,.slice A2 n2 c2] 40):=⟨_,rfl⟩
 rw [<- hW1]
 have B1:Below w.heap.size w W1:=by rw [hW1]; exact bel
 have hz1:w.heap.size + 1 <= W2.heap.size /\ W2.heap.size < W1.heap.size:=by rw [hW1]; simp; omega
 have hn1:IsNat W1 (.slice A2 n2 c2) r.natAbs:=by rw [hW1]; exact hs2.below (below_alloc _ _)
 have d0:W1.cell? ⟨W2.heap.size,0,none⟩ = some (.bool sg):=by rw [hW1]; simp [go_sem]
 have d1:W1.cell? ⟨W2.heap.size,1,none⟩ = some (.slice A2 n2 c2):=by rw [hW1]; simp [go_sem]
 have kc:∀ o,W1.cell? ⟨w.heap.size,o,none⟩ = (w.alloc (.cells #[.bool false,.slice none 0 0,.bool false,.slice none 0 0,.slice none 0 0] 42)).cell? ⟨w.heap.size,o,none⟩:=fun o=>by rw [hW1]; exact ((bcells (below_alloc W2 _) _ lR).1 _ o oM).trans (hc2 _ o oM)
 have kf:∀ o,W1.frozen? ⟨w.heap.size,o,none⟩ = false:=fun o=>by rw [hW1]; exact ((bcells (below_alloc W2 _) _ lR).2.1 _ o oM).trans ((hf2 _ o oM).trans sG)
 clear hW1 hc2 hf2 hs2
 have HN1:=hid hn1
 clear hn1
 go_wp2_with fail
 refine (FP.out _).mono ?_
 rintro e W3 ⟨v,rfl,hp3,hb3⟩
 obtain ⟨hc3,hf3,hz3⟩:=bcells hb3 (W2.heap.size + 1) oM
 obtain ⟨A3,n3,c3,rfl,hn,-⟩:=hp3.parts
 clear hn
 have HP3:=hid hp3
 clear hp3
 have hdp:decide (p < 0) = decide (p < 0):=rfl
 generalize hpp:decide (p < 0) = p3 at *
 clear hpp
 go_wp2_with fail
 refine (FQ.out _).mono ?_
 rintro e W4 ⟨v,rfl,hq4,hb4⟩
 obtain ⟨hc4,hf4,hz4⟩:=bcells hb4 (W2.heap.size + 1) oM
 obtain ⟨A4,n4,c4,rfl,hn,-⟩:=hq4.parts
 clear hn hdp
 have HQ4:=hid hq4
 clear hq4
 generalize decide (q < 0) = p4 at *
 go_upto_region 5 with fail
 obtain ⟨W5,hW5⟩:∃ W5:World,W5 = (W4.alloc (.cells #[.bool p3,.slice A3 n3 c3] 40)).alloc (.cells #[.bool p4,.slice A4 n4 c4] 40):=⟨_,rfl⟩
 rw [<- hW5]
 have C5:Below W4.heap.size W4 W5:=by rw [hW5]; exact bel
 have hz5:W4.heap.size + 1 < W5.heap.size:=by rw [hW5]; simp
 have a0:W5.cell? ⟨W4.heap.size,0,none⟩ = some (.bool p3):=by rw [hW5]; simp [go_sem]
 have a1:W5.cell? ⟨W4.heap.size,1,none⟩ = some (.slice A3 n3 c3):=by rw [hW5]; simp [go_sem]
 have b0:W5.cell? ⟨W4.heap.size + 1,0,none⟩ = some (.bool p4):=by rw [hW5]; simp [go_sem]
 have b1:W5.cell? ⟨W4.heap.size + 1,1,none⟩ = some (.slice A4 n4 c4):=by rw [hW5]; simp [go_sem]
 have ya:∀ o,W5.frozen? ⟨W4.heap.size,o,none⟩ = false:=fun o=>by rw [hW5]; simp [go_sem]
 have yb:∀ o,W5.frozen? ⟨W4.heap.size + 1,o,none⟩ = false:=fun o=>by rw [hW5]; simp [go_sem]
 have q5:=bcells C5 W4.heap.size lR
 have e0:=(q5.1 _ 0 oM).trans ((hc4 W2.heap.size 0 oM).trans ((hc3 _ 0 oM).trans d0))
 have e1:=(q5.1 _ 1 oM).trans ((hc4 W2.heap.size 1 oM).trans ((hc3 _ 1 oM).trans d1))
 have kc5:=fun o=>(q5.1 _ o oM).trans ((hc4 w.heap.size o oM).trans ((hc3 _ o oM).trans (kc o)))
 have kf5:=fun o=>(q5.2.1 _ o oM).trans ((hf4 w.heap.size o oM).trans ((hf3 _ o oM).trans (kf o)))
 have NB5:NumBox W5 w.heap.size:=.nilQ (by rw [kc5]; simp [go_sem]) (by rw [kc5]; simp [go_sem]) (by rw [kc5]; simp [go_sem]) (by rw [kc5]; simp [go_sem]) (by rw [kc5]; simp [go_sem])
 have HP5:=hid ((HP3.out.below hb4).below C5)
 have HQ5:=hid (HQ4.out.below C5)
 have HN5:=hid (((HN1.out.below hb3).below hb4).below C5)
 have B5:Below w.heap.size w W5:=bT (bT (bT B1 hb3) hb4) C5
 have HNB:=hid NB5
 have lt1:w.heap.size < W2.heap.size:=oM
 have lt2:W2.heap.size < W4.heap.size:=oM
 clear hW5 q5 hc3 hf3 hc4 hf4 d0 d1 kc kf NB5 C5 hb3 hb4 hz3 hz4 HP3 HQ4 HN1 hz1 hz2 hb2 B1
 cases sg
 ·simp only [Bool.false_eq_true,↓reduceIte] at HMk
  go_wp2_with fail
  refine (HMk.out _ _ _ _ HP5.out HQ5.out HN5.out).mono ?_
  rintro e W9 ⟨v9,rfl,hq9,hb9⟩
  obtain ⟨hc9,hf9,hz9⟩:=bcells hb9 (w.heap.size + 1) oM
  obtain ⟨E1,m1,x1,o1,E2,m2,x2,o2,E3,m3,x3,a,b,d,rfl,-⟩:=hq9.parts
  have HQ9:=hid hq9
  clear hq9
  go_wp2
  have NB:NumBox W9 w.heap.size:=NumBox.of hc9 oM HNB.out
  refine bodyPost_ret (v:=.tuple #[.agg #[.bool o1,.slice E1 m1 x1,.bool o2,.slice E2 m2 x2,.slice E3 m3 x3],.int .i64 0]) (by simp [results,Tryz.results114]; exact run_loadQe NB _ _ _ _ _ _) rfl ?_
  exact RetQE.box (bT B5 hb9) oM NB HQ9.out _ _ _ _ _
 ·simp only [↓reduceIte] at HMk
  have HA:=hid (fun W (hb:Below W5.heap.size W5 W)=>rIntNeg_any _ p W (HP5.out.below hb))
  have HB:=hid (fun W (hb:Below W5.heap.size W5 W)=>rIntNeg_any _ q W (HQ5.out.below hb))
  go_wp2_with fail
  go_region_with (first | (go_at_call 111; (first | ((with_reducible refine (HA.out _ ?_).mono ?_); (exact bel); (rintro e W6 ⟨r6,rfl,hr6,hb6⟩; obtain ⟨A6,n6,c6,rfl,hn6,-⟩:=hr6.parts; clear hn6; generalize decide (-p < 0) = q6 at *; have kb6:Below W5.heap.size W5 W6:=bel; clear hb6; obtain ⟨hc6,hf6,hz6⟩:=bcells kb6 (W4.heap.size + 2) oM)) | ((with_reducible refine (HB.out _ ?_).mono ?_); (exact bel); (rintro e W7 ⟨r7,rfl,hr7,hb7⟩; obtain ⟨A7,n7,c7,rfl,hn7,-⟩:=hr7.parts; clear hn7; generalize decide (-q < 0) = q7 at *; have kb7:Below W6.heap.size W6 W7:=bel; clear hb7; obtain ⟨hc7,hf7,hz7⟩:=bcells kb7 (W4.heap.size + 2) oM)))))
  all_goals
   have u0:=(hc7 W4.heap.size 0 oM).trans ((hc6 _ 0 oM).trans a0)
   have u1:=(hc7 W4.heap.size 1 oM).trans ((hc6 _ 1 oM).trans a1)
   have v0:=(hc7 (W4.heap.size + 1) 0 oM).trans ((hc6 _ 0 oM).trans b0)
   have v1:=(hc7 (W4.heap.size + 1) 1 oM).trans ((hc6 _ 1 oM).trans b1)
   have IA:IntBox W7 W4.heap.size:=.mk' u0 u1
   have IB:IntBox W7 (W4.heap.size + 1):=.mk' v0 v1
   have B7:=bT (bT B5 kb6) kb7
   have NB7:NumBox W7 w.heap.size:=NumBox.of hc7 oM (NumBox.of hc6 oM HNB.out)
   have ne1:w.heap.size ≠ W4.heap.size:=oM
   have ne2:w.heap.size ≠ W4.heap.size + 1:=oM
   have ne3:W2.heap.size ≠ W4.heap.size:=oM
   have ne4:W2.heap.size ≠ W4.heap.size + 1:=oM
   have IB':=IB.set2 (g:=W4.heap.size) oM (.bool q6) (.slice A6 n6 c6)
   obtain ⟨W8,hW8⟩:∃ W8:World,W8 = ((((W7.setCell ⟨W4.heap.size,0,none⟩ (.bool q6)).setCell ⟨W4.heap.size,1,none⟩ (.slice A6 n6 c6)).setCell ⟨W4.heap.size + 1,0,none⟩ (.bool q7)).setCell ⟨W4.heap.size + 1,1,none⟩ (.slice A7 n7 c7)):=⟨_,rfl⟩
   rw [<- hW8]
   have HP8:IsRI W8 (.agg #[.bool q6,.slice A6 n6 c6]) (-p):=by rw [hW8]; exact ((hr6.below kb7).box2 IA _ _).box2 IB' _ _
   have HQ8:IsRI W8 (.agg #[.bool q7,.slice A7 n7 c7]) (-q):=by rw [hW8]; exact (hr7.box2 IA _ _).box2 IB' _ _
   have HN8:IsNat W8 (.slice A2 n2 c2) r.natAbs:=by rw [hW8]; exact (((HN5.out.below kb6).below kb7).box2 IA _ _).box2 IB' _ _
   have B8:Below w.heap.size w W8:=by rw [hW8]; exact (((B7.setCell (by simp <;> omega) _).setCell (by simp <;> omega) _).setCell (by simp <;> omega) _).setCell (by simp <;> omega) _
   have f0:W8.cell? ⟨W4.heap.size,0,none⟩ = some (.bool q6):=by rw [hW8]; simp [go_sem,u0,u1,v0,v1]
   have f1:W8.cell? ⟨W4.heap.size,1,none⟩ = some (.slice A6 n6 c6):=by rw [hW8]; simp [go_sem,u0,u1,v0,v1]
   have f2:W8.cell? ⟨W4.heap.size + 1,0,none⟩ = some (.bool q7):=by rw [hW8]; simp [go_sem,u0,u1,v0,v1]
   have f3:W8.cell? ⟨W4.heap.size + 1,1,none⟩ = some (.slice A7 n7 c7):=by rw [hW8]; simp [go_sem,u0,u1,v0,v1]
   have f4:W8.cell? ⟨W2.heap.size,1,none⟩ = some (.slice A2 n2 c2):=by rw [hW8,cell_set2 ne4.symm,cell_set2 ne3.symm]; exact (hc7 _ 1 oM).trans ((hc6 _ 1 oM).trans e1)
   have kc8:∀ o,W8.cell? ⟨w.heap.size,o,none⟩ = (w.alloc (.cells #[.bool false,.slice none 0 0,.bool false,.slice none 0 0,.slice none 0 0] 42)).cell? ⟨w.heap.size,o,none⟩:=fun o=>by rw [hW8,cell_set2 ne2.symm,cell_set2 ne1.symm]; exact (hc7 w.heap.size o oM).trans ((hc6 _ o oM).trans (kc5 o))
   have kf8:∀ o,W8.frozen? ⟨w.heap.size,o,none⟩ = false:=fun o=>by rw [hW8]; simp only [World.frozen?_setCell]; exact (hf7 _ o oM).trans ((hf6 _ o oM).trans (kf5 o))
   have NB8:NumBox W8 w.heap.size:=by rw [hW8]; exact (NB7.set2 ne1.symm _ _).set2 ne2.symm _ _
   have hz8:w.heap.size + 1 <= W8.heap.size:=by rw [hW8]; simp; omega
   clear hW8 u0 u1 v0 v1 IA IB B7 NB7 ne1 ne2 ne3 ne4 IB' hr6 hr7 kb6 kb7 hc6 hc7 hf6 hf7 hz6 hz7 a0 a1 b0 b1 ya yb e0 e1 kc5 kf5
   go_wp2_with fail
   refine (HMk.out _ _ _ _ HP8 HQ8 HN8).mono ?_
   rintro e W9 ⟨v9,rfl,hq9,hb9⟩
   obtain ⟨hc9,hf9,hz9⟩:=bcells hb9 (w.heap.size + 1) oM
   obtain ⟨E1,m1,x1,o1,E2,m2,x2,o2,E3,m3,x3,a,b,d,rfl,-⟩:=hq9.parts
   have HQ9:=hid hq9
   clear hq9
   go_wp2
   have NB:NumBox W9 w.heap.size:=NumBox.of hc9 oM NB8
   refine bodyPost_ret (v:=.tuple #[.agg #[.bool o1,.slice E1 m1 x1,.bool o2,.slice E2 m2 x2,.slice E3 m3 x3],.int .i64 0]) (by simp [results,Tryz.results114]; exact run_loadQe NB _ _ _ _ _ _) rfl ?_
   exact RetQE.box (bT B8 hb9) oM NB HQ9.out _ _ _ _ _
end Go.Proofs.YtffegeaflohfhaaGreatDoor
