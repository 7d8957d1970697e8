import Derived.Test.YtjodlmanheeajaaGreatDoorR01
import Derived.Test.YtjodlmanheeajaaGreatDoorR07
import Derived.Test.YtjodlmanheeajaaGreatDoorR11
import Derived.Test.YtjodlmanheeajaaGreatDoorR12
import Derived.Test.YtjodlmanheeajaaGreatDoorR02
set_option linter.unusedVariables false
set_option linter.unusedSimpArgs false
set_option maxRecDepth 100000
set_option maxHeartbeats 8000000
namespace Go.Proofs.YtjodlmanheeajaaGreatDoor
open Go.RowKit
def IsNum (w:World) (v:Value) (x:Cx):Prop:=∃ r p i q s a b d,v = .agg #[r,.bool p,i,.bool q,s] /\ Low x a b d /\ IsInt w (.agg #[r,.bool p]) a /\ IsInt w (.agg #[i,.bool q]) b /\ IsNat w s (dn d)
theorem IsNum.below {w w':World} {v:Value} {x:Cx} (h:IsNum w v x) (hb:Below w.heap.size w w'):IsNum w' v x:=by
 obtain ⟨r,p,i,q,s,a,b,d,h1,h2,h3,h4,h5⟩:=h
 exact ⟨r,p,i,q,s,a,b,d,h1,h2,h3.below hb,h4.below hb,h5.below hb⟩
def RetNum (w:World) (x:Cx) (e:Ending) (w':World):Prop:=∃ v,e = .returned v /\ IsNum w' v x /\ Below w.heap.size w w'
theorem bcell {W w1:World} (hb:Below W.heap.size W w1):(∀ b o,b < W.heap.size -> w1.cell? ⟨b,o,none⟩ = W.cell? ⟨b,o,none⟩) /\ (∀ b o,b < W.heap.size -> w1.frozen? ⟨b,o,none⟩ = W.frozen? ⟨b,o,none⟩) :=
 ⟨fun b o h=>hb.cell (p:=⟨b,o,none⟩) h,fun b o h=>hb.frozen (p:=⟨b,o,none⟩) h⟩
theorem bcells {W w1:World} (hb:Below W.heap.size W w1) (n:Nat) (hn:n <= W.heap.size):(∀ b o,b < n -> w1.cell? ⟨b,o,none⟩ = W.cell? ⟨b,o,none⟩) /\ (∀ b o,b < n -> w1.frozen? ⟨b,o,none⟩ = W.frozen? ⟨b,o,none⟩) /\ n <= w1.heap.size :=
 ⟨fun b o h=>hb.cell (p:=⟨b,o,none⟩) (lL h hn),fun b o h=>hb.frozen (p:=⟨b,o,none⟩) (lL h hn),Nat.le_trans hn hb.size⟩
theorem IsNum.parts {w:World} {v:Value} {x:Cx} (h:IsNum w v x):∃ A n c p A' n' c' p' A'' n'' c'' a b d,
  v = .agg #[.slice A n c,.bool p,.slice A' n' c',.bool p',.slice A'' n'' c''] /\ Low x a b d /\
  IsInt w (.agg #[.slice A n c,.bool p]) a /\ IsInt w (.agg #[.slice A' n' c',.bool p']) b /\ IsNat w (.slice A'' n'' c'') (dn d) /\ n'' = wl (dn d) /\ p = decide (a < 0) /\ p' = decide (b < 0) /\
  IsNat w (.slice A n c) a.natAbs /\ IsNat w (.slice A' n' c') b.natAbs:=by
 obtain ⟨r,p,i,q,s,a,b,d,rfl,hl,hr,hi,hs⟩:=h
 obtain ⟨A,n,c,e1,-,h1⟩:=hr.parts
 obtain ⟨A',n',c',e2,-,h2⟩:=hi.parts
 obtain ⟨A'',n'',c'',rfl,hnn⟩:=hs.ex
 simp at e1 e2
 obtain ⟨rfl,rfl⟩:=e1
 obtain ⟨rfl,rfl⟩:=e2
 exact ⟨A,n,c,_,A',n',c',_,A'',n'',c'',a,b,d,rfl,hl,hr,hi,hs,hnn,rfl,rfl,h1,h2⟩
theorem clear_any (v:Value) (x:Cx) (w:World) (h:IsNum w v x) :
  Calls Tryz.prog 220 #[v] w fun e w'=>e = .returned (.bool (!decide (x = .zero))) /\ Below w.heap.size w w':=by
 obtain ⟨A,n,c,p,A',n',c',p',A'',n'',c'',a,b,d,rfl,hl,hr,hi,hs,-,-,-,-,-⟩:=h.parts
 have hd:decide (x = .zero) = (decide (a = 0) && decide (b = 0)):=by
  rw [Bool.eq_iff_iff]; simp [hl.clear]
 rw [hd]
 have HA:=hid (fun W (hb:Below w.heap.size w W)=>isZero_any _ _ W (hr.below hb))
 have HB:=hid (fun W (hb:Below w.heap.size w W)=>isZero_any _ _ W (hi.below hb))
 clear hl hr hi hs hd h
 generalize decide (a = 0) = p1 at *
 generalize decide (b = 0) = p2 at *
 cases p1 <;> cases p2
 all_goals
  go_enter Tryz.func220,Tryz.ntmps220
  go_wp2_with fail
  refine (HA.out _ (below_alloc _ _)).mono ?_
  rintro e W2 ⟨rfl,hb2⟩
  obtain ⟨hc,hf⟩:=bcell hb2
  have hz:w.heap.size < W2.heap.size:=by have:=hb2.size; simp at this; omega
  first
  | (go_wp2
     go_ret
     exact ⟨rfl,bT (below_alloc _ _) hb2⟩)
  | (go_wp2_with fail
     refine (HB.out _ (bT (below_alloc _ _) hb2)).mono ?_
     rintro e W3 ⟨rfl,hb3⟩
     go_wp2
     go_ret
     exact ⟨rfl,bT (bT (below_alloc _ _) hb2) hb3⟩)
theorem real_any (v:Value) (x:Cx) (w:World) (h:IsNum w v x) :
  Calls Tryz.prog 59 #[v] w fun e w'=>e = .returned (.bool (decide (x.im = 0))) /\ Below w.heap.size w w':=by
 obtain ⟨A,n,c,p,A',n',c',p',A'',n'',c'',a,b,d,rfl,hl,hr,hi,hs,-,-,-,-,-⟩:=h.parts
 have hd:decide (x.im = 0) = decide (b = 0):=by
  rw [Bool.eq_iff_iff]; simp [im_zero hl]
 rw [hd]
 have HB:=hid (fun W (hb:Below w.heap.size w W)=>isZero_any _ _ W (hi.below hb))
 clear hl hr hi hs hd h
 generalize decide (b = 0) = p2 at *
 go_enter Tryz.func59,Tryz.ntmps59
 go_wp2_with fail
 refine (HB.out _ (below_alloc _ _)).mono ?_
 rintro e W2 ⟨rfl,hb2⟩
 go_wp2
 go_ret
 exact ⟨rfl,bT (below_alloc _ _) hb2⟩
theorem IsNat.one (w:World) (g:Nat) (h0:g < w.heap.size) (h:w.cell? ⟨g,0,none⟩ = some (.int .u32 1)) (c:Nat) (hc:1 <= c):IsNat w (.slice (some ⟨g,0,none⟩) 1 c) 1:=by
 refine ⟨_,_,by rw [wl_one],by rw [wl_one]; exact hc,fun _=>⟨g,0,rfl,h0,fun j hj=>?_⟩⟩
 rw [wl_one] at hj
 obtain rfl:j = 0:=oM
 rw [h]
 simp [dg]
theorem denominator_any (v:Value) (x:Cx) (w:World) (h:IsNum w v x) (a b:Int) (d:Nat) (hl:Low x a b d) :
  Calls Tryz.prog 101 #[v] w (RetNat w d):=by
 obtain ⟨A,n,c,p,A',n',c',p',A'',n'',c'',a',b',d',rfl,hl',hr,hi,hs,hnn,-,-,-,-⟩:=h.parts
 obtain ⟨-,-,rfl⟩:=hl.uniq hl'
 have HS:=hid hs
 by_cases h1:d = 1
 ·subst h1
  rw [show dn 1 = 0 from rfl,wl_zero] at hnn
  subst hnn
  clear hl hl' hr hi hs h
  go_enter Tryz.func101,Tryz.ntmps101
  go_wp2
  go_ret
  exact ⟨_,rfl,IsNat.one _ _ sP sG 1 oM,bT (below_alloc _ _) (below_alloc _ _)⟩
 ·have hd:dn d = d:=if_neg h1
  have hw:0 < n'':=by
   have:=hl.pos
   rw [hnn,hd]
   exact Nat.pos_of_ne_zero fun e=>by have:=wl_eq_zero.1 e; omega
  have h0:¬ (n'' = 0):=oM
  rw [hd] at HS
  clear hl hl' hr hi hs h hnn hd h1
  go_enter Tryz.func101,Tryz.ntmps101
  go_wp2
  go_ret
  exact ⟨_,rfl,HS.out.below (below_alloc _ _),below_alloc _ _⟩
theorem wl_gcd_left {x y:Nat} (h:0 < x):wl (Nat.gcd x y) <= wl x:=wl_mono (Nat.gcd_le_left y h)
theorem common_any (v u t:Value) (x y z:Nat) (w:World) (hv:IsNat w v x) (hu:IsNat w u y) (ht:IsNat w t z) (hz0:0 < z) (hx:wl x < 549755813888) (hy:wl y < 549755813888) (hz:wl z < 549755813888) (hT:Tab w) :
  Calls Tryz.prog 188 #[v,u,t] w (RetNat w (Nat.gcd (Nat.gcd z x) y)):=by
 have HV:=hid hv
 have HU:=hid hu
 have HS:=hid ht
 have HT:=hid hT
 have h1:=wl_gcd_left (y:=x) hz0
 obtain ⟨A,n,c,rfl,hnn⟩:=hv.ex
 obtain ⟨A',n',c',rfl,hnn'⟩:=hu.ex
 obtain ⟨A'',n'',c'',rfl,hnn''⟩:=ht.ex
 clear hv hu ht hT hnn hnn' hnn''
 go_enter Tryz.func188,Tryz.ntmps188
 go_wp2_with fail
 refine (gcd_any _ _ _ _ _ HS.out HV.out hz hx HT.out).mono ?_
 rintro e W2 ⟨r,rfl,hr,hb2⟩
 obtain ⟨A2,n2,c2,rfl,hnn2⟩:=hr.ex
 clear hnn2
 go_wp2_with fail
 refine (gcd_any _ _ _ _ _ hr (HU.out.below hb2) oM hy (HT.out.below hb2)).mono ?_
 rintro e W3 ⟨r,rfl,hr3,hb3⟩
 go_wp2
 go_ret
 exact ⟨r,rfl,hr3,bT hb2 hb3⟩
def Den (d e:Nat):Prop:=0 < d /\ (e = d ∨ e = 0 /\ d = 1)
theorem dn_of_gt {d:Nat} (h:1 < d):dn d = d:=if_neg oM
theorem Den.self {d:Nat} (h:0 < d):Den d d:=⟨h,.inl rfl⟩
theorem IsNum.mk {W:World} {r i s:Value} {p q:Bool} {x:Cx} {a b:Int} {d:Nat} (hl:Low x a b d) (hr:IsInt W (.agg #[r,.bool p]) a) (hi:IsInt W (.agg #[i,.bool q]) b) (hs:IsNat W s (dn d)) :
  IsNum W (.agg #[r,.bool p,i,.bool q,s]) x:=⟨r,p,i,q,s,a,b,d,rfl,hl,hr,hi,hs⟩
def Odd (u:Value):Prop:=∀ k,u ≠ .int .u32 k
theorem Odd.slice (A:Option Addr) (n c:Nat):Odd (.slice A n c):=fun k h=>by simp at h
theorem Odd.bool (b:Bool):Odd (.bool b):=fun k h=>by simp at h
theorem IsInt.set_odd {w:World} {v:Value} {z:Int} {p:Addr} {u:Value} (h:IsInt w v z) (hp:w.cell? p = some u) (ho:Odd u) (u':Value):IsInt (w.setCell p u') v z:=by
 obtain ⟨s,h1,h2⟩:=h
 exact ⟨s,h1,h2.set_odd hp ho u'⟩
theorem IsNum.set_odd {w:World} {v:Value} {x:Cx} {p:Addr} {u:Value} (h:IsNum w v x) (hp:w.cell? p = some u) (ho:Odd u) (u':Value):IsNum (w.setCell p u') v x:=by
 obtain ⟨r,p,i,q,s,a,b,d,h1,h2,h3,h4,h5⟩:=h
 exact ⟨r,p,i,q,s,a,b,d,h1,h2,h3.set_odd hp ho u',h4.set_odd hp ho u',h5.set_odd hp ho u'⟩
theorem RetNum.of {w W:World} {v:Value} {x:Cx} (hb:Below w.heap.size w W) (hn:Below w.heap.size w W -> IsNum W v x):RetNum w x (.returned v) W:=⟨v,rfl,hn hb,hb⟩
def NumBox (w:World) (g:Nat):Prop:=∃ o0 o1 o2 o3 o4,w.cell? ⟨g,0,none⟩ = some o0 /\ w.cell? ⟨g,1,none⟩ = some o1 /\ w.cell? ⟨g,2,none⟩ = some o2 /\ w.cell? ⟨g,3,none⟩ = some o3 /\ w.cell? ⟨g,4,none⟩ = some o4 /\ Odd o0 /\ Odd o1 /\ Odd o2 /\ Odd o3 /\ Odd o4
theorem NumBox.of {w w':World} {g k:Nat} (hc:∀ b o,b < k -> w'.cell? ⟨b,o,none⟩ = w.cell? ⟨b,o,none⟩) (hg:g < k) (h:NumBox w g):NumBox w' g:=by
 obtain ⟨o0,o1,o2,o3,o4,h0,h1,h2,h3,h4,r⟩:=h
 exact ⟨o0,o1,o2,o3,o4,(hc _ _ hg).trans h0,(hc _ _ hg).trans h1,(hc _ _ hg).trans h2,(hc _ _ hg).trans h3,(hc _ _ hg).trans h4,r⟩
theorem NumBox.mk {w:World} {g:Nat} {A A' A'':Option Addr} {n c n' c' n'' c'':Nat} {p q:Bool} (h0:w.cell? ⟨g,0,none⟩ = some (.slice A n c)) (h1:w.cell? ⟨g,1,none⟩ = some (.bool p)) (h2:w.cell? ⟨g,2,none⟩ = some (.slice A' n' c')) (h3:w.cell? ⟨g,3,none⟩ = some (.bool q)) (h4:w.cell? ⟨g,4,none⟩ = some (.slice A'' n'' c'')):NumBox w g :=
 ⟨_,_,_,_,_,h0,h1,h2,h3,h4,Odd.slice _ _ _,Odd.bool _,Odd.slice _ _ _,Odd.bool _,Odd.slice _ _ _⟩
theorem NumBox.nil {w:World} {g:Nat} (h0:w.cell? ⟨g,0,none⟩ = some (.slice none 0 0)) (h1:w.cell? ⟨g,1,none⟩ = some (.bool false)) (h2:w.cell? ⟨g,2,none⟩ = some (.slice none 0 0)) (h3:w.cell? ⟨g,3,none⟩ = some (.bool false)) (h4:w.cell? ⟨g,4,none⟩ = some (.slice none 0 0)):NumBox w g:=.mk h0 h1 h2 h3 h4
def IntBox (w:World) (g:Nat):Prop:=∃ o0 o1,w.cell? ⟨g,0,none⟩ = some o0 /\ w.cell? ⟨g,1,none⟩ = some o1 /\ Odd o0 /\ Odd o1
theorem IntBox.of {w w':World} {g k:Nat} (hc:∀ b o,b < k -> w'.cell? ⟨b,o,none⟩ = w.cell? ⟨b,o,none⟩) (hg:g < k) (h:IntBox w g):IntBox w' g:=by
 obtain ⟨o0,o1,h0,h1,r⟩:=h
 exact ⟨o0,o1,(hc _ _ hg).trans h0,(hc _ _ hg).trans h1,r⟩
theorem IntBox.mk {w:World} {g:Nat} {A:Option Addr} {n c:Nat} {p:Bool} (h0:w.cell? ⟨g,0,none⟩ = some (.slice A n c)) (h1:w.cell? ⟨g,1,none⟩ = some (.bool p)):IntBox w g :=
 ⟨_,_,h0,h1,Odd.slice _ _ _,Odd.bool _⟩
theorem cell_set2 {w:World} {g k i:Nat} (h:g ≠ k) (u0 u1:Value):((w.setCell ⟨g,0,none⟩ u0).setCell ⟨g,1,none⟩ u1).cell? ⟨k,i,none⟩ = w.cell? ⟨k,i,none⟩ :=
 (World.cell?_setCell_other _ _ _ _ (by simp <;> omega)).trans (World.cell?_setCell_other _ _ _ _ (by simp <;> omega))
theorem IntBox.set2 {w:World} {g k:Nat} (hB:IntBox w k) (h:g ≠ k) (u0 u1:Value):IntBox ((w.setCell ⟨g,0,none⟩ u0).setCell ⟨g,1,none⟩ u1) k:=by
 obtain ⟨o0,o1,h0,h1,r⟩:=hB
 exact ⟨o0,o1,(cell_set2 h _ _).trans h0,(cell_set2 h _ _).trans h1,r⟩
theorem NumBox.set2 {w:World} {g k:Nat} (hB:NumBox w k) (h:g ≠ k) (u0 u1:Value):NumBox ((w.setCell ⟨g,0,none⟩ u0).setCell ⟨g,1,none⟩ u1) k:=by
 obtain ⟨o0,o1,o2,o3,o4,h0,h1,h2,h3,h4,r⟩:=hB
 exact ⟨o0,o1,o2,o3,o4,(cell_set2 h _ _).trans h0,(cell_set2 h _ _).trans h1,(cell_set2 h _ _).trans h2,(cell_set2 h _ _).trans h3,(cell_set2 h _ _).trans h4,r⟩
theorem IsNat.box2 {w:World} {v:Value} {x g:Nat} (h:IsNat w v x) (hB:IntBox w g) (u0 u1:Value):IsNat ((w.setCell ⟨g,0,none⟩ u0).setCell ⟨g,1,none⟩ u1) v x:=by
 obtain ⟨o0,o1,h0,h1,d0,d1⟩:=hB
 exact (h.set_odd h0 d0 u0).set_odd (p:=⟨g,1,none⟩) ((World.cell?_setCell_other _ _ _ _ sP).trans h1) d1 u1
theorem IsInt.box2 {w:World} {v:Value} {z:Int} {g:Nat} (h:IsInt w v z) (hB:IntBox w g) (u0 u1:Value):IsInt ((w.setCell ⟨g,0,none⟩ u0).setCell ⟨g,1,none⟩ u1) v z:=by
 obtain ⟨s,h1,h2⟩:=h
 exact ⟨s,h1,h2.box2 hB _ _⟩
theorem run_load5 {w:World} {g:Nat} (h:NumBox w g) (v0 v1 v2 v3 v4:Value) :
  ((Sem.run Tryz.prog (asAddr (Value.pointer (some { block:=g,off:=0 }))) (((((w.setCell ⟨g,0,none⟩ v0).setCell ⟨g,1,none⟩ v1).setCell ⟨g,2,none⟩ v2).setCell ⟨g,3,none⟩ v3).setCell ⟨g,4,none⟩ v4)).andThen
   fun a w'=>Sem.run Tryz.prog (loadVar 49 a) w') =
  Result.ok (Value.agg #[v0,v1,v2,v3,v4]) (((((w.setCell ⟨g,0,none⟩ v0).setCell ⟨g,1,none⟩ v1).setCell ⟨g,2,none⟩ v2).setCell ⟨g,3,none⟩ v3).setCell ⟨g,4,none⟩ v4):=by
 obtain ⟨o0,o1,o2,o3,o4,h0,h1,h2,h3,h4,-⟩:=h
 simp [go_sem,h0,h1,h2,h3,h4]
theorem IsNat.box5 {w:World} {v:Value} {x g:Nat} (h:IsNat w v x) (hB:NumBox w g) (v0 v1 v2 v3 v4:Value) :
  IsNat (((((w.setCell ⟨g,0,none⟩ v0).setCell ⟨g,1,none⟩ v1).setCell ⟨g,2,none⟩ v2).setCell ⟨g,3,none⟩ v3).setCell ⟨g,4,none⟩ v4) v x:=by
 obtain ⟨o0,o1,o2,o3,o4,h0,h1,h2,h3,h4,d0,d1,d2,d3,d4⟩:=hB
 have ne:∀ (w:World) (i j:Nat) (u:Value),i ≠ j -> (w.setCell ⟨g,i,none⟩ u).cell? ⟨g,j,none⟩ = w.cell? ⟨g,j,none⟩:=fun w i j u hij=>World.cell?_setCell_other _ _ _ _ (by simp <;> omega)
 have e1:=h.set_odd h0 d0 v0
 have e2:=e1.set_odd (p:=⟨g,1,none⟩) ((ne _ _ _ _ oM).trans h1) d1 v1
 have e3:=e2.set_odd (p:=⟨g,2,none⟩) ((ne _ _ _ _ oM).trans ((ne _ _ _ _ oM).trans h2)) d2 v2
 have e4:=e3.set_odd (p:=⟨g,3,none⟩) ((ne _ _ _ _ oM).trans ((ne _ _ _ _ oM).trans ((ne _ _ _ _ oM).trans h3))) d3 v3
 exact e4.set_odd (p:=⟨g,4,none⟩) ((ne _ _ _ _ oM).trans ((ne _ _ _ _ oM).trans ((ne _ _ _ _ oM).trans ((ne _ _ _ _ oM).trans h4)))) d4 v4
theorem IsInt.box5 {w:World} {v:Value} {z:Int} {g:Nat} (h:IsInt w v z) (hB:NumBox w g) (v0 v1 v2 v3 v4:Value) :
  IsInt (((((w.setCell ⟨g,0,none⟩ v0).setCell ⟨g,1,none⟩ v1).setCell ⟨g,2,none⟩ v2).setCell ⟨g,3,none⟩ v3).setCell ⟨g,4,none⟩ v4) v z:=by
 obtain ⟨s,h1,h2⟩:=h
 exact ⟨s,h1,h2.box5 hB _ _ _ _ _⟩
theorem IsNum.box5 {w:World} {v:Value} {x:Cx} {g:Nat} (h:IsNum w v x) (hB:NumBox w g) (v0 v1 v2 v3 v4:Value) :
  IsNum (((((w.setCell ⟨g,0,none⟩ v0).setCell ⟨g,1,none⟩ v1).setCell ⟨g,2,none⟩ v2).setCell ⟨g,3,none⟩ v3).setCell ⟨g,4,none⟩ v4) v x:=by
 obtain ⟨r,p,i,q,s,a,b,d,h1,h2,h3,h4,h5⟩:=h
 exact ⟨r,p,i,q,s,a,b,d,h1,h2,h3.box5 hB _ _ _ _ _,h4.box5 hB _ _ _ _ _,h5.box5 hB _ _ _ _ _⟩
theorem below_box5 {w W:World} {g:Nat} (h:Below w.heap.size w W) (hg:w.heap.size <= g) (v0 v1 v2 v3 v4:Value) :
  Below w.heap.size w (((((W.setCell ⟨g,0,none⟩ v0).setCell ⟨g,1,none⟩ v1).setCell ⟨g,2,none⟩ v2).setCell ⟨g,3,none⟩ v3).setCell ⟨g,4,none⟩ v4) :=
 ((((h.setCell hg _).setCell hg _).setCell hg _).setCell hg _).setCell hg _
theorem RetNum.box {w W:World} {v:Value} {x:Cx} {g:Nat} (hb:Below w.heap.size w W) (hg:w.heap.size <= g) (hB:NumBox W g) (h:IsNum W v x) (v0 v1 v2 v3 v4:Value) :
  RetNum w x (.returned v) (((((W.setCell ⟨g,0,none⟩ v0).setCell ⟨g,1,none⟩ v1).setCell ⟨g,2,none⟩ v2).setCell ⟨g,3,none⟩ v3).setCell ⟨g,4,none⟩ v4) :=
 ⟨v,rfl,h.box5 hB _ _ _ _ _,below_box5 hb hg _ _ _ _ _⟩
theorem isZero_t (v:Value) (z:Int) (w:World) (h:IsInt w v z) (hz:z = 0) :
  Calls Tryz.prog 113 #[v] w fun e w'=>e = .returned (.bool true) /\ Below w.heap.size w w':=by
 have:=isZero_any v z w h
 rwa [decide_eq_true hz] at this
theorem isZero_f (v:Value) (z:Int) (w:World) (h:IsInt w v z) (hz:z ≠ 0) :
  Calls Tryz.prog 113 #[v] w fun e w'=>e = .returned (.bool false) /\ Below w.heap.size w w':=by
 have:=isZero_any v z w h
 rwa [decide_eq_false hz] at this
theorem isOne_t (v:Value) (x:Nat) (w:World) (h:IsNat w v x) (hx:x = 1) :
  Calls Tryz.prog 187 #[v] w fun e w'=>e = .returned (.bool true) /\ w = w':=by
 have:=isOne_any v x w h
 rwa [decide_eq_true hx] at this
theorem isOne_f (v:Value) (x:Nat) (w:World) (h:IsNat w v x) (hx:x ≠ 1) :
  Calls Tryz.prog 187 #[v] w fun e w'=>e = .returned (.bool false) /\ w = w':=by
 have:=isOne_any v x w h
 rwa [decide_eq_false hx] at this
theorem reduced_e0 (r i s t:Value) (a b:Int) (g:Nat) (x:Cx) (w:World) (hr:IsInt w r a) (hi:IsInt w i b) (hs:IsNat w s 0) (ht:IsNat w t g)
  (hl:Low x a b 1) :
  Calls Tryz.prog 158 #[r,i,s,t] w (RetNum w x):=by
 have HR:=hid hr
 have HI:=hid hi
 have HL:=hid hl
 obtain ⟨A,n,c,rfl,-,-⟩:=hr.parts
 obtain ⟨A',n',c',rfl,-,-⟩:=hi.parts
 obtain ⟨A'',n'',c'',rfl,hnn⟩:=hs.ex
 obtain ⟨A3,n3,c3,rfl,-⟩:=ht.ex
 rw [wl_zero] at hnn
 subst hnn
 clear hr hi hs ht hl
 generalize decide (a < 0) = p at *
 generalize decide (b < 0) = p' at *
 go_enter Tryz.func158,Tryz.ntmps158
 go_wp2
 refine bodyPost_ret (v:=.agg #[.slice A n c,.bool p,.slice A' n' c',.bool p',.slice none 0 0]) (by simp [results,Tryz.results158,go_sem]) rfl ?_
 refine RetNum.of bel fun B=>.mk HL.out (HR.out.below B) (HI.out.below B) (IsNat.zero _ _ _)
theorem reduced_e1 (r i s t:Value) (a b:Int) (g:Nat) (x:Cx) (w:World) (hr:IsInt w r a) (hi:IsInt w i b) (hs:IsNat w s 1) (ht:IsNat w t g)
  (hl:Low x a b 1) :
  Calls Tryz.prog 158 #[r,i,s,t] w (RetNum w x):=by
 have HR:=hid hr
 have HI:=hid hi
 have HL:=hid hl
 have HO:=hid (fun W (hb:Below w.heap.size w W)=>isOne_any _ _ W (hs.below hb))
 obtain ⟨A,n,c,rfl,-,-⟩:=hr.parts
 obtain ⟨A',n',c',rfl,-,-⟩:=hi.parts
 obtain ⟨A'',n'',c'',rfl,hnn⟩:=hs.ex
 obtain ⟨A3,n3,c3,rfl,-⟩:=ht.ex
 rw [wl_one] at hnn
 subst hnn
 clear hr hi hs ht hl
 generalize decide (a < 0) = p at *
 generalize decide (b < 0) = p' at *
 go_enter Tryz.func158,Tryz.ntmps158
 go_wp2_with fail
 refine (HO.out _ bel).mono ?_
 rintro e W2 ⟨rfl,rfl⟩
 go_wp2
 refine bodyPost_ret (v:=.agg #[.slice A n c,.bool p,.slice A' n' c',.bool p',.slice none 0 0]) (by simp [results,Tryz.results158,go_sem]) rfl ?_
 refine RetNum.of bel fun B=>.mk HL.out (HR.out.below B) (HI.out.below B) (IsNat.zero _ _ _)
theorem reduced_z (r i s t:Value) (d g:Nat) (x:Cx) (w:World) (hr:IsInt w r 0) (hi:IsInt w i 0) (hs:IsNat w s d) (ht:IsNat w t g) (hd:1 < d)
  (hl:Low x 0 0 1) :
  Calls Tryz.prog 158 #[r,i,s,t] w (RetNum w x):=by
 have HR:=hid hr
 have HI:=hid hi
 have HL:=hid hl
 have HO:=hid (fun W (hb:Below w.heap.size w W)=>isOne_f _ _ W (hs.below hb) oM)
 have HA:=hid (fun W (hb:Below w.heap.size w W)=>isZero_t _ _ W (hr.below hb) rfl)
 have HB:=hid (fun W (hb:Below w.heap.size w W)=>isZero_t _ _ W (hi.below hb) rfl)
 obtain ⟨A,n,c,rfl,-,-⟩:=hr.parts
 obtain ⟨A',n',c',rfl,-,-⟩:=hi.parts
 obtain ⟨A'',n'',c'',rfl,hnn⟩:=hs.ex
 obtain ⟨A3,n3,c3,rfl,-⟩:=ht.ex
 have h0:0 < n'':=by rw [hnn]; exact Nat.pos_of_ne_zero fun e=>by have:=wl_eq_zero.1 e; omega
 have h0':¬ n'' = 0:=oM
 clear hr hi hs ht hl hnn
 generalize decide ((0:Int) < 0) = p at *
 go_enter Tryz.func158,Tryz.ntmps158
 go_wp2_with fail
 refine (HO.out _ bel).mono ?_
 rintro e W2 ⟨rfl,rfl⟩
 go_wp2_with fail
 refine (HA.out _ bel).mono ?_
 rintro e W2 ⟨rfl,hb2⟩
 obtain ⟨hc2,hf2,hz2⟩:=bcells hb2 (w.heap.size + 3) sP
 go_wp2_with fail
 refine (HB.out _ bel).mono ?_
 rintro e W3 ⟨rfl,hb3⟩
 obtain ⟨hc3,hf3,hz3⟩:=bcells hb3 (w.heap.size + 3) oM
 go_wp2
 have NB:=NumBox.of hc3 oM (NumBox.of hc2 (g:=w.heap.size + 1 + 1) oM (.nil sG sG sG sG sG))
 refine bodyPost_ret (v:=.agg #[.slice A n c,.bool p,.slice A' n' c',.bool p,.slice none 0 0]) (by simp [results,Tryz.results158]; exact run_load5 NB _ _ _ _ _) rfl ?_
 have B:Below w.heap.size w W3:=bel
 exact RetNum.box B oM NB (.mk HL.out (HR.out.below B) (HI.out.below B) (IsNat.zero _ _ _)) _ _ _ _ _
theorem Wn.ext {w w':World} {A:Option Addr} {n:Nat} {f:Nat -> Nat} (h:Wn w A n f) (hb:Ext w w'):Wn w' A n f:=fun hn=>by
 obtain ⟨b,off,hA,hlt,hc⟩:=h hn
 exact ⟨b,off,hA,lL hlt hb.size,fun j hj=>hb.word _ _ (hc j hj)⟩
theorem IsNat.ext {w w':World} {v:Value} {x:Nat} (h:IsNat w v x) (hb:Ext w w'):IsNat w' v x:=by
 obtain ⟨A,c,rfl,hc,hw⟩:=h
 exact ⟨A,c,rfl,hc,hw.ext hb⟩
theorem IsInt.ext {w w':World} {v:Value} {z:Int} (h:IsInt w v z) (hb:Ext w w'):IsInt w' v z:=by
 obtain ⟨s,h1,h2⟩:=h
 exact ⟨s,h1,h2.ext hb⟩
theorem IsNum.ext {w w':World} {v:Value} {x:Cx} (h:IsNum w v x) (hb:Ext w w'):IsNum w' v x:=by
 obtain ⟨r,p,i,q,s,a,b,d,h1,h2,h3,h4,h5⟩:=h
 exact ⟨r,p,i,q,s,a,b,d,h1,h2,h3.ext hb,h4.ext hb,h5.ext hb⟩
def kNum (x:Cx):Value -> World -> Prop:=fun v W=>IsNum W v x
def kIs (u:Value):Value -> World -> Prop:=fun v _=>v = u
theorem stab_num (x:Cx):Stab (kNum x):=fun _ _ _ he h=>h.ext he
theorem stab_is (u:Value):Stab (kIs u):=fun _ _ _ _ h=>h
def zNum:Array Value:=#[.slice none 0 0,.bool false,.slice none 0 0,.bool false,.slice none 0 0]
theorem IsNum.agg {W:World} {v:Value} {x:Cx} (h:IsNum W v x):∃ cs,v = .agg cs /\ cs.size = 5 /\ cs.all (·.oneCell') = true:=by
 obtain ⟨A,n,c,p,A',n',c',p',A'',n'',c'',a,b,d,rfl,-⟩:=h.parts
 exact ⟨_,rfl,rfl,by simp [Value.oneCell']⟩
theorem store_num (x:Cx):StoreOk Tryz.prog 49 zNum (kNum x):=⟨kR,fun v W h=>IsNum.agg h⟩
theorem alloc_num:AllocOk Tryz.prog 49 zNum:=fun W=>by
 simp [go_sem,zNum]
theorem bx5 {W:World} {g:Nat} {T:TypeId} {v0 v1 v2 v3 v4:Value} (h:W.heap[g]? = some (.cells #[v0,v1,v2,v3,v4] T (0,0))) :
  W.cell? ⟨g,0,none⟩ = some v0 /\ W.cell? ⟨g,1,none⟩ = some v1 /\ W.cell? ⟨g,2,none⟩ = some v2 /\ W.cell? ⟨g,3,none⟩ = some v3 /\ W.cell? ⟨g,4,none⟩ = some v4 /\
  W.frozen? ⟨g,0,none⟩ = false /\ W.frozen? ⟨g,1,none⟩ = false /\ W.frozen? ⟨g,2,none⟩ = false /\ W.frozen? ⟨g,3,none⟩ = false /\ W.frozen? ⟨g,4,none⟩ = false:=by
 simp [World.cell?,World.frozen?,h]
def NumAt (W:World) (v:Value) (lo:Nat) (x:Cx):Prop:=∃ g A n c p A' n' c' p' A'' n'' c'',v = .pointer (some ⟨g,0,none⟩) /\ lo <= g /\ g < W.heap.size /\
 W.heap[g]? = some (.cells #[.slice A n c,.bool p,.slice A' n' c',.bool p',.slice A'' n'' c''] 49 (0,0)) /\ IsNum W (.agg #[.slice A n c,.bool p,.slice A' n' c',.bool p',.slice A'' n'' c'']) x
section
variable {kl:List RK} {B:Nat} {ts:Nat -> Value} {W:World}
theorem held_num {i:Nat} {x:Cx} (h:Held kl B ts (fun _=>true) W i) (hk:rk kl i = .val (kNum x)):IsNum W (ts i) x:=by
 unfold Held at h
 rw [hk] at h
 exact h
theorem held_is {i:Nat} {u:Value} (h:Held kl B ts (fun _=>true) W i) (hk:rk kl i = .val (kIs u)):ts i = u:=by
 unfold Held at h
 rw [hk] at h
 exact h
theorem held_box {b c k:Nat} {x:Cx} (h:Held kl B ts (fun _=>true) W b) (hb:rk kl b = .box 49 zNum) (h':Held kl B ts (fun _=>true) W k) (hk:rk kl k = .put b c)
  (h2:Held kl B ts (fun _=>true) W c) (hc:rk kl c = .val (kNum x)):NumAt W (ts b) B x:=by
 have hx:=held_num h2 hc
 unfold Held at h h'
 rw [hb] at h
 rw [hk] at h'
 simp only at h h'
 obtain ⟨g,h1,h3,h4,-⟩:=h
 obtain ⟨g',cs,T,z,e1,e2,e3,e4⟩:=h'
 rw [h1] at e1
 injection e1 with e1
 injection e1 with e1
 injection e1 with e1
 subst e1
 rw [hb] at e3
 injection e3 with e3 e5
 subst e3
 obtain ⟨A,n,c,p,A',n',c',p',A'',n'',c'',a,b',d,hp,-⟩:=hx.parts
 rw [e2] at hp
 injection hp with hp
 subst hp
 rw [e2] at hx
 exact ⟨g,A,n,c,p,A',n',c',p',A'',n'',c'',h1,h3,h4,e4,hx⟩
end
def kTup (x:Cx) (k:Int):Value -> World -> Prop:=fun v W=>∃ u,v = .tuple #[u,.int .i64 k] /\ IsNum W u x
theorem stab_tup (x:Cx) (k:Int):Stab (kTup x k):=fun _ _ _ he ⟨u,h1,h2⟩=>⟨u,h1,h2.ext he⟩
def kNat (x:Nat):Value -> World -> Prop:=fun v W=>IsNat W v x
def kInt (z:Int):Value -> World -> Prop:=fun v W=>IsInt W v z
theorem stabB_nat (x:Nat):StabB (kNat x):=fun _ _ _ hb h=>IsNat.below h hb
theorem stabB_num (x:Cx):StabB (kNum x):=fun _ _ _ hb h=>IsNum.below h hb
theorem stab_int (z:Int):Stab (kInt z):=fun _ _ _ he h=>IsInt.ext h he
def kIf (b:Bool) (u:Value):Value -> World -> Prop:=fun v _=>b = true -> v = u
theorem stabB_if (b:Bool) (u:Value):StabB (kIf b u):=fun _ _ _ _ h=>h
def zInt:Array Value:=#[.slice none 0 0,.bool false]
theorem alloc_int:AllocOk Tryz.prog 47 zInt:=fun W=>by
 simp [go_sem,zInt]
theorem IsInt.agg {W:World} {v:Value} {z:Int} (h:IsInt W v z):∃ cs,v = .agg cs /\ cs.size = 2 /\ cs.all (·.oneCell') = true:=by
 obtain ⟨s,rfl,hs⟩:=h
 obtain ⟨A,n,c,rfl,-⟩:=hs.ex
 exact ⟨_,rfl,rfl,by simp [Value.oneCell']⟩
theorem store_int (z:Int):StoreOk Tryz.prog 47 zInt (kInt z):=⟨kR,fun v W h=>IsInt.agg h⟩
theorem held_int {kl:List RK} {B:Nat} {ts:Nat -> Value} {W:World} {i:Nat} {z:Int} (h:Held kl B ts (fun _=>true) W i) (hk:rk kl i = .val (kInt z)):IsInt W (ts i) z:=by
 unfold Held at h
 rw [hk] at h
 exact h
theorem held_boxI' {kl:List RK} {B:Nat} {ts:Nat -> Value} {W:World} {b c k:Nat} {z:Int} (h:Held kl B ts (fun _=>true) W b) (hb:rk kl b = .box 47 zInt) (h':Held kl B ts (fun _=>true) W k) (hk:rk kl k = .put b c)
  (h2:Held kl B ts (fun _=>true) W c) (hc:rk kl c = .val (kInt z)):∃ g A n m q,ts b = .pointer (some ⟨g,0,none⟩) /\ B <= g /\ g < W.heap.size /\ W.heap[g]? = some (.cells #[.slice A n m,.bool q] 47 (0,0)) /\ IsInt W (.agg #[.slice A n m,.bool q]) z:=by
 have hx:=held_int h2 hc
 unfold Held at h h'
 rw [hb] at h
 rw [hk] at h'
 simp only at h h'
 obtain ⟨g,h1,h3,h4,-⟩:=h
 obtain ⟨g',cs,T,z',e1,e2,e3,e4⟩:=h'
 rw [h1] at e1
 injection e1 with e1
 injection e1 with e1
 injection e1 with e1
 subst e1
 rw [hb] at e3
 injection e3 with e3 _
 subst e3
 obtain ⟨s,hs1,hs2⟩:=hx
 obtain ⟨A,n,m,rfl,-⟩:=hs2.ex
 rw [e2] at hs1
 injection hs1 with hs1
 subst hs1
 exact ⟨g,A,n,m,_,h1,h3,h4,e4,_,rfl,hs2⟩
theorem bx2 {W:World} {g:Nat} {T:TypeId} {v0 v1:Value} (h:W.heap[g]? = some (.cells #[v0,v1] T (0,0))) :
  W.cell? ⟨g,0,none⟩ = some v0 /\ W.cell? ⟨g,1,none⟩ = some v1 /\ W.frozen? ⟨g,0,none⟩ = false /\ W.frozen? ⟨g,1,none⟩ = false:=by
 simp [World.cell?,World.frozen?,h]
theorem boxes2 (w:World) (a b:Obj):((w.alloc a).alloc b).heap[w.heap.size]? = some a /\ w.heap.size < ((w.alloc a).alloc b).heap.size /\ ((w.alloc a).alloc b).heap[w.heap.size + 1]? = some b /\ w.heap.size + 1 < ((w.alloc a).alloc b).heap.size:=by
 refine ⟨?_,by simp <;> omega,?_,sP⟩
 ·rw [heap_alloc_old _ _ sP]; exact heap_alloc_new w a
 ·have:=heap_alloc_new (w.alloc a) b
  simpa using this
theorem boxes3 (w:World) (a b c:Obj):(((w.alloc a).alloc b).alloc c).heap[w.heap.size]? = some a /\ w.heap.size < (((w.alloc a).alloc b).alloc c).heap.size /\ (((w.alloc a).alloc b).alloc c).heap[w.heap.size + 1]? = some b /\ w.heap.size + 1 < (((w.alloc a).alloc b).alloc c).heap.size /\
  (((w.alloc a).alloc b).alloc c).heap[w.heap.size + 2]? = some c /\ w.heap.size + 2 < (((w.alloc a).alloc b).alloc c).heap.size:=by
 obtain ⟨h1,h2,h3,h4⟩:=boxes2 w a b
 refine ⟨?_,by simp <;> omega,?_,by simp <;> omega,?_,sP⟩
 ·rw [heap_alloc_old _ _ h2]; exact h1
 ·rw [heap_alloc_old _ _ h4]; exact h3
 ·have:=heap_alloc_new ((w.alloc a).alloc b) c
  simpa using this
end Go.Proofs.YtjodlmanheeajaaGreatDoor
