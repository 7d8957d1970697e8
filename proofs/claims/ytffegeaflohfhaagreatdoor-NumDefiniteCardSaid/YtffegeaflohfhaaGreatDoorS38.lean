import Derived.Deep.RegionHeld3
import Derived.Test.YtffegeaflohfhaaGreatDoorS13
import Derived.Test.YtffegeaflohfhaaGreatDoorS22
import Derived.Test.YtffegeaflohfhaaGreatDoorS26
import Derived.Test.YtffegeaflohfhaaGreatDoorS34
import Derived.Test.YtffegeaflohfhaaGreatDoorS37
import Derived.Test.YtffegeaflohfhaaGreatDoorS02
set_option linter.unusedVariables false
set_option linter.unusedSimpArgs false
set_option maxRecDepth 100000
set_option maxHeartbeats 8000000
namespace Go.Proofs.YtffegeaflohfhaaGreatDoor
open Go.RowKit
def kRI (z:Int):Value -> World -> Prop:=fun v W=>IsRI W v z
def kQ (x:Cx):Value -> World -> Prop:=fun v W=>IsQ W v x
theorem stabB_ri (z:Int):StabB (kRI z):=fun _ _ _ hb h=>IsRI.below h hb
theorem stabB_q (x:Cx):StabB (kQ x):=fun _ _ _ hb h=>IsQ.below h hb
theorem IsRI.ext {w w':World} {v:Value} {z:Int} (h:IsRI w v z) (hb:Ext w w'):IsRI w' v z:=by
 obtain ⟨s,h1,h2⟩:=h
 exact ⟨s,h1,h2.ext hb⟩
theorem IsQ.ext {w w':World} {v:Value} {x:Cx} (h:IsQ w v x) (hb:Ext w w'):IsQ w' v x:=by
 obtain ⟨r,p,i,q,s,a,b,d,h1,h2,h3,h4,h5⟩:=h
 exact ⟨r,p,i,q,s,a,b,d,h1,h2,h3.ext hb,h4.ext hb,h5.ext hb⟩
theorem rMul_any (v u:Value) (x y:Cx) (w:World) (h:IsQ w v x) (h':IsQ w u y) (m n:Nat) (hx:Sz x m) (hy:Sz y n) (hm:m + n + 1 < 549755813888) :
  Calls Tryz.prog 51 #[v,u] w (RetQ w (x.mul y)):=by
 obtain ⟨A1,n1,c1,p1,A1b,n1b,c1b,p1b,A1c,n1c,c1c,a1,b1,d1,rfl,hl1,hr1,hi1,hs1,hn1,hm1,hd1,hp1,hq1,-,-⟩:=h.parts
 obtain ⟨A2,n2,c2,p2,A2b,n2b,c2b,p2b,A2c,n2c,c2c,a2,b2,d2,rfl,hl2,hr2,hi2,hs2,hn2,hm2,hd2,hp2,hq2,-,-⟩:=h'.parts
 obtain ⟨s1,s3,s9⟩:=hx _ _ _ hl1
 obtain ⟨s2,s4,s10⟩:=hy _ _ _ hl2
 have e1:=wl_imul a1 a2
 have e2:=wl_imul b1 b2
 have e3:=wl_imul a1 b2
 have e4:=wl_imul b1 a2
 have e5:=wl_isub (a1 * a2) (b1 * b2)
 have e6:=wl_iadd (a1 * b2) (b1 * a2)
 have e7:wl (d1 * d2) <= wl d1 + wl d2:=wl_mul _ _
 have g1:wl a1.natAbs < 549755813888:=oM
 have g2:wl a2.natAbs < 549755813888:=oM
 have g3:wl b1.natAbs < 549755813888:=oM
 have g4:wl b2.natAbs < 549755813888:=oM
 have g5:wl (a1 * a2).natAbs < 549755813888:=oM
 have g6:wl (b1 * b2).natAbs < 549755813888:=oM
 have g7:wl (a1 * b2).natAbs < 549755813888:=oM
 have g8:wl (b1 * a2).natAbs < 549755813888:=oM
 have g9:wl d1 < 549755813888:=oM
 have g10:wl d2 < 549755813888:=oM
 have ht:=mul_terms hl1 hl2
 have HM:=hid (fun v1 v2 v3 W (q1:IsRI W v1 (a1 * a2 - b1 * b2)) (q2:IsRI W v2 (a1 * b2 + b1 * a2)) (q3:IsNat W v3 (d1 * d2))=>rMake_any v1 v2 v3 _ _ _ (x.mul y) W q1 q2 q3 (Nat.mul_pos hl1.pos hl2.pos) ht.1 ht.2 oM oM oM)
 have HR1:=hid hr1
 have HI1:=hid hi1
 have HD1:=hid hs1
 have HR2:=hid hr2
 have HI2:=hid hi2
 have HD2:=hid hs2
 clear hr1 hi1 hs1 hr2 hi2 hs2 hn1 hm1 hd1 hp1 hq1 hn2 hm2 hd2 hp2 hq2 e1 e2 e3 e4 e5 e6 e7 ht h h' hx hy hm s1 s2 s3 s4 s9 s10 hl1 hl2
 go_enter Tryz.func51,Tryz.ntmps51
 go_upto_region 1 with fail
 obtain ⟨W1,hW1⟩:∃ W1:World,W1 = ((w.alloc (.cells #[.bool p1,.slice A1 n1 c1,.bool p1b,.slice A1b n1b c1b,.slice A1c n1c c1c] 42)).alloc (.cells #[.bool p2,.slice A2 n2 c2,.bool p2b,.slice A2b n2b c2b,.slice A2c n2c c2c] 42)).alloc (.cells #[.bool false,.slice none 0 0,.bool false,.slice none 0 0,.slice none 0 0] 42):=⟨_,rfl⟩
 rw [<- hW1]
 have B1:Below w.heap.size w W1:=by rw [hW1]; exact bel
 have X:=boxes3 w (.cells #[.bool p1,.slice A1 n1 c1,.bool p1b,.slice A1b n1b c1b,.slice A1c n1c c1c] 42) (.cells #[.bool p2,.slice A2 n2 c2,.bool p2b,.slice A2b n2b c2b,.slice A2c n2c c2c] 42) (.cells #[.bool false,.slice none 0 0,.bool false,.slice none 0 0,.slice none 0 0] 42)
 rw [<- hW1] at X
 obtain ⟨X0,z0,X1,z1,X2,z2⟩:=X
 clear hW1
 refine region_last [.val (kIs (.pointer (some ⟨w.heap.size,0,none⟩))),.val (kIs (.agg #[.bool p1,.slice A1 n1 c1])),.val (kIs (.pointer (some ⟨w.heap.size + 1,0,none⟩))),.val (kIs (.agg #[.bool p2,.slice A2 n2 c2])),.val (kRI (a1 * a2)),.val (kIs (.pointer (some ⟨w.heap.size,2,none⟩))),.val (kIs (.agg #[.bool p1b,.slice A1b n1b c1b])),.val (kIs (.pointer (some ⟨w.heap.size + 1,2,none⟩))),.val (kIs (.agg #[.bool p2b,.slice A2b n2b c2b])),.val (kRI (b1 * b2)),.val (kRI (a1 * a2 - b1 * b2)),.val (kIs (.pointer (some ⟨w.heap.size,0,none⟩))),.val (kIs (.agg #[.bool p1,.slice A1 n1 c1])),.val (kIs (.pointer (some ⟨w.heap.size + 1,2,none⟩))),.val (kIs (.agg #[.bool p2b,.slice A2b n2b c2b])),.val (kRI (a1 * b2)),.val (kIs (.pointer (some ⟨w.heap.size,2,none⟩))),.val (kIs (.agg #[.bool p1b,.slice A1b n1b c1b])),.val (kIs (.pointer (some ⟨w.heap.size + 1,0,none⟩))),.val (kIs (.agg #[.bool p2,.slice A2 n2 c2])),.val (kRI (b1 * a2)),.val (kRI (a1 * b2 + b1 * a2)),.val (kIs (.pointer (some ⟨w.heap.size,4,none⟩))),.val (kIs (.slice A1c n1c c1c)),.val (kIs (.pointer (some ⟨w.heap.size + 1,4,none⟩))),.val (kIs (.slice A2c n2c c2c)),.val (kNat (d1 * d2)),.val (kQ (x.mul y))]
  kR kR kR kR kR ⟨Stab.b (stab_is _),Stab.b (stab_is _),Stab.b (stab_is _),Stab.b (stab_is _),stabB_ri _,Stab.b (stab_is _),Stab.b (stab_is _),Stab.b (stab_is _),Stab.b (stab_is _),stabB_ri _,stabB_ri _,Stab.b (stab_is _),Stab.b (stab_is _),Stab.b (stab_is _),Stab.b (stab_is _),stabB_ri _,Stab.b (stab_is _),Stab.b (stab_is _),Stab.b (stab_is _),Stab.b (stab_is _),stabB_ri _,stabB_ri _,Stab.b (stab_is _),Stab.b (stab_is _),Stab.b (stab_is _),Stab.b (stab_is _),stabB_nat _,stabB_q _,trivial⟩ sP (ol:=_) rfl kR ⟨?_,?_,?_,?_,?_,?_,?_,?_,?_,?_,?_,?_,?_,?_,?_,?_,?_,?_,?_,?_,?_,?_,?_,?_,?_,?_,?_,?_,trivial⟩ ?_
 ·exact obp
 ·intro ts W hb hB hp; have h0:ts 0 = _:=hp 0 kR; intro K hK; simp only [fillT,zA,Nat.reduceAdd,sA,sB,sC,h0] at hK ⊢; have HK:=hid hK; clear hK hp; obtain ⟨f0,f1,f2,f3,f4,-,-,-,-,-⟩:=bx5 ((hb.block _ z0).trans X0); refine ⟨?_⟩; go_simp; exact HK.out _ _ rfl rfB
 ·exact obp
 ·intro ts W hb hB hp; have h2:ts 2 = _:=hp 2 kR; intro K hK; simp only [fillT,zA,Nat.reduceAdd,sA,sB,sC,h2] at hK ⊢; have HK:=hid hK; clear hK hp; obtain ⟨f0,f1,f2,f3,f4,-,-,-,-,-⟩:=bx5 ((hb.block _ z1).trans X1); refine ⟨?_⟩; go_simp; exact HK.out _ _ rfl rfB
 ·intro ts W hb hB hp; have h1:ts 1 = _:=hp 1 kR; have h3:ts 3 = _:=hp 3 kR; intro K hK; simp only [fillT,zA,Nat.reduceAdd,sA,sB,sC,h1,h3] at hK ⊢; have HK:=hid hK; clear hK hp; refine ⟨?_⟩; go_simp; refine (rIntMul_any _ _ _ _ W (HR1.out.below (bT B1 hb)) (HR2.out.below (bT B1 hb)) g1 g2).mono ?_; rintro e W9 ⟨r9,rfl,hr9,hb9⟩; exact HK.out _ _ hr9 hb9
 ·exact obp
 ·intro ts W hb hB hp; have h5:ts 5 = _:=hp 5 kR; intro K hK; simp only [fillT,zA,Nat.reduceAdd,sA,sB,sC,h5] at hK ⊢; have HK:=hid hK; clear hK hp; obtain ⟨f0,f1,f2,f3,f4,-,-,-,-,-⟩:=bx5 ((hb.block _ z0).trans X0); refine ⟨?_⟩; go_simp; exact HK.out _ _ rfl rfB
 ·exact obp
 ·intro ts W hb hB hp; have h7:ts 7 = _:=hp 7 kR; intro K hK; simp only [fillT,zA,Nat.reduceAdd,sA,sB,sC,h7] at hK ⊢; have HK:=hid hK; clear hK hp; obtain ⟨f0,f1,f2,f3,f4,-,-,-,-,-⟩:=bx5 ((hb.block _ z1).trans X1); refine ⟨?_⟩; go_simp; exact HK.out _ _ rfl rfB
 ·intro ts W hb hB hp; have h6:ts 6 = _:=hp 6 kR; have h8:ts 8 = _:=hp 8 kR; intro K hK; simp only [fillT,zA,Nat.reduceAdd,sA,sB,sC,h6,h8] at hK ⊢; have HK:=hid hK; clear hK hp; refine ⟨?_⟩; go_simp; refine (rIntMul_any _ _ _ _ W (HI1.out.below (bT B1 hb)) (HI2.out.below (bT B1 hb)) g3 g4).mono ?_; rintro e W9 ⟨r9,rfl,hr9,hb9⟩; exact HK.out _ _ hr9 hb9
 ·intro ts W hb hB hp; have h4:=hp 4 kR; have h9:=hp 9 kR; intro K hK; simp only [fillT,zA,Nat.reduceAdd,sA,sB,sC] at hK ⊢; have HK:=hid hK; clear hK hp; refine ⟨?_⟩; go_simp; refine (rIntSub_any _ _ _ _ W h4 h9 g5 g6).mono ?_; rintro e W9 ⟨r9,rfl,hr9,hb9⟩; exact HK.out _ _ hr9 hb9
 ·exact obp
 ·intro ts W hb hB hp; have h11:ts 11 = _:=hp 11 kR; intro K hK; simp only [fillT,zA,Nat.reduceAdd,sA,sB,sC,h11] at hK ⊢; have HK:=hid hK; clear hK hp; obtain ⟨f0,f1,f2,f3,f4,-,-,-,-,-⟩:=bx5 ((hb.block _ z0).trans X0); refine ⟨?_⟩; go_simp; exact HK.out _ _ rfl rfB
 ·exact obp
 ·intro ts W hb hB hp; have h13:ts 13 = _:=hp 13 kR; intro K hK; simp only [fillT,zA,Nat.reduceAdd,sA,sB,sC,h13] at hK ⊢; have HK:=hid hK; clear hK hp; obtain ⟨f0,f1,f2,f3,f4,-,-,-,-,-⟩:=bx5 ((hb.block _ z1).trans X1); refine ⟨?_⟩; go_simp; exact HK.out _ _ rfl rfB
 ·intro ts W hb hB hp; have h12:ts 12 = _:=hp 12 kR; have h14:ts 14 = _:=hp 14 kR; intro K hK; simp only [fillT,zA,Nat.reduceAdd,sA,sB,sC,h12,h14] at hK ⊢; have HK:=hid hK; clear hK hp; refine ⟨?_⟩; go_simp; refine (rIntMul_any _ _ _ _ W (HR1.out.below (bT B1 hb)) (HI2.out.below (bT B1 hb)) g1 g4).mono ?_; rintro e W9 ⟨r9,rfl,hr9,hb9⟩; exact HK.out _ _ hr9 hb9
 ·exact obp
 ·intro ts W hb hB hp; have h16:ts 16 = _:=hp 16 kR; intro K hK; simp only [fillT,zA,Nat.reduceAdd,sA,sB,sC,h16] at hK ⊢; have HK:=hid hK; clear hK hp; obtain ⟨f0,f1,f2,f3,f4,-,-,-,-,-⟩:=bx5 ((hb.block _ z0).trans X0); refine ⟨?_⟩; go_simp; exact HK.out _ _ rfl rfB
 ·exact obp
 ·intro ts W hb hB hp; have h18:ts 18 = _:=hp 18 kR; intro K hK; simp only [fillT,zA,Nat.reduceAdd,sA,sB,sC,h18] at hK ⊢; have HK:=hid hK; clear hK hp; obtain ⟨f0,f1,f2,f3,f4,-,-,-,-,-⟩:=bx5 ((hb.block _ z1).trans X1); refine ⟨?_⟩; go_simp; exact HK.out _ _ rfl rfB
 ·intro ts W hb hB hp; have h17:ts 17 = _:=hp 17 kR; have h19:ts 19 = _:=hp 19 kR; intro K hK; simp only [fillT,zA,Nat.reduceAdd,sA,sB,sC,h17,h19] at hK ⊢; have HK:=hid hK; clear hK hp; refine ⟨?_⟩; go_simp; refine (rIntMul_any _ _ _ _ W (HI1.out.below (bT B1 hb)) (HR2.out.below (bT B1 hb)) g3 g2).mono ?_; rintro e W9 ⟨r9,rfl,hr9,hb9⟩; exact HK.out _ _ hr9 hb9
 ·intro ts W hb hB hp; have h15:=hp 15 kR; have h20:=hp 20 kR; intro K hK; simp only [fillT,zA,Nat.reduceAdd,sA,sB,sC] at hK ⊢; have HK:=hid hK; clear hK hp; refine ⟨?_⟩; go_simp; refine (rIntAdd_any _ _ _ _ W h15 h20 g7 g8).mono ?_; rintro e W9 ⟨r9,rfl,hr9,hb9⟩; exact HK.out _ _ hr9 hb9
 ·exact obp
 ·intro ts W hb hB hp; have h22:ts 22 = _:=hp 22 kR; intro K hK; simp only [fillT,zA,Nat.reduceAdd,sA,sB,sC,h22] at hK ⊢; have HK:=hid hK; clear hK hp; obtain ⟨f0,f1,f2,f3,f4,-,-,-,-,-⟩:=bx5 ((hb.block _ z0).trans X0); refine ⟨?_⟩; go_simp; exact HK.out _ _ rfl rfB
 ·exact obp
 ·intro ts W hb hB hp; have h24:ts 24 = _:=hp 24 kR; intro K hK; simp only [fillT,zA,Nat.reduceAdd,sA,sB,sC,h24] at hK ⊢; have HK:=hid hK; clear hK hp; obtain ⟨f0,f1,f2,f3,f4,-,-,-,-,-⟩:=bx5 ((hb.block _ z1).trans X1); refine ⟨?_⟩; go_simp; exact HK.out _ _ rfl rfB
 ·intro ts W hb hB hp; have h23:ts 23 = _:=hp 23 kR; have h25:ts 25 = _:=hp 25 kR; intro K hK; simp only [fillT,zA,Nat.reduceAdd,sA,sB,sC,h23,h25] at hK ⊢; have HK:=hid hK; clear hK hp; refine ⟨?_⟩; go_simp; refine (rNatMul_any _ _ _ _ W (HD1.out.below (bT B1 hb)) (HD2.out.below (bT B1 hb)) g9 g10).mono ?_; rintro e W9 ⟨r9,rfl,hr9,hb9⟩; exact HK.out _ _ hr9 hb9
 ·intro ts W hb hB hp; have h10:=hp 10 kR; have h21:=hp 21 kR; have h26:=hp 26 kR; intro K hK; simp only [fillT,zA,Nat.reduceAdd,sA,sB,sC] at hK ⊢; have HK:=hid hK; clear hK hp; refine ⟨?_⟩; go_simp; refine (HM.out _ _ _ W h10 h21 h26).mono ?_; rintro e W9 ⟨r9,rfl,hr9,hb9⟩; exact HK.out _ _ hr9 hb9
 intro ts W2 hb2 hh hap K hK
 have hq:IsQ W2 (ts 27) (x.mul y):=hh 27 sP
 obtain ⟨A9,n9,c9,p9,A9b,n9b,c9b,p9b,A9c,n9c,c9c,qa,qb,qd,hqe,-⟩:=hq.parts
 have Y0:=(hb2.block (w.heap.size + 2) oM).trans X2
 have HK:=hid hK
 clear hK
 simp only [fillT,zA,Nat.reduceAdd,sA,sB,sC,hqe]
 rw [hqe] at hq
 clear hh hap hqe
 refine ⟨?_⟩
 refine wp_store_row _ _ _ rfl (w.heap.size + 2) _ rfl rfl _ _ Y0 kR rfl (by simp [Value.oneCell']) (HK.out _ _ ?_)
 have hput:=putAt_setRow (cs:=#[.bool p9,.slice A9 n9 c9,.bool p9b,.slice A9b n9b c9b,.slice A9c n9c c9c]) Y0
 have hext:=hput.ext Y0 dE
 have B2:=hput.below (bT B1 hb2) oM
 generalize W2.setRow (w.heap.size + 2) #[.bool p9,.slice A9 n9 c9,.bool p9b,.slice A9b n9b c9b,.slice A9c n9c c9c] = W3 at *
 have h5:=hq.ext hext
 obtain ⟨f0,f1,f2,f3,f4,y0,y1,y2,y3,y4⟩:=bx5 hput.here
 clear hput hext hq Y0 HK
 go_wp2
 refine bodyPost_ret (v:=.agg #[.bool p9,.slice A9 n9 c9,.bool p9b,.slice A9b n9b c9b,.slice A9c n9c c9c]) (by simp [results,Tryz.results51,go_sem,f0,f1,f2,f3,f4]) rfl ?_
 exact ⟨_,rfl,h5,B2⟩
def zRI:Array Value:=#[.bool false,.slice none 0 0]
theorem alloc_ri:AllocOk Tryz.prog 40 zRI:=fun W=>by
 simp [go_sem,zRI]
theorem store_riIs (b:Bool) (A:Option Addr) (n c:Nat):StoreOk Tryz.prog 40 zRI (kIs (.agg #[.bool b,.slice A n c])):=⟨kR,fun v W h=>⟨_,h,rfl,by simp [Value.oneCell']⟩⟩
theorem held_boxI {kl:List RK} {B:Nat} {ts:Nat -> Value} {W:World} {b c k:Nat} {cs:Array Value} (h:Held kl B ts (fun _=>true) W b) (hb:rk kl b = .box 40 zRI) (h':Held kl B ts (fun _=>true) W k) (hk:rk kl k = .put b c)
  (h2:Held kl B ts (fun _=>true) W c) (hc:rk kl c = .val (kIs (.agg cs))):∃ g,ts b = .pointer (some ⟨g,0,none⟩) /\ B <= g /\ g < W.heap.size /\ W.heap[g]? = some (.cells cs 40 (0,0)):=by
 have hx:=held_is h2 hc
 unfold Held at h h'
 rw [hb] at h
 rw [hk] at h'
 simp only at h h'
 obtain ⟨g,h1,h3,h4,-⟩:=h
 obtain ⟨g',cs',T,z,e1,e2,e3,e4⟩:=h'
 rw [h1] at e1
 injection e1 with e1
 injection e1 with e1
 injection e1 with e1
 subst e1
 rw [hx] at e2
 injection e2 with e2
 subst e2
 rw [hb] at e3
 injection e3 with e3 _
 subst e3
 exact ⟨g,h1,h3,h4,e4⟩
theorem IsRI.nat {w:World} {v:Value} {d:Nat} (h:IsNat w v d):IsRI w (.agg #[.bool false,v]) (d:Int):=⟨v,by rw [show decide ((d:Int) < 0) = false by simp],by rw [Int.natAbs_natCast]; exact h⟩
theorem rAdd_any (v u:Value) (x y:Cx) (w:World) (h:IsQ w v x) (h':IsQ w u y) (m n:Nat) (hx:Sz x m) (hy:Sz y n) (hm:m + n + 1 < 549755813888) :
  Calls Tryz.prog 93 #[v,u] w (RetQ w (x.add y)):=by
 obtain ⟨A1,n1,c1,p1,A1b,n1b,c1b,p1b,A1c,n1c,c1c,a1,b1,d1,rfl,hl1,hr1,hi1,hs1,hn1,hm1,hd1,hp1,hq1,-,-⟩:=h.parts
 obtain ⟨A2,n2,c2,p2,A2b,n2b,c2b,p2b,A2c,n2c,c2c,a2,b2,d2,rfl,hl2,hr2,hi2,hs2,hn2,hm2,hd2,hp2,hq2,-,-⟩:=h'.parts
 obtain ⟨s1,s3,s9⟩:=hx _ _ _ hl1
 obtain ⟨s2,s4,s10⟩:=hy _ _ _ hl2
 have e1:=wl_imul a1 d2
 have e2:=wl_imul a2 d1
 have e3:=wl_imul b1 d2
 have e4:=wl_imul b2 d1
 have e5:=wl_iadd (a1 * (d2:Int)) (a2 * (d1:Int))
 have e6:=wl_iadd (b1 * (d2:Int)) (b2 * (d1:Int))
 have e7:wl (d1 * d2) <= wl d1 + wl d2:=wl_mul _ _
 have e8:=wl_inat d1
 have e9:=wl_inat d2
 have g1:wl a1.natAbs < 549755813888:=oM
 have g2:wl a2.natAbs < 549755813888:=oM
 have g3:wl b1.natAbs < 549755813888:=oM
 have g4:wl b2.natAbs < 549755813888:=oM
 have y5:wl (a1 * (d2:Int)).natAbs < 549755813888:=oM
 have y6:wl (a2 * (d1:Int)).natAbs < 549755813888:=oM
 have g7:wl (b1 * (d2:Int)).natAbs < 549755813888:=oM
 have g8:wl (b2 * (d1:Int)).natAbs < 549755813888:=oM
 have g9:wl (d1:Int).natAbs < 549755813888:=oM
 have g10:wl (d2:Int).natAbs < 549755813888:=oM
 have ht:=add_terms hl1 hl2
 have HM:=hid (fun v1 v2 v3 W (q1:IsRI W v1 (a1 * (d2:Int) + a2 * (d1:Int))) (q2:IsRI W v2 (b1 * (d2:Int) + b2 * (d1:Int))) (q3:IsNat W v3 (d1 * d2))=>rMake_any v1 v2 v3 _ _ _ (x.add y) W q1 q2 q3 (Nat.mul_pos hl1.pos hl2.pos) ht.1 ht.2 oM oM oM)
 have HD:=hid (IsRI.nat hs1)
 have HE:=hid (IsRI.nat hs2)
 have HR1:=hid hr1
 have HI1:=hid hi1
 have HD1:=hid hs1
 have HR2:=hid hr2
 have HI2:=hid hi2
 have HD2:=hid hs2
 clear hr1 hi1 hs1 hr2 hi2 hs2 hn1 hm1 hd1 hp1 hq1 hn2 hm2 hd2 hp2 hq2 e1 e2 e3 e4 e5 e6 e7 e8 e9 ht h h' hx hy hm s1 s2 s3 s4 s9 s10 hl1 hl2
 go_enter Tryz.func93,Tryz.ntmps93
 go_upto_region 1 with fail
 obtain ⟨W1,hW1⟩:∃ W1:World,W1 = ((w.alloc (.cells #[.bool p1,.slice A1 n1 c1,.bool p1b,.slice A1b n1b c1b,.slice A1c n1c c1c] 42)).alloc (.cells #[.bool p2,.slice A2 n2 c2,.bool p2b,.slice A2b n2b c2b,.slice A2c n2c c2c] 42)).alloc (.cells #[.bool false,.slice none 0 0,.bool false,.slice none 0 0,.slice none 0 0] 42):=⟨_,rfl⟩
 rw [<- hW1]
 have B1:Below w.heap.size w W1:=by rw [hW1]; exact bel
 have X:=boxes3 w (.cells #[.bool p1,.slice A1 n1 c1,.bool p1b,.slice A1b n1b c1b,.slice A1c n1c c1c] 42) (.cells #[.bool p2,.slice A2 n2 c2,.bool p2b,.slice A2b n2b c2b,.slice A2c n2c c2c] 42) (.cells #[.bool false,.slice none 0 0,.bool false,.slice none 0 0,.slice none 0 0] 42)
 rw [<- hW1] at X
 obtain ⟨X0,z0,X1,z1,X2,z2⟩:=X
 clear hW1
 refine region_lin [.val (kIs (.pointer (some ⟨w.heap.size,4,none⟩))),.val (kIs (.slice A1c n1c c1c)),.val (kIs (.agg #[.bool false,.slice A1c n1c c1c])),.val (kIs (.pointer (some ⟨w.heap.size + 1,4,none⟩))),.val (kIs (.slice A2c n2c c2c)),.val (kIs (.agg #[.bool false,.slice A2c n2c c2c])),.box 40 zRI,.box 40 zRI,.put 6 2,.put 7 5]
  kR kR kR kR kR ⟨stab_is _,stab_is _,stab_is _,stab_is _,stab_is _,stab_is _,trivial⟩ sP ⟨?_,?_,?_,?_,?_,?_,alloc_ri,alloc_ri,store_riIs _ _ _ _,store_riIs _ _ _ _,trivial⟩ ?_
 ·exact obp
 ·intro ts W hb hB hp; have h0:ts 0 = _:=hp 0 kR; intro K hK; simp only [fillT,zA,Nat.reduceAdd,sA,sB,sC,h0] at hK ⊢; have HK:=hid hK; clear hK hp; obtain ⟨f0,f1,f2,f3,f4,-,-,-,-,-⟩:=bx5 ((hb.block _ z0).trans X0); refine ⟨?_⟩; go_simp; exact HK.out _ _ rfl rfB
 ·intro ts W hb hB hp; have h1:ts 1 = _:=hp 1 kR; intro K hK; simp only [fillT,zA,Nat.reduceAdd,sA,sB,sC,h1] at hK ⊢; have HK:=hid hK; clear hK hp; refine ⟨?_⟩; go_simp; exact HK.out _ _ rfl rfB
 ·exact obp
 ·intro ts W hb hB hp; have h3:ts 3 = _:=hp 3 kR; intro K hK; simp only [fillT,zA,Nat.reduceAdd,sA,sB,sC,h3] at hK ⊢; have HK:=hid hK; clear hK hp; obtain ⟨f0,f1,f2,f3,f4,-,-,-,-,-⟩:=bx5 ((hb.block _ z1).trans X1); refine ⟨?_⟩; go_simp; exact HK.out _ _ rfl rfB
 ·intro ts W hb hB hp; have h4:ts 4 = _:=hp 4 kR; intro K hK; simp only [fillT,zA,Nat.reduceAdd,sA,sB,sC,h4] at hK ⊢; have HK:=hid hK; clear hK hp; refine ⟨?_⟩; go_simp; exact HK.out _ _ rfl rfB
 intro ts W2 hb2 hh hap
 obtain ⟨g5,e5,lo5,z5,X5⟩:=held_boxI (cs:=#[.bool false,.slice A1c n1c c1c]) (hh 6 sP) rfl (hh 8 sP) rfl (hh 2 sP) rfl
 obtain ⟨g6,e6,lo6,z6,X6⟩:=held_boxI (cs:=#[.bool false,.slice A2c n2c c2c]) (hh 7 sP) rfl (hh 9 sP) rfl (hh 5 sP) rfl
 simp only [fillT,zA,Nat.reduceAdd,sA,sB,sC,e5,e6]
 clear hh hap e5 e6
 generalize ts 0 = u0_W2 at *
 generalize ts 1 = u1_W2 at *
 generalize ts 2 = u2_W2 at *
 generalize ts 3 = u3_W2 at *
 generalize ts 4 = u4_W2 at *
 generalize ts 5 = u5_W2 at *
 clear ts
 replace X0:=(hb2.block _ z0).trans X0
 replace z0:=lL z0 hb2.size
 replace X1:=(hb2.block _ z1).trans X1
 replace z1:=lL z1 hb2.size
 replace X2:=(hb2.block _ z2).trans X2
 replace z2:=lL z2 hb2.size
 replace B1:=bT B1 hb2
 clear hb2
 go_upto_region 2 with fail
 refine region_last [.val (kIs (.pointer (some ⟨w.heap.size,0,none⟩))),.val (kIs (.agg #[.bool p1,.slice A1 n1 c1])),.val (kIs (.agg #[.bool false,.slice A2c n2c c2c])),.val (kRI (a1 * (d2:Int))),.val (kIs (.pointer (some ⟨w.heap.size + 1,0,none⟩))),.val (kIs (.agg #[.bool p2,.slice A2 n2 c2])),.val (kIs (.agg #[.bool false,.slice A1c n1c c1c])),.val (kRI (a2 * (d1:Int))),.val (kRI (a1 * (d2:Int) + a2 * (d1:Int))),.val (kIs (.pointer (some ⟨w.heap.size,2,none⟩))),.val (kIs (.agg #[.bool p1b,.slice A1b n1b c1b])),.val (kIs (.agg #[.bool false,.slice A2c n2c c2c])),.val (kRI (b1 * (d2:Int))),.val (kIs (.pointer (some ⟨w.heap.size + 1,2,none⟩))),.val (kIs (.agg #[.bool p2b,.slice A2b n2b c2b])),.val (kIs (.agg #[.bool false,.slice A1c n1c c1c])),.val (kRI (b2 * (d1:Int))),.val (kRI (b1 * (d2:Int) + b2 * (d1:Int))),.val (kIs (.pointer (some ⟨w.heap.size,4,none⟩))),.val (kIs (.slice A1c n1c c1c)),.val (kIs (.pointer (some ⟨w.heap.size + 1,4,none⟩))),.val (kIs (.slice A2c n2c c2c)),.val (kNat (d1 * d2)),.val (kQ (x.add y))]
  kR kR kR kR kR ⟨Stab.b (stab_is _),Stab.b (stab_is _),Stab.b (stab_is _),stabB_ri _,Stab.b (stab_is _),Stab.b (stab_is _),Stab.b (stab_is _),stabB_ri _,stabB_ri _,Stab.b (stab_is _),Stab.b (stab_is _),Stab.b (stab_is _),stabB_ri _,Stab.b (stab_is _),Stab.b (stab_is _),Stab.b (stab_is _),stabB_ri _,stabB_ri _,Stab.b (stab_is _),Stab.b (stab_is _),Stab.b (stab_is _),Stab.b (stab_is _),stabB_nat _,stabB_q _,trivial⟩ sP (ol:=_) rfl kR ⟨?_,?_,?_,?_,?_,?_,?_,?_,?_,?_,?_,?_,?_,?_,?_,?_,?_,?_,?_,?_,?_,?_,?_,?_,trivial⟩ ?_
 ·exact obp
 ·intro ts W hb hB hp; have h0:ts 0 = _:=hp 0 kR; intro K hK; simp only [fillT,zA,Nat.reduceAdd,sA,sB,sC,h0] at hK ⊢; have HK:=hid hK; clear hK hp; obtain ⟨f0,f1,f2,f3,f4,-,-,-,-,-⟩:=bx5 ((hb.block _ z0).trans X0); refine ⟨?_⟩; go_simp; exact HK.out _ _ rfl rfB
 ·intro ts W hb hB hp K hK; simp only [fillT,zA,Nat.reduceAdd,sA,sB,sC] at hK ⊢; have HK:=hid hK; clear hK hp; obtain ⟨f0,f1,-,-⟩:=bx2 ((hb.block _ z6).trans X6); refine ⟨?_⟩; go_simp; exact HK.out _ _ rfl rfB
 ·intro ts W hb hB hp; have h1:ts 1 = _:=hp 1 kR; have h2:ts 2 = _:=hp 2 kR; intro K hK; simp only [fillT,zA,Nat.reduceAdd,sA,sB,sC,h1,h2] at hK ⊢; have HK:=hid hK; clear hK hp; refine ⟨?_⟩; go_simp; refine (rIntMul_any _ _ _ _ W (HR1.out.below (bT B1 hb)) (HE.out.below (bT B1 hb)) g1 g10).mono ?_; rintro e W9 ⟨r9,rfl,hr9,hb9⟩; exact HK.out _ _ hr9 hb9
 ·exact obp
 ·intro ts W hb hB hp; have h4:ts 4 = _:=hp 4 kR; intro K hK; simp only [fillT,zA,Nat.reduceAdd,sA,sB,sC,h4] at hK ⊢; have HK:=hid hK; clear hK hp; obtain ⟨f0,f1,f2,f3,f4,-,-,-,-,-⟩:=bx5 ((hb.block _ z1).trans X1); refine ⟨?_⟩; go_simp; exact HK.out _ _ rfl rfB
 ·intro ts W hb hB hp K hK; simp only [fillT,zA,Nat.reduceAdd,sA,sB,sC] at hK ⊢; have HK:=hid hK; clear hK hp; obtain ⟨f0,f1,-,-⟩:=bx2 ((hb.block _ z5).trans X5); refine ⟨?_⟩; go_simp; exact HK.out _ _ rfl rfB
 ·intro ts W hb hB hp; have h5:ts 5 = _:=hp 5 kR; have h6:ts 6 = _:=hp 6 kR; intro K hK; simp only [fillT,zA,Nat.reduceAdd,sA,sB,sC,h5,h6] at hK ⊢; have HK:=hid hK; clear hK hp; refine ⟨?_⟩; go_simp; refine (rIntMul_any _ _ _ _ W (HR2.out.below (bT B1 hb)) (HD.out.below (bT B1 hb)) g2 g9).mono ?_; rintro e W9 ⟨r9,rfl,hr9,hb9⟩; exact HK.out _ _ hr9 hb9
 ·intro ts W hb hB hp; have h3:=hp 3 kR; have h7:=hp 7 kR; intro K hK; simp only [fillT,zA,Nat.reduceAdd,sA,sB,sC] at hK ⊢; have HK:=hid hK; clear hK hp; refine ⟨?_⟩; go_simp; refine (rIntAdd_any _ _ _ _ W h3 h7 y5 y6).mono ?_; rintro e W9 ⟨r9,rfl,hr9,hb9⟩; exact HK.out _ _ hr9 hb9
 ·exact obp
 ·intro ts W hb hB hp; have h9:ts 9 = _:=hp 9 kR; intro K hK; simp only [fillT,zA,Nat.reduceAdd,sA,sB,sC,h9] at hK ⊢; have HK:=hid hK; clear hK hp; obtain ⟨f0,f1,f2,f3,f4,-,-,-,-,-⟩:=bx5 ((hb.block _ z0).trans X0); refine ⟨?_⟩; go_simp; exact HK.out _ _ rfl rfB
 ·intro ts W hb hB hp K hK; simp only [fillT,zA,Nat.reduceAdd,sA,sB,sC] at hK ⊢; have HK:=hid hK; clear hK hp; obtain ⟨f0,f1,-,-⟩:=bx2 ((hb.block _ z6).trans X6); refine ⟨?_⟩; go_simp; exact HK.out _ _ rfl rfB
 ·intro ts W hb hB hp; have h10:ts 10 = _:=hp 10 kR; have h11:ts 11 = _:=hp 11 kR; intro K hK; simp only [fillT,zA,Nat.reduceAdd,sA,sB,sC,h10,h11] at hK ⊢; have HK:=hid hK; clear hK hp; refine ⟨?_⟩; go_simp; refine (rIntMul_any _ _ _ _ W (HI1.out.below (bT B1 hb)) (HE.out.below (bT B1 hb)) g3 g10).mono ?_; rintro e W9 ⟨r9,rfl,hr9,hb9⟩; exact HK.out _ _ hr9 hb9
 ·exact obp
 ·intro ts W hb hB hp; have h13:ts 13 = _:=hp 13 kR; intro K hK; simp only [fillT,zA,Nat.reduceAdd,sA,sB,sC,h13] at hK ⊢; have HK:=hid hK; clear hK hp; obtain ⟨f0,f1,f2,f3,f4,-,-,-,-,-⟩:=bx5 ((hb.block _ z1).trans X1); refine ⟨?_⟩; go_simp; exact HK.out _ _ rfl rfB
 ·intro ts W hb hB hp K hK; simp only [fillT,zA,Nat.reduceAdd,sA,sB,sC] at hK ⊢; have HK:=hid hK; clear hK hp; obtain ⟨f0,f1,-,-⟩:=bx2 ((hb.block _ z5).trans X5); refine ⟨?_⟩; go_simp; exact HK.out _ _ rfl rfB
 ·intro ts W hb hB hp; have h14:ts 14 = _:=hp 14 kR; have h15:ts 15 = _:=hp 15 kR; intro K hK; simp only [fillT,zA,Nat.reduceAdd,sA,sB,sC,h14,h15] at hK ⊢; have HK:=hid hK; clear hK hp; refine ⟨?_⟩; go_simp; refine (rIntMul_any _ _ _ _ W (HI2.out.below (bT B1 hb)) (HD.out.below (bT B1 hb)) g4 g9).mono ?_; rintro e W9 ⟨r9,rfl,hr9,hb9⟩; exact HK.out _ _ hr9 hb9
 ·intro ts W hb hB hp; have h12:=hp 12 kR; have h16:=hp 16 kR; intro K hK; simp only [fillT,zA,Nat.reduceAdd,sA,sB,sC] at hK ⊢; have HK:=hid hK; clear hK hp; refine ⟨?_⟩; go_simp; refine (rIntAdd_any _ _ _ _ W h12 h16 g7 g8).mono ?_; rintro e W9 ⟨r9,rfl,hr9,hb9⟩; exact HK.out _ _ hr9 hb9
 ·exact obp
 ·intro ts W hb hB hp; have h18:ts 18 = _:=hp 18 kR; intro K hK; simp only [fillT,zA,Nat.reduceAdd,sA,sB,sC,h18] at hK ⊢; have HK:=hid hK; clear hK hp; obtain ⟨f0,f1,f2,f3,f4,-,-,-,-,-⟩:=bx5 ((hb.block _ z0).trans X0); refine ⟨?_⟩; go_simp; exact HK.out _ _ rfl rfB
 ·exact obp
 ·intro ts W hb hB hp; have h20:ts 20 = _:=hp 20 kR; intro K hK; simp only [fillT,zA,Nat.reduceAdd,sA,sB,sC,h20] at hK ⊢; have HK:=hid hK; clear hK hp; obtain ⟨f0,f1,f2,f3,f4,-,-,-,-,-⟩:=bx5 ((hb.block _ z1).trans X1); refine ⟨?_⟩; go_simp; exact HK.out _ _ rfl rfB
 ·intro ts W hb hB hp; have h19:ts 19 = _:=hp 19 kR; have h21:ts 21 = _:=hp 21 kR; intro K hK; simp only [fillT,zA,Nat.reduceAdd,sA,sB,sC,h19,h21] at hK ⊢; have HK:=hid hK; clear hK hp; refine ⟨?_⟩; go_simp; refine (rNatMul_any _ _ _ _ W (HD1.out.below (bT B1 hb)) (HD2.out.below (bT B1 hb)) g9 g10).mono ?_; rintro e W9 ⟨r9,rfl,hr9,hb9⟩; exact HK.out _ _ hr9 hb9
 ·intro ts W hb hB hp; have h8:=hp 8 kR; have h17:=hp 17 kR; have h22:=hp 22 kR; intro K hK; simp only [fillT,zA,Nat.reduceAdd,sA,sB,sC] at hK ⊢; have HK:=hid hK; clear hK hp; refine ⟨?_⟩; go_simp; refine (HM.out _ _ _ W h8 h17 h22).mono ?_; rintro e W9 ⟨r9,rfl,hr9,hb9⟩; exact HK.out _ _ hr9 hb9
 intro ts W3 hb3 hh hap K hK
 have hq:IsQ W3 (ts 23) (x.add y):=hh 23 sP
 obtain ⟨A9,n9,c9,p9,A9b,n9b,c9b,p9b,A9c,n9c,c9c,qa,qb,qd,hqe,-⟩:=hq.parts
 have Y0:=(hb3.block (w.heap.size + 2) oM).trans X2
 have HK:=hid hK
 clear hK
 simp only [fillT,zA,Nat.reduceAdd,sA,sB,sC,hqe]
 rw [hqe] at hq
 clear hh hap hqe
 refine ⟨?_⟩
 refine wp_store_row _ _ _ rfl (w.heap.size + 2) _ rfl rfl _ _ Y0 kR rfl (by simp [Value.oneCell']) (HK.out _ _ ?_)
 have hput:=putAt_setRow (cs:=#[.bool p9,.slice A9 n9 c9,.bool p9b,.slice A9b n9b c9b,.slice A9c n9c c9c]) Y0
 have hext:=hput.ext Y0 dE
 have B2:=hput.below (bT B1 hb3) oM
 generalize W3.setRow (w.heap.size + 2) #[.bool p9,.slice A9 n9 c9,.bool p9b,.slice A9b n9b c9b,.slice A9c n9c c9c] = W4 at *
 have h5:=hq.ext hext
 obtain ⟨f0,f1,f2,f3,f4,y0,y1,y2,y3,y4⟩:=bx5 hput.here
 clear hput hext hq Y0 HK
 go_wp2
 refine bodyPost_ret (v:=.agg #[.bool p9,.slice A9 n9 c9,.bool p9b,.slice A9b n9b c9b,.slice A9c n9c c9c]) (by simp [results,Tryz.results93,go_sem,f0,f1,f2,f3,f4]) rfl ?_
 exact ⟨_,rfl,h5,B2⟩
theorem rNeg_any (v:Value) (x:Cx) (w:World) (h:IsQ w v x) :
  Calls Tryz.prog 52 #[v] w (RetQ w x.neg):=by
 obtain ⟨A1,n1,c1,p1,A1b,n1b,c1b,p1b,A1c,n1c,c1c,a1,b1,d1,rfl,hl1,hr1,hi1,hs1,hn1,hm1,hd1,hp1,hq1,-,-⟩:=h.parts
 have HL:=hid hl1.neg
 have HA:=hid (fun W (hb:Below w.heap.size w W)=>rIntNeg_any _ _ W (hr1.below hb))
 have HB:=hid (fun W (hb:Below w.heap.size w W)=>rIntNeg_any _ _ W (hi1.below hb))
 have HS:=hid hs1
 clear hl1 hr1 hi1 hs1 h hn1 hm1 hd1 hp1 hq1
 go_enter Tryz.func52,Tryz.ntmps52
 go_wp2_with fail
 go_region_held3 (fun w'=>w'.cell? ⟨w.heap.size,0,none⟩ = some (.bool p1) /\ w'.cell? ⟨w.heap.size,1,none⟩ = some (.slice A1 n1 c1) /\ w'.cell? ⟨w.heap.size,2,none⟩ = some (.bool p1b) /\ w'.cell? ⟨w.heap.size,3,none⟩ = some (.slice A1b n1b c1b) /\ w'.cell? ⟨w.heap.size,4,none⟩ = some (.slice A1c n1c c1c)) (go_keep) (first | (go_at_call 111; (first | ((with_reducible refine (HA.out _ ?_).mono ?_); (exact bel); (rintro e W6 ⟨r6,rfl,hr6,hb6⟩; obtain ⟨A6,n6,c6,rfl,hn6,-⟩:=hr6.parts; clear hn6; generalize hq6:decide (-a1 < 0) = q6 at *; clear hq6; obtain ⟨hc6,hf6,hz6⟩:=bcells hb6 (w.heap.size + 2) (by simp <;> omega))) | ((with_reducible refine (HB.out _ ?_).mono ?_); (exact bel); (rintro e W7 ⟨r7,rfl,hr7,hb7⟩; obtain ⟨A7,n7,c7,rfl,hn7,-⟩:=hr7.parts; clear hn7; generalize hq7:decide (-b1 < 0) = q7 at *; clear hq7; have kb7:Below W6.heap.size W6 W7:=bel; clear hb7; obtain ⟨hc7,hf7,hz7⟩:=bcells kb7 (w.heap.size + 2) oM)))))
 go_wp2
 have B6:Below w.heap.size w W6:=bel
 have B7:=bT B6 kb7
 have NB:NumBox W7 (w.heap.size + 1):=NumBox.of hc7 oM (NumBox.of hc6 (g:=w.heap.size + 1) oM (.nilQ sG sG sG sG sG))
 refine bodyPost_ret (v:=.agg #[.bool q6,.slice A6 n6 c6,.bool q7,.slice A7 n7 c7,.slice A1c n1c c1c]) (by simp [results,Tryz.results52]; exact run_loadQ NB _ _ _ _ _) rfl ?_
 exact RetQ.box B7 oM NB (.mk HL.out (hr6.below kb7) hr7 (HS.out.below B7)) _ _ _ _ _
theorem rConj_any (v:Value) (x:Cx) (w:World) (h:IsQ w v x) :
  Calls Tryz.prog 94 #[v] w (RetQ w x.conj):=by
 obtain ⟨A1,n1,c1,p1,A1b,n1b,c1b,p1b,A1c,n1c,c1c,a1,b1,d1,rfl,hl1,hr1,hi1,hs1,hn1,hm1,hd1,hp1,hq1,-,-⟩:=h.parts
 have HL:=hid hl1.conj
 have HB:=hid (fun W (hb:Below w.heap.size w W)=>rIntNeg_any _ _ W (hi1.below hb))
 have HS:=hid hs1
 have HR:=hid hr1
 clear hl1 hr1 hi1 hs1 h hn1 hm1 hd1 hp1 hq1
 go_enter Tryz.func94,Tryz.ntmps94
 go_wp2_with fail
 go_region_held3 (fun w'=>w'.cell? ⟨w.heap.size,0,none⟩ = some (.bool p1) /\ w'.cell? ⟨w.heap.size,1,none⟩ = some (.slice A1 n1 c1) /\ w'.cell? ⟨w.heap.size,2,none⟩ = some (.bool p1b) /\ w'.cell? ⟨w.heap.size,3,none⟩ = some (.slice A1b n1b c1b) /\ w'.cell? ⟨w.heap.size,4,none⟩ = some (.slice A1c n1c c1c)) (go_keep) (first | (go_at_call 111; ((with_reducible refine (HB.out _ ?_).mono ?_); (exact bel); (rintro e W7 ⟨r7,rfl,hr7,hb7⟩; obtain ⟨A7,n7,c7,rfl,hn7,-⟩:=hr7.parts; clear hn7; generalize hq7:decide (-b1 < 0) = q7 at *; clear hq7; obtain ⟨hc7,hf7,hz7⟩:=bcells hb7 (w.heap.size + 2) (by simp <;> omega)))))
 go_wp2
 have B7:Below w.heap.size w W7:=bel
 have NB:NumBox W7 (w.heap.size + 1):=NumBox.of hc7 (g:=w.heap.size + 1) oM (.nilQ sG sG sG sG sG)
 refine bodyPost_ret (v:=.agg #[.bool p1,.slice A1 n1 c1,.bool q7,.slice A7 n7 c7,.slice A1c n1c c1c]) (by simp [results,Tryz.results94]; exact run_loadQ NB _ _ _ _ _) rfl ?_
 exact RetQ.box B7 oM NB (.mk HL.out (HR.out.below B7) hr7 (HS.out.below B7)) _ _ _ _ _
theorem rZero_any (v:Value) (x:Cx) (w:World) (h:IsQ w v x) :
  Calls Tryz.prog 56 #[v] w fun e w'=>e = .returned (.bool (decide (x = .zero))) /\ Below w.heap.size w w':=by
 obtain ⟨A1,n1,c1,p1,A1b,n1b,c1b,p1b,A1c,n1c,c1c,a1,b1,d1,rfl,hl1,hr1,hi1,hs1,hn1,hm1,hd1,hp1,hq1,-,-⟩:=h.parts
 have hd:decide (x = .zero) = (decide (n1 = 0) && decide (n1b = 0)):=by
  rw [Bool.eq_iff_iff]
  simp only [decide_eq_true_eq,Bool.and_eq_true,hl1.clear,hn1,hm1,wl_eq_zero]
  omega
 rw [hd]
 clear hl1 hr1 hi1 hs1 h hn1 hm1 hd1 hp1 hq1 hd
 by_cases k1:n1 = 0 <;> by_cases k2:n1b = 0
 all_goals
  try subst k1
  try subst k2
  go_enter Tryz.func56,Tryz.ntmps56
  go_wp2
  go_ret
  exact ⟨by simp [*],bel⟩
theorem rSub_any (v u:Value) (x y:Cx) (w:World) (h:IsQ w v x) (h':IsQ w u y) (m n:Nat) (hx:Sz x m) (hy:Sz y n) (hm:m + n + 1 < 549755813888) :
  Calls Tryz.prog 58 #[v,u] w (RetQ w (x.sub y)):=by
 have HA:=hid (fun W (hb:Below w.heap.size w W)=>rNeg_any _ y W (h'.below hb))
 have HS:=hid (fun v' W (hb:Below w.heap.size w W) (hv:IsQ W v' y.neg)=>rAdd_any v v' x y.neg W (h.below hb) hv m n hx hy.neg hm)
 rw [show x.add y.neg = x.sub y by apply Cx.ext <;> simp [Cx.add,Cx.neg,Cx.sub] <;> grind] at HS
 obtain ⟨A1,n1,c1,p1,A1b,n1b,c1b,p1b,A1c,n1c,c1c,a1,b1,d1,rfl,hl1,hr1,hi1,hs1,hn1,hm1,hd1,hp1,hq1,-,-⟩:=h.parts
 obtain ⟨A2,n2,c2,p2,A2b,n2b,c2b,p2b,A2c,n2c,c2c,a2,b2,d2,rfl,hl2,hr2,hi2,hs2,hn2,hm2,hd2,hp2,hq2,-,-⟩:=h'.parts
 clear hl1 hr1 hi1 hs1 h hn1 hm1 hd1 hp1 hq1 hl2 hr2 hi2 hs2 h' hn2 hm2 hd2 hp2 hq2 hx hy hm
 have hne1:¬ (w.heap.size + 1 + 1 = w.heap.size):=oM
 have hne2:¬ (w.heap.size = w.heap.size + 1 + 1):=oM
 go_enter Tryz.func58,Tryz.ntmps58
 go_wp2_with fail
 go_region_held3 (fun w'=>w'.cell? ⟨w.heap.size,0,none⟩ = some (.bool p1) /\ w'.cell? ⟨w.heap.size,1,none⟩ = some (.slice A1 n1 c1) /\ w'.cell? ⟨w.heap.size,2,none⟩ = some (.bool p1b) /\ w'.cell? ⟨w.heap.size,3,none⟩ = some (.slice A1b n1b c1b) /\ w'.cell? ⟨w.heap.size,4,none⟩ = some (.slice A1c n1c c1c) /\ w'.cell? ⟨w.heap.size + 1,0,none⟩ = some (.bool p2) /\ w'.cell? ⟨w.heap.size + 1,1,none⟩ = some (.slice A2 n2 c2) /\ w'.cell? ⟨w.heap.size + 1,2,none⟩ = some (.bool p2b) /\ w'.cell? ⟨w.heap.size + 1,3,none⟩ = some (.slice A2b n2b c2b) /\ w'.cell? ⟨w.heap.size + 1,4,none⟩ = some (.slice A2c n2c c2c)) (go_keep) (first | (go_at_call 52; ((with_reducible refine (HA.out _ ?_).mono ?_); (exact bel); (rintro e W6 ⟨r6,rfl,hr6,hb6⟩; obtain ⟨A6,n6,c6,p6,A6b,n6b,c6b,p6b,A6c,n6c,c6c,a6,b6,d6,rfl,-⟩:=hr6.parts; obtain ⟨hc6,hf6,hz6⟩:=bcells hb6 (w.heap.size + 3) (by simp <;> omega)))) | (go_at_call 93; ((with_reducible refine (HS.out _ _ ?_ (hr6.below bel)).mono ?_); (exact bel); (rintro e W7 ⟨r7,rfl,hr7,hb7⟩; obtain ⟨A7,n7,c7,p7,A7b,n7b,c7b,p7b,A7c,n7c,c7c,a7,b7,d7,rfl,-⟩:=hr7.parts; have kb7:Below W6.heap.size W6 W7:=bel; clear hb7; obtain ⟨hc7,hf7,hz7⟩:=bcells kb7 (w.heap.size + 3) oM))))
 go_wp2
 have B6:Below w.heap.size w W6:=bel
 have B7:=bT B6 kb7
 have NB:NumBox W7 (w.heap.size + 2):=NumBox.of hc7 oM (NumBox.of hc6 (g:=w.heap.size + 2) oM (.nilQ sG sG sG sG sG))
 refine bodyPost_ret (v:=.agg #[.bool p7,.slice A7 n7 c7,.bool p7b,.slice A7b n7b c7b,.slice A7c n7c c7c]) (by simp [results,Tryz.results58]; exact run_loadQ NB _ _ _ _ _) rfl ?_
 exact RetQ.box B7 oM NB hr7 _ _ _ _ _
theorem rNorm_any (v:Value) (x:Cx) (w:World) (h:IsQ w v x) (m:Nat) (hx:Sz x m) (hm:m + m + 1 < 549755813888) :
  Calls Tryz.prog 113 #[v] w (RetQ w x.norm):=by
 have HA:=hid (fun W (hb:Below w.heap.size w W)=>rConj_any _ x W (h.below hb))
 have HS:=hid (fun v' W (hb:Below w.heap.size w W) (hv:IsQ W v' x.conj)=>rMul_any v v' x x.conj W (h.below hb) hv m m hx hx.conj hm)
 rw [show x.mul x.conj = x.norm by apply Cx.ext <;> simp [Cx.mul,Cx.conj,Cx.norm,Cx.nrm] <;> grind] at HS
 obtain ⟨A1,n1,c1,p1,A1b,n1b,c1b,p1b,A1c,n1c,c1c,a1,b1,d1,rfl,hl1,hr1,hi1,hs1,hn1,hm1,hd1,hp1,hq1,-,-⟩:=h.parts
 clear hl1 hr1 hi1 hs1 h hn1 hm1 hd1 hp1 hq1 hx hm
 go_enter Tryz.func113,Tryz.ntmps113
 go_wp2_with fail
 go_region_held3 (fun w'=>w'.cell? ⟨w.heap.size,0,none⟩ = some (.bool p1) /\ w'.cell? ⟨w.heap.size,1,none⟩ = some (.slice A1 n1 c1) /\ w'.cell? ⟨w.heap.size,2,none⟩ = some (.bool p1b) /\ w'.cell? ⟨w.heap.size,3,none⟩ = some (.slice A1b n1b c1b) /\ w'.cell? ⟨w.heap.size,4,none⟩ = some (.slice A1c n1c c1c)) (go_keep) (first | (go_at_call 94; ((with_reducible refine (HA.out _ ?_).mono ?_); (exact bel); (rintro e W6 ⟨r6,rfl,hr6,hb6⟩; obtain ⟨A6,n6,c6,p6,A6b,n6b,c6b,p6b,A6c,n6c,c6c,a6,b6,d6,rfl,-⟩:=hr6.parts; obtain ⟨hc6,hf6,hz6⟩:=bcells hb6 (w.heap.size + 2) (by simp <;> omega)))) | (go_at_call 51; ((with_reducible refine (HS.out _ _ ?_ (hr6.below bel)).mono ?_); (exact bel); (rintro e W7 ⟨r7,rfl,hr7,hb7⟩; obtain ⟨A7,n7,c7,p7,A7b,n7b,c7b,p7b,A7c,n7c,c7c,a7,b7,d7,rfl,-⟩:=hr7.parts; have kb7:Below W6.heap.size W6 W7:=bel; clear hb7; obtain ⟨hc7,hf7,hz7⟩:=bcells kb7 (w.heap.size + 2) oM))))
 go_wp2
 have B6:Below w.heap.size w W6:=bel
 have B7:=bT B6 kb7
 have NB:NumBox W7 (w.heap.size + 1):=NumBox.of hc7 oM (NumBox.of hc6 (g:=w.heap.size + 1) oM (.nilQ sG sG sG sG sG))
 refine bodyPost_ret (v:=.agg #[.bool p7,.slice A7 n7 c7,.bool p7b,.slice A7b n7b c7b,.slice A7c n7c c7c]) (by simp [results,Tryz.results113]; exact run_loadQ NB _ _ _ _ _) rfl ?_
 exact RetQ.box B7 oM NB hr7 _ _ _ _ _
theorem stab_q (x:Cx):Stab (kQ x):=fun _ _ _ he h=>IsQ.ext h he
def zQ:Array Value:=#[.bool false,.slice none 0 0,.bool false,.slice none 0 0,.slice none 0 0]
theorem alloc_q:AllocOk Tryz.prog 42 zQ:=fun W=>by
 simp [go_sem,zQ]
theorem IsQ.agg {W:World} {v:Value} {x:Cx} (h:IsQ W v x):∃ cs,v = .agg cs /\ cs.size = 5 /\ cs.all (·.oneCell') = true:=by
 obtain ⟨A,n,c,p,A',n',c',p',A'',n'',c'',a,b,d,rfl,-⟩:=h.parts
 exact ⟨_,rfl,rfl,by simp [Value.oneCell']⟩
theorem store_q (x:Cx):StoreOk Tryz.prog 42 zQ (kQ x):=⟨kR,fun v W h=>IsQ.agg h⟩
def QAt (W:World) (v:Value) (lo:Nat) (x:Cx):Prop:=∃ g A n c p A' n' c' p' A'' n'' c'',v = .pointer (some ⟨g,0,none⟩) /\ lo <= g /\ g < W.heap.size /\
 W.heap[g]? = some (.cells #[.bool p,.slice A n c,.bool p',.slice A' n' c',.slice A'' n'' c''] 42 (0,0)) /\ IsQ W (.agg #[.bool p,.slice A n c,.bool p',.slice A' n' c',.slice A'' n'' c'']) x
theorem held_q {kl:List RK} {B:Nat} {ts:Nat -> Value} {W:World} {i:Nat} {x:Cx} (h:Held kl B ts (fun _=>true) W i) (hk:rk kl i = .val (kQ x)):IsQ W (ts i) x:=by
 unfold Held at h
 rw [hk] at h
 exact h
theorem held_boxQ {kl:List RK} {B:Nat} {ts:Nat -> Value} {W:World} {b c k:Nat} {x:Cx} (h:Held kl B ts (fun _=>true) W b) (hb:rk kl b = .box 42 zQ) (h':Held kl B ts (fun _=>true) W k) (hk:rk kl k = .put b c)
  (h2:Held kl B ts (fun _=>true) W c) (hc:rk kl c = .val (kQ x)):QAt W (ts b) B x:=by
 have hx:=held_q h2 hc
 unfold Held at h h'
 rw [hb] at h
 rw [hk] at h'
 simp only at h h'
 obtain ⟨g,h1,h3,h4,-⟩:=h
 obtain ⟨g',cs',T,z,e1,e2,e3,e4⟩:=h'
 rw [h1] at e1
 injection e1 with e1
 injection e1 with e1
 injection e1 with e1
 subst e1
 rw [hb] at e3
 injection e3 with e3 _
 subst e3
 obtain ⟨A,n,c,p,A',n',c',p',A'',n'',c'',a,b,d,he,-⟩:=hx.parts
 rw [he] at e2 hx
 injection e2 with e2
 subst e2
 exact ⟨g,A,n,c,p,A',n',c',p',A'',n'',c'',h1,h3,h4,e4,hx⟩
theorem div_terms {x y:Cx} {za zb na nb:Int} {zd nd:Nat} (h:Low (x.mul y.conj) za zb zd) (h':Low y.norm na nb nd) (h0:y ≠ .zero) :
  0 < na /\ (x.div y).re * ((zd * na.natAbs:Nat):Rat) = ((za * nd:Int):Rat) /\ (x.div y).im * ((zd * na.natAbs:Nat):Rat) = ((zb * nd:Int):Rat):=by
 obtain ⟨hzd,-,z1,z2⟩:=h
 obtain ⟨hnd,-,n1,n2⟩:=h'
 have hne:=nrm_pos_ne h0
 have hna:0 < na:=by
  obtain ⟨a',b',d',hl⟩:=Low.ex y
  have hz:¬ (a' = 0 /\ b' = 0):=fun e=>h0 (hl.clear.2 e)
  have hp:=sq_pos hz
  have hc:=cross n1 (norm_terms hl).1
  have hd:0 < d' * d':=Nat.mul_pos hl.pos hl.pos
  have h2:0 < (a' * a' + b' * b') * (nd:Int):=Int.mul_pos hp oM
  rcases Int.lt_or_le 0 na with h3 | h3
  ·exact h3
  ·have h4:=Int.mul_le_mul_of_nonneg_right h3 (show (0:Int) <= ((d' * d':Nat):Int) by omega)
   rw [hc] at h4
   omega
 simp only [Cx.norm] at n1
 have hnat:((na.natAbs:Nat):Rat) = (na:Rat):=by
  rw [<- Rat.intCast_natCast]
  congr 1
  omega
 refine ⟨hna,?_,?_⟩
 ·rw [Rat.natCast_mul,hnat,<- n1,Rat.intCast_mul,<- z1,Rat.intCast_natCast]
  simp only [Cx.div,Cx.mul,Cx.inv,Cx.conj]
  generalize y.nrm = N at *
  grind
 ·rw [Rat.natCast_mul,hnat,<- n1,Rat.intCast_mul,<- z2,Rat.intCast_natCast]
  simp only [Cx.div,Cx.mul,Cx.inv,Cx.conj]
  generalize y.nrm = N at *
  grind
theorem rDiv_any (v u:Value) (x y:Cx) (w:World) (h:IsQ w v x) (h':IsQ w u y) (m n:Nat) (hx:Sz x m) (hy:Sz y n) (hm:m + 4 * n + 4 < 549755813888) (h0:y ≠ .zero) :
  Calls Tryz.prog 57 #[v,u] w (RetQE w (x.div y) 0):=by
 have HZ:=hid (fun W (hb:Below w.heap.size w W)=>rZero_any _ y W (h'.below hb))
 rw [decide_eq_false h0] at HZ
 have HN:=hid (fun W (hb:Below w.heap.size w W)=>rNorm_any _ y W (h'.below hb) n hy oM)
 have HX:=hid h
 have HY:=hid h'
 have hsn:=hy.norm
 have hsz:=hx.mul hy.conj
 have hmn:m + n + 1 < 549755813888:=oM
 obtain ⟨A1,n1,c1,p1,A1b,n1b,c1b,p1b,A1c,n1c,c1c,a1,b1,d1,rfl,hl1,hr1,hi1,hs1,hn1,hm1,hd1,hp1,hq1,-,-⟩:=h.parts
 obtain ⟨A2,n2,c2,p2,A2b,n2b,c2b,p2b,A2c,n2c,c2c,a2,b2,d2,rfl,hl2,hr2,hi2,hs2,hn2,hm2,hd2,hp2,hq2,-,-⟩:=h'.parts
 clear hl1 hr1 hi1 hs1 h hn1 hm1 hd1 hp1 hq1 hl2 hr2 hi2 hs2 h' hn2 hm2 hd2 hp2 hq2
 go_enter Tryz.func57,Tryz.ntmps57
 go_wp2_with fail
 refine (HZ.out _ bel).mono ?_
 rintro e W2 ⟨rfl,hb2⟩
 obtain ⟨hc2,hf2,hz2⟩:=bcells hb2 (w.heap.size + 3) sP
 have B2:Below w.heap.size w W2:=bel
 go_wp2_with fail
 refine (HN.out _ B2).mono ?_
 rintro e W3 ⟨r,rfl,hr3,hb3⟩
 obtain ⟨hc3,hf3,hz3⟩:=bcells hb3 (w.heap.size + 3) oM
 have B3:=bT B2 hb3
 obtain ⟨A3,n3,c3,p3,A3b,n3b,c3b,p3b,A3c,n3c,c3c,na,nb,nd,rfl,hl3,hr3a,hr3b,hr3c,-,-,-,-,-,hr3n,-⟩:=hr3.parts
 obtain ⟨X0,z0,X1,z1,X2,z2⟩:=boxes3 w (.cells #[.bool p1,.slice A1 n1 c1,.bool p1b,.slice A1b n1b c1b,.slice A1c n1c c1c] 42) (.cells #[.bool p2,.slice A2 n2 c2,.bool p2b,.slice A2b n2b c2b,.slice A2c n2c c2c] 42) (.cells #[.bool false,.slice none 0 0,.bool false,.slice none 0 0,.slice none 0 0] 42)
 replace X0:=(hb3.block _ (lL z0 hb2.size)).trans ((hb2.block _ z0).trans X0)
 replace X1:=(hb3.block _ (lL z1 hb2.size)).trans ((hb2.block _ z1).trans X1)
 replace X2:=(hb3.block _ (lL z2 hb2.size)).trans ((hb2.block _ z2).trans X2)
 have z3:=hb3.size
 have z4:=hb2.size
 replace z0:w.heap.size < W3.heap.size:=oM
 replace z1:w.heap.size + 1 < W3.heap.size:=oM
 replace z2:w.heap.size + 2 < W3.heap.size:=oM
 have o2:=z2
 clear z3 z4 hc2 hf2 hc3 hf3 hb2 hb3 B2
 go_upto_region 4 with fail
 obtain ⟨W4,hW4⟩:∃ W4:World,W4 = W3.alloc (.cells #[.bool p3,.slice A3 n3 c3,.bool p3b,.slice A3b n3b c3b,.slice A3c n3c c3c] 42):=⟨_,rfl⟩
 rw [<- hW4]
 have D4:Below W3.heap.size W3 W4:=by rw [hW4]; exact below_alloc _ _
 have X3:W4.heap[W3.heap.size]? = some (.cells #[.bool p3,.slice A3 n3 c3,.bool p3b,.slice A3b n3b c3b,.slice A3c n3c c3c] 42 (0,0)):=by rw [hW4]; exact heap_alloc_new _ _
 have z3:W3.heap.size < W4.heap.size:=by rw [hW4]; simp
 have B1:=B3
 have o3:=z3
 replace hr3c:=hr3c.below D4
 replace hr3n:=hr3n.below D4
 clear hW4 B3
 replace X0:=(D4.block _ z0).trans X0
 replace z0:=lL z0 D4.size
 replace X1:=(D4.block _ z1).trans X1
 replace z1:=lL z1 D4.size
 replace X2:=(D4.block _ z2).trans X2
 replace z2:=lL z2 D4.size
 replace B1:=bT B1 D4
 clear D4
 refine region_lin [.val (kIs (.agg #[.bool p1,.slice A1 n1 c1,.bool p1b,.slice A1b n1b c1b,.slice A1c n1c c1c])),.val (kIs (.agg #[.bool p2,.slice A2 n2 c2,.bool p2b,.slice A2b n2b c2b,.slice A2c n2c c2c])),.val (kQ (y.conj)),.val (kQ (x.mul y.conj)),.box 42 zQ,.put 4 3]
  kR kR kR kR kR ⟨stab_is _,stab_is _,stab_q _,stab_q _,trivial⟩ sP ⟨?_,?_,?_,?_,alloc_q,store_q _,trivial⟩ ?_
 ·intro ts W hb hB hp K hK; simp only [fillT,zA,Nat.reduceAdd,sA,sB,sC] at hK ⊢; have HK:=hid hK; clear hK hp; obtain ⟨f0,f1,f2,f3,f4,-,-,-,-,-⟩:=bx5 ((hb.block _ z0).trans X0); refine ⟨?_⟩; go_simp; exact HK.out _ _ rfl rfB
 ·intro ts W hb hB hp K hK; simp only [fillT,zA,Nat.reduceAdd,sA,sB,sC] at hK ⊢; have HK:=hid hK; clear hK hp; obtain ⟨f0,f1,f2,f3,f4,-,-,-,-,-⟩:=bx5 ((hb.block _ z1).trans X1); refine ⟨?_⟩; go_simp; exact HK.out _ _ rfl rfB
 ·intro ts W hb hB hp; have h1:ts 1 = _:=hp 1 kR; intro K hK; simp only [fillT,zA,Nat.reduceAdd,sA,sB,sC,h1] at hK ⊢; have HK:=hid hK; clear hK hp; refine ⟨?_⟩; go_simp; refine (rConj_any _ y W (HY.out.below (bT B1 hb))).mono ?_; rintro e W9 ⟨r9,rfl,hr9,hb9⟩; exact HK.out _ _ hr9 hb9
 ·intro ts W hb hB hp; have h0:ts 0 = _:=hp 0 kR; have h2:=hp 2 kR; intro K hK; simp only [fillT,zA,Nat.reduceAdd,sA,sB,sC,h0] at hK ⊢; have HK:=hid hK; clear hK hp; refine ⟨?_⟩; go_simp; refine (rMul_any _ _ x y.conj W (HX.out.below (bT B1 hb)) h2 m n hx hy.conj hmn).mono ?_; rintro e W9 ⟨r9,rfl,hr9,hb9⟩; exact HK.out _ _ hr9 hb9
 intro ts W5 hb5 hh hap
 obtain ⟨g7,A7,n7,c7,p7,A7b,n7b,c7b,p7b,A7c,n7c,c7c,e7,lo7,z7,X7,N7⟩:=held_boxQ (x:=x.mul y.conj) (hh 4 sP) rfl (hh 5 sP) rfl (hh 3 sP) rfl
 simp only [fillT,zA,Nat.reduceAdd,sA,sB,sC,e7]
 clear hh hap e7
 generalize ts 0 = u0_W5 at *
 generalize ts 1 = u1_W5 at *
 generalize ts 2 = u2_W5 at *
 generalize ts 3 = u3_W5 at *
 clear ts
 replace hr3c:=hr3c.below hb5
 replace hr3n:=hr3n.below hb5
 replace X0:=(hb5.block _ z0).trans X0
 replace z0:=lL z0 hb5.size
 replace X1:=(hb5.block _ z1).trans X1
 replace z1:=lL z1 hb5.size
 replace X2:=(hb5.block _ z2).trans X2
 replace z2:=lL z2 hb5.size
 replace X3:=(hb5.block _ z3).trans X3
 replace z3:=lL z3 hb5.size
 replace B1:=bT B1 hb5
 clear hb5
 obtain ⟨za,zb,zd,hlz,hza,hzb,hzd⟩:∃ za zb zd,Low (x.mul y.conj) za zb zd /\ IsRI W5 (.agg #[.bool p7,.slice A7 n7 c7]) za /\ IsRI W5 (.agg #[.bool p7b,.slice A7b n7b c7b]) zb /\ IsNat W5 (.slice A7c n7c c7c) zd:=by
  obtain ⟨r,p,i,q,s,a,b,d,e1,h2,h3,h4,h5⟩:=N7
  simp at e1
  obtain ⟨rfl,rfl,rfl,rfl,rfl⟩:=e1
  exact ⟨a,b,d,h2,h3,h4,h5⟩
 obtain ⟨s1,s2,s3⟩:=hsz _ _ _ hlz
 obtain ⟨s4,s5,s6⟩:=hsn _ _ _ hl3
 obtain ⟨hna,t1,t2⟩:=div_terms hlz hl3 h0
 have e1:=wl_imul za nd
 have e2:=wl_imul zb nd
 have e3:=wl_inat nd
 have e4:wl (zd * na.natAbs) <= wl zd + wl na.natAbs:=wl_mul _ _
 obtain ⟨f0,f1,f2,f3,f4,-,-,-,-,-⟩:=bx5 X3
 go_upto_region 6 with fail
 obtain ⟨W6,hW6⟩:∃ W6:World,W6 = W5.alloc (.cells #[.bool false,.slice A3c n3c c3c] 40):=⟨_,rfl⟩
 rw [<- hW6]
 have D6:Below W5.heap.size W5 W6:=by rw [hW6]; exact below_alloc _ _
 have X8:W6.heap[W5.heap.size]? = some (.cells #[.bool false,.slice A3c n3c c3c] 40 (0,0)):=by rw [hW6]; exact heap_alloc_new _ _
 have z8:W5.heap.size < W6.heap.size:=by rw [hW6]; simp
 have hz6:W6.heap.size = W5.heap.size + 1:=by rw [hW6]; simp
 have HA:=hid (fun W (hb:Below W6.heap.size W6 W)=>rIntMul_any _ _ _ _ W ((hza.below D6).below hb) (IsRI.nat ((hr3c.below D6).below hb)) oM oM)
 have HB:=hid (fun W (hb:Below W6.heap.size W6 W)=>rIntMul_any _ _ _ _ W ((hzb.below D6).below hb) (IsRI.nat ((hr3c.below D6).below hb)) oM oM)
 have HC:=hid (fun W (hb:Below W6.heap.size W6 W)=>rNatMul_any _ _ _ _ W ((hzd.below D6).below hb) ((hr3n.below D6).below hb) oM oM)
 have HM:=hid (fun v1 v2 v3 W (q1:IsRI W v1 (za * (nd:Int))) (q2:IsRI W v2 (zb * (nd:Int))) (q3:IsNat W v3 (zd * na.natAbs))=>rMake_any v1 v2 v3 _ _ _ (x.div y) W q1 q2 q3 (Nat.mul_pos hlz.pos oM) t1 t2 oM oM oM)
 have o7:g7 < W5.heap.size:=z7
 have x1:¬ (w.heap.size + 1 + 1 = g7):=oM
 have x2:¬ (g7 = w.heap.size + 1 + 1):=oM
 have x3:¬ (w.heap.size + 1 + 1 = W5.heap.size):=oM
 have x4:¬ (W5.heap.size = w.heap.size + 1 + 1):=oM
 have x5:¬ (w.heap.size + 1 + 1 = W3.heap.size):=oM
 have x6:¬ (W3.heap.size = w.heap.size + 1 + 1):=oM
 have x7:w.heap.size + 1 + 1 < W6.heap.size:=oM
 clear hW6 o2 o3 o7 hz6 s1 s2 s3 s4 s5 s6 hna t1 t2 e1 e2 e3 e4 f0 f1 f2 f3 f4 hza hzb hzd hr3c hr3n hr3a hr3b hr3 hl3 hlz N7 hx hy hm h0 hsn hsz hmn HX HY HZ HN X0 X1 z0 z1 lo7
 replace X2:=(D6.block _ z2).trans X2
 replace z2:=lL z2 D6.size
 replace X3:=(D6.block _ z3).trans X3
 replace z3:=lL z3 D6.size
 replace X7:=(D6.block _ z7).trans X7
 replace z7:=lL z7 D6.size
 replace B1:=bT B1 D6
 clear D6
 obtain ⟨k0,k1,k2,k3,k4,y0,y1,y2,y3,y4⟩:=bx5 X2
 have NB6:NumBox W6 (w.heap.size + 2):=.nilQ k0 k1 k2 k3 k4
 obtain ⟨f0,f1,f2,f3,f4,-,-,-,-,-⟩:=bx5 X7
 obtain ⟨n0,n1',-,-,-,-,-,-,-,-⟩:=bx5 X3
 obtain ⟨d0,d1',-,-⟩:=bx2 X8
 clear X2 X3 X7 X8
 go_wp2_with fail
 go_region_held3 (fun w'=>w'.cell? ⟨g7,0,none⟩ = some (.bool p7) /\ w'.cell? ⟨g7,1,none⟩ = some (.slice A7 n7 c7) /\ w'.cell? ⟨g7,2,none⟩ = some (.bool p7b) /\ w'.cell? ⟨g7,3,none⟩ = some (.slice A7b n7b c7b) /\ w'.cell? ⟨g7,4,none⟩ = some (.slice A7c n7c c7c) /\ w'.cell? ⟨W5.heap.size,0,none⟩ = some (.bool false) /\ w'.cell? ⟨W5.heap.size,1,none⟩ = some (.slice A3c n3c c3c) /\ w'.cell? ⟨W3.heap.size,1,none⟩ = some (.slice A3 n3 c3)) (go_keep) (first | (go_at_call 108; (first | ((with_reducible refine (HA.out _ ?_).mono ?_); (exact bel); (rintro e W7 ⟨r7,rfl,hr7,hb7⟩; obtain ⟨A7,n7,c7,rfl,hn7,-⟩:=hr7.parts; clear hn7; generalize hq7:decide (za * (nd:Int) < 0) = q7 at *; clear hq7; obtain ⟨hc7,hf7,hz7⟩:=bcells hb7 (W6.heap.size) (by simp <;> omega))) | ((with_reducible refine (HB.out _ ?_).mono ?_); (exact bel); (rintro e W8 ⟨r8,rfl,hr8,hb8⟩; obtain ⟨A8,n8,c8,rfl,hn8,-⟩:=hr8.parts; clear hn8; generalize hq8:decide (zb * (nd:Int) < 0) = q8 at *; clear hq8; have kb8:Below W7.heap.size W7 W8:=bel; clear hb8; obtain ⟨hc8,hf8,hz8⟩:=bcells kb8 (W6.heap.size) oM)))) | (go_at_call 110; ((with_reducible refine (HC.out _ ?_).mono ?_); (exact bel); (rintro e W9 ⟨r9,rfl,hr9,hb9⟩; obtain ⟨A9,n9,c9,rfl,hn9⟩:=hr9.ex; clear hn9; have kb9:Below W8.heap.size W8 W9:=bel; clear hb9; obtain ⟨hc9,hf9,hz9⟩:=bcells kb9 (W6.heap.size) oM))) | (go_at_call 106; ((with_reducible refine (HM.out _ _ _ _ (hr7.below bel) (hr8.below bel) (hr9.below bel)).mono ?_); (rintro e W10 ⟨r10,rfl,hr10,hb10⟩; obtain ⟨A10,n10,c10,p10,A10b,n10b,c10b,p10b,A10c,n10c,c10c,a10,b10,d10,rfl,-⟩:=hr10.parts; have kb10:Below W9.heap.size W9 W10:=bel; clear hb10; obtain ⟨hc10,hf10,hz10⟩:=bcells kb10 (W6.heap.size) oM))))
 go_wp2
 have C7:Below W6.heap.size W6 W7:=bel
 have C8:=bT C7 kb8
 have C9:=bT C8 kb9
 have C10:=bT C9 kb10
 have B10:=bT B1 C10
 have NB:NumBox W10 (w.heap.size + 2):=NumBox.of hc10 oM (NumBox.of hc9 oM (NumBox.of hc8 oM (NumBox.of hc7 (g:=w.heap.size + 2) oM NB6)))
 refine bodyPost_ret (v:=.tuple #[.agg #[.bool p10,.slice A10 n10 c10,.bool p10b,.slice A10b n10b c10b,.slice A10c n10c c10c],.int .i64 0]) (by simp [results,Tryz.results57]; exact run_loadQe NB _ _ _ _ _ _) rfl ?_
 exact RetQE.box B10 oM NB hr10 _ _ _ _ _
end Go.Proofs.YtffegeaflohfhaaGreatDoor
