import Derived.Deep.DeepCutAuto
import Derived.Test.YtjodlmanheeajaaGreatDoorR07
import Derived.Test.YtjodlmanheeajaaGreatDoorR13
import Derived.Test.YtjodlmanheeajaaGreatDoorR15
import Derived.Test.YtjodlmanheeajaaGreatDoorR02
set_option linter.unusedVariables false
set_option linter.unusedSimpArgs false
set_option maxRecDepth 100000
set_option maxHeartbeats 8000000
namespace Go.Proofs.YtjodlmanheeajaaGreatDoor
open Go.RowKit
def Kept (N:Nat) (W0 wx:World):Prop:=(∀ b o,b < N -> wx.cell? ⟨b,o,none⟩ = W0.cell? ⟨b,o,none⟩) /\ (∀ b o,b < N -> wx.frozen? ⟨b,o,none⟩ = W0.frozen? ⟨b,o,none⟩) /\ N <= wx.heap.size /\ (∀ m,m <= N -> Below m W0 wx)
theorem Kept.refl {N:Nat} (W0:World) (h:N <= W0.heap.size):Kept N W0 W0:=⟨fun _ _ _=>rfl,fun _ _ _=>rfl,h,fun _ _=>Below.refl _ _⟩
theorem Kept.below {N:Nat} {W0 W W':World} (h:Kept N W0 W) (hb:Below W.heap.size W W'):Kept N W0 W':=by
 obtain ⟨h1,h2,h3,h4⟩:=h
 exact ⟨fun b o hlt=>(hb.cell (p:=⟨b,o,none⟩) (lL hlt h3)).trans (h1 b o hlt),fun b o hlt=>(hb.frozen (p:=⟨b,o,none⟩) (lL hlt h3)).trans (h2 b o hlt),Nat.le_trans h3 hb.size,fun m hm=>(h4 m hm).trans (hb.mono (Nat.le_trans hm h3))⟩
theorem Kept.drew {N:Nat} {W0 W:World} (h:Kept N W0 W):Kept N W0 W.drew:=⟨h.1,h.2.1,h.2.2.1,fun m hm=>(h.2.2.2 m hm).drew⟩
theorem Kept.alloc {N:Nat} {W0 W:World} (h:Kept N W0 W) (o:Obj):Kept N W0 (W.alloc o):=h.below (below_alloc W o)
theorem Kept.set {N:Nat} {W0 W:World} (h:Kept N W0 W) {g:Nat} (hg:N <= g) (i:Nat) (v:Value):Kept N W0 (W.setCell ⟨g,i,none⟩ v):=by
 obtain ⟨h1,h2,h3,h4⟩:=h
 have hB:Below N W (W.setCell ⟨g,i,none⟩ v):=(Below.refl N W).setCell hg v
 exact ⟨fun b o hlt=>(hB.cell (p:=⟨b,o,none⟩) hlt).trans (h1 b o hlt),fun b o hlt=>(hB.frozen (p:=⟨b,o,none⟩) hlt).trans (h2 b o hlt),Nat.le_trans h3 hB.size,fun m hm=>(h4 m hm).trans (hB.mono hm)⟩
def Bx5 (W:World) (b:Nat) (v0 v1 v2 v3 v4:Value):Prop:=W.cell? ⟨b,0,none⟩ = some v0 /\ W.cell? ⟨b,1,none⟩ = some v1 /\ W.cell? ⟨b,2,none⟩ = some v2 /\ W.cell? ⟨b,3,none⟩ = some v3 /\ W.cell? ⟨b,4,none⟩ = some v4 /\ W.frozen? ⟨b,0,none⟩ = false /\ W.frozen? ⟨b,1,none⟩ = false /\ W.frozen? ⟨b,2,none⟩ = false /\ W.frozen? ⟨b,3,none⟩ = false /\ W.frozen? ⟨b,4,none⟩ = false
theorem Kept.k5 {N:Nat} {W0 W:World} (h:Kept N W0 W) {b:Nat} (hb:b < N) {v0 v1 v2 v3 v4:Value} (h0:W0.cell? ⟨b,0,none⟩ = some v0) (h1:W0.cell? ⟨b,1,none⟩ = some v1) (h2:W0.cell? ⟨b,2,none⟩ = some v2) (h3:W0.cell? ⟨b,3,none⟩ = some v3) (h4:W0.cell? ⟨b,4,none⟩ = some v4) (h5:W0.frozen? ⟨b,0,none⟩ = false) (h6:W0.frozen? ⟨b,1,none⟩ = false) (h7:W0.frozen? ⟨b,2,none⟩ = false) (h8:W0.frozen? ⟨b,3,none⟩ = false) (h9:W0.frozen? ⟨b,4,none⟩ = false):Bx5 W b v0 v1 v2 v3 v4:=⟨(h.1 _ _ hb).trans h0,(h.1 _ _ hb).trans h1,(h.1 _ _ hb).trans h2,(h.1 _ _ hb).trans h3,(h.1 _ _ hb).trans h4,(h.2.1 _ _ hb).trans h5,(h.2.1 _ _ hb).trans h6,(h.2.1 _ _ hb).trans h7,(h.2.1 _ _ hb).trans h8,(h.2.1 _ _ hb).trans h9⟩
def IBox (N:Nat) (s:Value) (z:Int) (wx:World):Prop:=∃ g A n c q,s = .pointer (some ⟨g,0,none⟩) /\ N <= g /\ g < wx.heap.size /\ wx.cell? ⟨g,0,none⟩ = some (.slice A n c) /\ wx.cell? ⟨g,1,none⟩ = some (.bool q) /\ IsInt wx (.agg #[.slice A n c,.bool q]) z
theorem lt_of_cell {w:World} {b i:Nat} {v:Value} (h:w.cell? ⟨b,i,none⟩ = some v):b < w.heap.size:=by
 rcases Nat.lt_or_ge b w.heap.size with hlt | hge
 ·exact hlt
 ·simp [World.cell?,Array.getElem?_eq_none hge] at h
theorem dn_wl {d n:Nat} (h:0 < d) (hn:n = wl (dn d)) (e:n = 0):d = 1:=by
 have h2:=wl_eq_zero.1 (hn.symm.trans e)
 unfold dn at h2
 split at h2 <;> omega
theorem cutv {p q:Prop} (h:p) (k:p -> q):q:=k h
end Go.Proofs.YtjodlmanheeajaaGreatDoor
namespace Go.Proofs.YtjodlmanheeajaaGreatDoor
open Go.RowKit
theorem mulN_any (v u:Value) (x y:Cx) (w:World) (h:IsNum w v x) (h':IsNum w u y) (m n:Nat) (hx:Sz x m) (hy:Sz y n) (hm:m + n + 1 < 549755813888) (hT:Tab w) :
  Calls Tryz.prog 225 #[v,u] w (RetNum w (x.mul y)):=by
 have HDx:=hid (fun W (hb:Below w.heap.size w W)=>denominator_any _ _ W (h.below hb))
 have HDy:=hid (fun W (hb:Below w.heap.size w W)=>denominator_any _ _ W (h'.below hb))
 obtain ⟨A1,n1,c1,p1,A1b,n1b,c1b,p1b,A1c,n1c,c1c,a1,b1,d1,rfl,hl1,hr1,hi1,hs1,hn1,hm1,hd1,hp1,hq1⟩:=h.parts
 obtain ⟨A2,n2,c2,p2,A2b,n2b,c2b,p2b,A2c,n2c,c2c,a2,b2,d2,rfl,hl2,hr2,hi2,hs2,hn2,hm2,hd2,hp2,hq2⟩:=h'.parts
 have s1:=hx _ _ _ hl1
 have s2:=hy _ _ _ hl2
 have M1:=hid (fun W (hb:Below w.heap.size w W)=>mulI_any _ _ _ _ W (hr1.below hb) (hr2.below hb) oM)
 have M2:=hid (fun W (hb:Below w.heap.size w W)=>mulI_any _ _ _ _ W (hi1.below hb) (hi2.below hb) oM)
 have M4:=hid (fun W (hb:Below w.heap.size w W)=>mulI_any _ _ _ _ W (hr1.below hb) (hi2.below hb) oM)
 have M5:=hid (fun W (hb:Below w.heap.size w W)=>mulI_any _ _ _ _ W (hi1.below hb) (hr2.below hb) oM)
 have k1:=wl_imul a1 a2
 have k2:=wl_imul b1 b2
 have k3:=wl_imul a1 b2
 have k4:=wl_imul b1 a2
 have k5:=wl_isub (a1 * a2) (b1 * b2)
 have k6:=wl_iadd (a1 * b2) (b1 * a2)
 have k7:=wl_mul d1 d2
 have M3:=hid (fun W v u (h1:IsInt W v (a1 * a2)) (h2:IsInt W u (b1 * b2))=>subI_any _ _ _ _ W h1 h2 oM oM)
 have M6:=hid (fun W v u (h1:IsInt W v (a1 * b2)) (h2:IsInt W u (b1 * a2))=>addI_any _ _ _ _ W h1 h2 oM oM)
 have HD1:=hid (fun W (hb:Below w.heap.size w W)=>HDx.out W hb a1 b1 d1 hl1)
 have HD2:=hid (fun W (hb:Below w.heap.size w W)=>HDy.out W hb a2 b2 d2 hl2)
 have HM:=hid (fun W v u (h1:IsNat W v d1) (h2:IsNat W u d2)=>mul_any _ _ _ _ W h1 h2 oM)
 have ht:=mul_terms hl1 hl2
 have HLo:=hid (fun W v u t (hb:Below w.heap.size w W) (h1:IsInt W v (a1 * a2 - b1 * b2)) (h2:IsInt W u (a1 * b2 + b1 * a2)) (h3:IsNat W t (d1 * d2))=>lowest_any _ _ _ _ _ (d1 * d2) _ (x.mul y) W h1 h2 h3 (Den.self (Nat.mul_pos hl1.pos hl2.pos)) ht.1 ht.2 oM oM oM (hT.below hb))
 obtain ⟨bz,hz1⟩:∃ bz:Bool,((n1c:Int) == 0) = bz:=⟨_,rfl⟩
 obtain ⟨by2,hz2⟩:∃ b:Bool,((n2c:Int) == 0) = b:=⟨_,rfl⟩
 have HL1:=hid (fun (hb:(bz && by2) = true)=>show Low (x.mul y) (a1 * a2 - b1 * b2) (a1 * b2 + b1 * a2) 1 by
  rw [Bool.and_eq_true] at hb
  rw [hb.1] at hz1
  rw [hb.2] at hz2
  have z1:=dn_wl hl1.pos hn1 (by simpa using hz1)
  have z2:=dn_wl hl2.pos hn2 (by simpa using hz2)
  subst z1; subst z2
  exact low_of_one ht.1 ht.2)
 have HZ1:=hid hz1
 have HZ2:=hid hz2
 clear hz1 hz2 ht HDx HDy k1 k2 k3 k4 k5 k6 k7 s1 s2 h h' hx hy hm hT hl1 hr1 hi1 hs1 hn1 hm1 hd1 hp1 hq1 hl2 hr2 hi2 hs2 hn2 hm2 hd2 hp2 hq2
 go_enter Tryz.func225,Tryz.ntmps225
 go_upto_region 1 with fail
 obtain ⟨W1,hW1⟩:∃ W1:World,W1 = ((w.alloc (.cells #[.slice A1 n1 c1,.bool p1,.slice A1b n1b c1b,.bool p1b,.slice A1c n1c c1c] 49)).alloc (.cells #[.slice A2 n2 c2,.bool p2,.slice A2b n2b c2b,.bool p2b,.slice A2c n2c c2c] 49)).alloc (.cells #[.slice none 0 0,.bool false,.slice none 0 0,.bool false,.slice none 0 0] 49):=⟨_,rfl⟩
 rw [<- hW1]
 have B1:Below w.heap.size w W1:=by rw [hW1]; exact bel
 have X:=boxes3 w (.cells #[.slice A1 n1 c1,.bool p1,.slice A1b n1b c1b,.bool p1b,.slice A1c n1c c1c] 49) (.cells #[.slice A2 n2 c2,.bool p2,.slice A2b n2b c2b,.bool p2b,.slice A2c n2c c2c] 49) (.cells #[.slice none 0 0,.bool false,.slice none 0 0,.bool false,.slice none 0 0] 49)
 rw [<- hW1] at X
 obtain ⟨X0,z0,X1,z1,X2,z2⟩:=X
 clear hW1
 have B:=B1
 clear B1
 go_upto_region 1 with fail
 refine region_lin [.val (kIs (.pointer (some ⟨w.heap.size,0,none⟩))),.val (kIs (.agg #[.slice A1 n1 c1,.bool p1])),.val (kIs (.pointer (some ⟨w.heap.size + 1,0,none⟩))),.val (kIs (.agg #[.slice A2 n2 c2,.bool p2])),.val (kInt (a1 * a2)),.val (kIs (.pointer (some ⟨w.heap.size,2,none⟩))),.val (kIs (.agg #[.slice A1b n1b c1b,.bool p1b])),.val (kIs (.pointer (some ⟨w.heap.size + 1,2,none⟩))),.val (kIs (.agg #[.slice A2b n2b c2b,.bool p2b])),.val (kInt (b1 * b2)),.val (kInt (a1 * a2 - b1 * b2)),.box 47 zInt,.put 11 10]
  kR kR kR kR kR ⟨stab_is _,stab_is _,stab_is _,stab_is _,stab_int _,stab_is _,stab_is _,stab_is _,stab_is _,stab_int _,stab_int _,trivial⟩ sP ⟨?_,?_,?_,?_,?_,?_,?_,?_,?_,?_,?_,alloc_int,store_int _,trivial⟩ ?_
 ·exact obp
 ·intro ts W hb hB hp; have h0:ts 0 = _:=hp 0 kR; intro K hK; simp only [fillT,zA,Nat.reduceAdd,sA,sB,sC,h0] at hK ⊢; have HK:=hid hK; clear hK hp; obtain ⟨f0,f1,f2,f3,f4,-,-,-,-,-⟩:=bx5 ((hb.block _ z0).trans X0); refine ⟨?_⟩; go_simp; exact HK.out _ _ rfl rfB
 ·exact obp
 ·intro ts W hb hB hp; have h2:ts 2 = _:=hp 2 kR; intro K hK; simp only [fillT,zA,Nat.reduceAdd,sA,sB,sC,h2] at hK ⊢; have HK:=hid hK; clear hK hp; obtain ⟨f0,f1,f2,f3,f4,-,-,-,-,-⟩:=bx5 ((hb.block _ z1).trans X1); refine ⟨?_⟩; go_simp; exact HK.out _ _ rfl rfB
 ·intro ts W hb hB hp; have h1:ts 1 = _:=hp 1 kR; have h3:ts 3 = _:=hp 3 kR; intro K hK; simp only [fillT,zA,Nat.reduceAdd,sA,sB,sC,h1,h3] at hK ⊢; have HK:=hid hK; clear hK hp; refine ⟨?_⟩; go_simp; refine (M1.out W (bT B hb)).mono ?_; rintro e W9 ⟨r9,rfl,hr9,hb9⟩; exact HK.out _ _ hr9 hb9
 ·exact obp
 ·intro ts W hb hB hp; have h5:ts 5 = _:=hp 5 kR; intro K hK; simp only [fillT,zA,Nat.reduceAdd,sA,sB,sC,h5] at hK ⊢; have HK:=hid hK; clear hK hp; obtain ⟨f0,f1,f2,f3,f4,-,-,-,-,-⟩:=bx5 ((hb.block _ z0).trans X0); refine ⟨?_⟩; go_simp; exact HK.out _ _ rfl rfB
 ·exact obp
 ·intro ts W hb hB hp; have h7:ts 7 = _:=hp 7 kR; intro K hK; simp only [fillT,zA,Nat.reduceAdd,sA,sB,sC,h7] at hK ⊢; have HK:=hid hK; clear hK hp; obtain ⟨f0,f1,f2,f3,f4,-,-,-,-,-⟩:=bx5 ((hb.block _ z1).trans X1); refine ⟨?_⟩; go_simp; exact HK.out _ _ rfl rfB
 ·intro ts W hb hB hp; have h6:ts 6 = _:=hp 6 kR; have h8:ts 8 = _:=hp 8 kR; intro K hK; simp only [fillT,zA,Nat.reduceAdd,sA,sB,sC,h6,h8] at hK ⊢; have HK:=hid hK; clear hK hp; refine ⟨?_⟩; go_simp; refine (M2.out W (bT B hb)).mono ?_; rintro e W9 ⟨r9,rfl,hr9,hb9⟩; exact HK.out _ _ hr9 hb9
 ·intro ts W hb hB hp; have h4:=hp 4 kR; have h9:=hp 9 kR; intro K hK; simp only [fillT,zA,Nat.reduceAdd,sA,sB,sC] at hK ⊢; have HK:=hid hK; clear hK hp; refine ⟨?_⟩; go_simp; refine (M3.out W _ _ h4 h9).mono ?_; rintro e W9 ⟨r9,rfl,hr9,hb9⟩; exact HK.out _ _ hr9 hb9
 intro ts W2 hb2 hh hap
 obtain ⟨g10,A10,n10,c10,q10,e10,lo10,z10,X10,H10⟩:=held_boxI' (z:=a1 * a2 - b1 * b2) (hh 11 sP) rfl (hh 12 sP) rfl (hh 10 sP) rfl
 simp only [fillT,zA,Nat.reduceAdd,sA,sB,sC,e10]
 clear hh hap e10
 generalize ts 0 = u0_W2 at *
 generalize ts 1 = u1_W2 at *
 generalize ts 2 = u2_W2 at *
 generalize ts 3 = u3_W2 at *
 generalize ts 4 = u4_W2 at *
 generalize ts 5 = u5_W2 at *
 generalize ts 6 = u6_W2 at *
 generalize ts 7 = u7_W2 at *
 generalize ts 8 = u8_W2 at *
 generalize ts 9 = u9_W2 at *
 generalize ts 10 = u10_W2 at *
 clear ts
 replace X0:=(hb2.block _ z0).trans X0
 replace z0:=lL z0 hb2.size
 replace X1:=(hb2.block _ z1).trans X1
 replace z1:=lL z1 hb2.size
 replace X2:=(hb2.block _ z2).trans X2
 replace z2:=lL z2 hb2.size
 replace B:=bT B hb2
 clear hb2
 go_upto_region 2 with fail
 refine region_lin [.val (kIs (.pointer (some ⟨w.heap.size,0,none⟩))),.val (kIs (.agg #[.slice A1 n1 c1,.bool p1])),.val (kIs (.pointer (some ⟨w.heap.size + 1,2,none⟩))),.val (kIs (.agg #[.slice A2b n2b c2b,.bool p2b])),.val (kInt (a1 * b2)),.val (kIs (.pointer (some ⟨w.heap.size,2,none⟩))),.val (kIs (.agg #[.slice A1b n1b c1b,.bool p1b])),.val (kIs (.pointer (some ⟨w.heap.size + 1,0,none⟩))),.val (kIs (.agg #[.slice A2 n2 c2,.bool p2])),.val (kInt (b1 * a2)),.val (kInt (a1 * b2 + b1 * a2)),.box 47 zInt,.put 11 10]
  kR kR kR kR kR ⟨stab_is _,stab_is _,stab_is _,stab_is _,stab_int _,stab_is _,stab_is _,stab_is _,stab_is _,stab_int _,stab_int _,trivial⟩ sP ⟨?_,?_,?_,?_,?_,?_,?_,?_,?_,?_,?_,alloc_int,store_int _,trivial⟩ ?_
 ·exact obp
 ·intro ts W hb hB hp; have h0:ts 0 = _:=hp 0 kR; intro K hK; simp only [fillT,zA,Nat.reduceAdd,sA,sB,sC,h0] at hK ⊢; have HK:=hid hK; clear hK hp; obtain ⟨f0,f1,f2,f3,f4,-,-,-,-,-⟩:=bx5 ((hb.block _ z0).trans X0); refine ⟨?_⟩; go_simp; exact HK.out _ _ rfl rfB
 ·exact obp
 ·intro ts W hb hB hp; have h2:ts 2 = _:=hp 2 kR; intro K hK; simp only [fillT,zA,Nat.reduceAdd,sA,sB,sC,h2] at hK ⊢; have HK:=hid hK; clear hK hp; obtain ⟨f0,f1,f2,f3,f4,-,-,-,-,-⟩:=bx5 ((hb.block _ z1).trans X1); refine ⟨?_⟩; go_simp; exact HK.out _ _ rfl rfB
 ·intro ts W hb hB hp; have h1:ts 1 = _:=hp 1 kR; have h3:ts 3 = _:=hp 3 kR; intro K hK; simp only [fillT,zA,Nat.reduceAdd,sA,sB,sC,h1,h3] at hK ⊢; have HK:=hid hK; clear hK hp; refine ⟨?_⟩; go_simp; refine (M4.out W (bT B hb)).mono ?_; rintro e W9 ⟨r9,rfl,hr9,hb9⟩; exact HK.out _ _ hr9 hb9
 ·exact obp
 ·intro ts W hb hB hp; have h5:ts 5 = _:=hp 5 kR; intro K hK; simp only [fillT,zA,Nat.reduceAdd,sA,sB,sC,h5] at hK ⊢; have HK:=hid hK; clear hK hp; obtain ⟨f0,f1,f2,f3,f4,-,-,-,-,-⟩:=bx5 ((hb.block _ z0).trans X0); refine ⟨?_⟩; go_simp; exact HK.out _ _ rfl rfB
 ·exact obp
 ·intro ts W hb hB hp; have h7:ts 7 = _:=hp 7 kR; intro K hK; simp only [fillT,zA,Nat.reduceAdd,sA,sB,sC,h7] at hK ⊢; have HK:=hid hK; clear hK hp; obtain ⟨f0,f1,f2,f3,f4,-,-,-,-,-⟩:=bx5 ((hb.block _ z1).trans X1); refine ⟨?_⟩; go_simp; exact HK.out _ _ rfl rfB
 ·intro ts W hb hB hp; have h6:ts 6 = _:=hp 6 kR; have h8:ts 8 = _:=hp 8 kR; intro K hK; simp only [fillT,zA,Nat.reduceAdd,sA,sB,sC,h6,h8] at hK ⊢; have HK:=hid hK; clear hK hp; refine ⟨?_⟩; go_simp; refine (M5.out W (bT B hb)).mono ?_; rintro e W9 ⟨r9,rfl,hr9,hb9⟩; exact HK.out _ _ hr9 hb9
 ·intro ts W hb hB hp; have h4:=hp 4 kR; have h9:=hp 9 kR; intro K hK; simp only [fillT,zA,Nat.reduceAdd,sA,sB,sC] at hK ⊢; have HK:=hid hK; clear hK hp; refine ⟨?_⟩; go_simp; refine (M6.out W _ _ h4 h9).mono ?_; rintro e W9 ⟨r9,rfl,hr9,hb9⟩; exact HK.out _ _ hr9 hb9
 intro ts W3 hb3 hh hap
 obtain ⟨g11,A11,n11,c11,q11,e11,lo11,z11,X11,H11⟩:=held_boxI' (z:=a1 * b2 + b1 * a2) (hh 11 sP) rfl (hh 12 sP) rfl (hh 10 sP) rfl
 simp only [fillT,zA,Nat.reduceAdd,sA,sB,sC,e11]
 clear hh hap e11
 generalize ts 0 = u0_W3 at *
 generalize ts 1 = u1_W3 at *
 generalize ts 2 = u2_W3 at *
 generalize ts 3 = u3_W3 at *
 generalize ts 4 = u4_W3 at *
 generalize ts 5 = u5_W3 at *
 generalize ts 6 = u6_W3 at *
 generalize ts 7 = u7_W3 at *
 generalize ts 8 = u8_W3 at *
 generalize ts 9 = u9_W3 at *
 generalize ts 10 = u10_W3 at *
 clear ts
 replace X0:=(hb3.block _ z0).trans X0
 replace z0:=lL z0 hb3.size
 replace X1:=(hb3.block _ z1).trans X1
 replace z1:=lL z1 hb3.size
 replace X2:=(hb3.block _ z2).trans X2
 replace z2:=lL z2 hb3.size
 replace X10:=(hb3.block _ z10).trans X10
 replace z10:=lL z10 hb3.size
 replace H10:=H10.below hb3
 replace B:=bT B hb3
 clear hb3
 go_upto_region 3 with fail
 refine region_lin [.val (kIs (.pointer (some ⟨w.heap.size,4,none⟩))),.val (kIs (.slice A1c n1c c1c)),.val (kIs (.int .i64 n1c)),.val (kIs (.bool bz)),.val (kIs (.bool bz)),.val (kIf bz (.pointer (some ⟨w.heap.size + 1,4,none⟩))),.val (kIf bz (.slice A2c n2c c2c)),.val (kIf bz (.int .i64 n2c)),.val (kIf bz (.bool by2)),.val (kIs (.bool (bz && by2)))]
  kR kR kR kR kR ⟨Stab.b (stab_is _),Stab.b (stab_is _),Stab.b (stab_is _),Stab.b (stab_is _),Stab.b (stab_is _),stabB_if _ _,stabB_if _ _,stabB_if _ _,stabB_if _ _,Stab.b (stab_is _),trivial⟩ sP ⟨?_,?_,?_,?_,?_,?_,?_,?_,?_,?_,trivial⟩ ?_
 ·exact obp
 ·intro ts W hb hB hp; have h0:ts 0 = _:=hp 0 kR; intro K hK; simp only [fillT,zA,Nat.reduceAdd,sA,sB,sC,h0] at hK ⊢; have HK:=hid hK; clear hK hp; obtain ⟨f0,f1,f2,f3,f4,-,-,-,-,-⟩:=bx5 ((hb.block _ z0).trans X0); refine ⟨?_⟩; go_simp; exact HK.out _ _ rfl rfB
 ·intro ts W hb hB hp; have h1:ts 1 = _:=hp 1 kR; intro K hK; simp only [fillT,zA,Nat.reduceAdd,sA,sB,sC,h1] at hK ⊢; have HK:=hid hK; clear hK hp; refine ⟨?_⟩; go_simp; exact HK.out _ _ rfl rfB
 ·intro ts W hb hB hp; have h2:ts 2 = _:=hp 2 kR; intro K hK; simp only [fillT,zA,Nat.reduceAdd,sA,sB,sC,h2] at hK ⊢; have HK:=hid hK; clear hK hp; refine ⟨?_⟩; go_simp; exact HK.out _ _ (by simp [kIs,HZ1.out]) rfB
 ·intro ts W hb hB hp; have h3:ts 3 = _:=hp 3 kR; intro K hK; simp only [fillT,zA,Nat.reduceAdd,sA,sB,sC,h3] at hK ⊢; have HK:=hid hK; clear hK hp; refine ⟨?_⟩; go_simp; exact HK.out _ _ rfl rfB
 ·intro ts W hb hB hp; have h4:=hp 4 kR; clear hp; cases bz
  ·exact Guarded.off h4 dE (fun e=>absurd e dE)
  ·refine Guarded.on h4 ?_; intro K hK; simp only [fillT,zA,Nat.reduceAdd,sA,sB,sC] at hK ⊢; have HK:=hid hK; clear hK; refine ⟨?_⟩; go_simp; exact HK.out _ _ (fun _=>rfl) rfB
 ·intro ts W hb hB hp; have h4:=hp 4 kR; have h5:=hp 5 kR; clear hp; cases bz
  ·exact Guarded.off h4 dE (fun e=>absurd e dE)
  ·refine Guarded.on h4 ?_; have e5:=h5 rfl; intro K hK; simp only [fillT,zA,Nat.reduceAdd,sA,sB,sC,e5] at hK ⊢; have HK:=hid hK; clear hK; obtain ⟨f0,f1,f2,f3,f4,-,-,-,-,-⟩:=bx5 ((hb.block _ z1).trans X1); refine ⟨?_⟩; go_simp; exact HK.out _ _ (fun _=>rfl) rfB
 ·intro ts W hb hB hp; have h4:=hp 4 kR; have h6:=hp 6 kR; clear hp; cases bz
  ·exact Guarded.off h4 dE (fun e=>absurd e dE)
  ·refine Guarded.on h4 ?_; have e6:=h6 rfl; intro K hK; simp only [fillT,zA,Nat.reduceAdd,sA,sB,sC,e6] at hK ⊢; have HK:=hid hK; clear hK; refine ⟨?_⟩; go_simp; exact HK.out _ _ (fun _=>rfl) rfB
 ·intro ts W hb hB hp; have h4:=hp 4 kR; have h7:=hp 7 kR; clear hp; cases bz
  ·exact Guarded.off h4 dE (fun e=>absurd e dE)
  ·refine Guarded.on h4 ?_; have e7:=h7 rfl; intro K hK; simp only [fillT,zA,Nat.reduceAdd,sA,sB,sC,e7] at hK ⊢; have HK:=hid hK; clear hK; refine ⟨?_⟩; go_simp; exact HK.out _ _ (fun _=>by simp [HZ2.out]) rfB
 ·intro ts W hb hB hp; have h4:ts 4 = _:=hp 4 kR; have h8:=hp 8 kR; clear hp; intro K hK; cases bz
  ·simp only [fillT,zA,Nat.reduceAdd,sA,sB,sC,h4] at hK ⊢; have HK:=hid hK; clear hK h8; refine ⟨?_⟩; go_simp; exact HK.out _ _ rfl rfB
  ·have e8:=h8 rfl; simp only [fillT,zA,Nat.reduceAdd,sA,sB,sC,h4,e8] at hK ⊢; have HK:=hid hK; clear hK h8; refine ⟨?_⟩; go_simp; exact HK.out _ _ rfl rfB
 intro ts W4 hb4 hh hap
 have e9:=held_is (hh 9 sP) rfl
 simp only [fillT,zA,Nat.reduceAdd,sA,sB,sC,e9]
 clear hh hap e9
 generalize ts 0 = t5_0 at *
 generalize ts 1 = t5_1 at *
 generalize ts 2 = t5_2 at *
 generalize ts 3 = t5_3 at *
 generalize ts 4 = t5_4 at *
 generalize ts 5 = t5_5 at *
 generalize ts 6 = t5_6 at *
 generalize ts 7 = t5_7 at *
 generalize ts 8 = t5_8 at *
 clear ts
 replace X0:=(hb4.block _ z0).trans X0
 replace z0:=lL z0 hb4.size
 replace X1:=(hb4.block _ z1).trans X1
 replace z1:=lL z1 hb4.size
 replace X2:=(hb4.block _ z2).trans X2
 replace z2:=lL z2 hb4.size
 replace X10:=(hb4.block _ z10).trans X10
 replace z10:=lL z10 hb4.size
 replace X11:=(hb4.block _ z11).trans X11
 replace z11:=lL z11 hb4.size
 replace H10:=H10.below hb4
 replace H11:=H11.below hb4
 replace B:=bT B hb4
 clear hb4
 cases hbb:(bz && by2)
 ·clear HL1
  go_upto_region 5 with fail
  refine region_last [.val (kIs (.agg #[.slice A10 n10 c10,.bool q10])),.val (kIs (.agg #[.slice A11 n11 c11,.bool q11])),.val (kIs (.agg #[.slice A1 n1 c1,.bool p1,.slice A1b n1b c1b,.bool p1b,.slice A1c n1c c1c])),.val (kNat d1),.val (kIs (.agg #[.slice A2 n2 c2,.bool p2,.slice A2b n2b c2b,.bool p2b,.slice A2c n2c c2c])),.val (kNat d2),.val (kNat (d1 * d2)),.val (kNum (x.mul y))]
   kR kR kR kR kR ⟨Stab.b (stab_is _),Stab.b (stab_is _),Stab.b (stab_is _),stabB_nat _,Stab.b (stab_is _),stabB_nat _,stabB_nat _,stabB_num _,trivial⟩ sP (ol:=_) rfl kR ⟨?_,?_,?_,?_,?_,?_,?_,?_,trivial⟩ ?_
  ·intro ts W hb hB hp K hK; simp only [fillT,zA,Nat.reduceAdd,sA,sB,sC] at hK ⊢; have HK:=hid hK; clear hK hp; obtain ⟨f0,f1,-,-⟩:=bx2 ((hb.block _ z10).trans X10); refine ⟨?_⟩; go_simp; exact HK.out _ _ rfl rfB
  ·intro ts W hb hB hp K hK; simp only [fillT,zA,Nat.reduceAdd,sA,sB,sC] at hK ⊢; have HK:=hid hK; clear hK hp; obtain ⟨f0,f1,-,-⟩:=bx2 ((hb.block _ z11).trans X11); refine ⟨?_⟩; go_simp; exact HK.out _ _ rfl rfB
  ·intro ts W hb hB hp K hK; simp only [fillT,zA,Nat.reduceAdd,sA,sB,sC] at hK ⊢; have HK:=hid hK; clear hK hp; obtain ⟨f0,f1,f2,f3,f4,-,-,-,-,-⟩:=bx5 ((hb.block _ z0).trans X0); refine ⟨?_⟩; go_simp; exact HK.out _ _ rfl rfB
  ·intro ts W hb hB hp; have h2:ts 2 = _:=hp 2 kR; intro K hK; simp only [fillT,zA,Nat.reduceAdd,sA,sB,sC,h2] at hK ⊢; have HK:=hid hK; clear hK hp; refine ⟨?_⟩; go_simp; refine (HD1.out W (bT B hb)).mono ?_; rintro e W9 ⟨r9,rfl,hr9,hb9⟩; exact HK.out _ _ hr9 hb9
  ·intro ts W hb hB hp K hK; simp only [fillT,zA,Nat.reduceAdd,sA,sB,sC] at hK ⊢; have HK:=hid hK; clear hK hp; obtain ⟨f0,f1,f2,f3,f4,-,-,-,-,-⟩:=bx5 ((hb.block _ z1).trans X1); refine ⟨?_⟩; go_simp; exact HK.out _ _ rfl rfB
  ·intro ts W hb hB hp; have h4:ts 4 = _:=hp 4 kR; intro K hK; simp only [fillT,zA,Nat.reduceAdd,sA,sB,sC,h4] at hK ⊢; have HK:=hid hK; clear hK hp; refine ⟨?_⟩; go_simp; refine (HD2.out W (bT B hb)).mono ?_; rintro e W9 ⟨r9,rfl,hr9,hb9⟩; exact HK.out _ _ hr9 hb9
  ·intro ts W hb hB hp; have h3:=hp 3 kR; have h5:=hp 5 kR; intro K hK; simp only [fillT,zA,Nat.reduceAdd,sA,sB,sC] at hK ⊢; have HK:=hid hK; clear hK hp; refine ⟨?_⟩; go_simp; refine (HM.out W _ _ h3 h5).mono ?_; rintro e W9 ⟨r9,rfl,hr9,hb9⟩; exact HK.out _ _ hr9 hb9
  ·intro ts W hb hB hp; have h0:ts 0 = _:=hp 0 kR; have h1:ts 1 = _:=hp 1 kR; have h6:=hp 6 kR; intro K hK; simp only [fillT,zA,Nat.reduceAdd,sA,sB,sC,h0,h1] at hK ⊢; have HK:=hid hK; clear hK hp; refine ⟨?_⟩; go_simp; refine (HLo.out W _ _ _ (bT B hb) (H10.below hb) (H11.below hb) h6).mono ?_; rintro e W9 ⟨r9,rfl,hr9,hb9⟩; exact HK.out _ _ hr9 hb9
  intro ts W5 hb5 hh hap K hK
  have hq:IsNum W5 (ts 7) (x.mul y):=hh 7 sP
  obtain ⟨A9,n9,c9,p9,A9b,n9b,c9b,p9b,A9c,n9c,c9c,qa,qb,qd,hqe,-⟩:=hq.parts
  have Y0:=(hb5.block (w.heap.size + 2) oM).trans X2
  have HK:=hid hK
  clear hK
  simp only [fillT,zA,Nat.reduceAdd,sA,sB,sC,hqe]
  rw [hqe] at hq
  clear hh hap hqe
  refine ⟨?_⟩
  refine wp_store_row _ _ _ rfl (w.heap.size + 2) _ rfl rfl _ _ Y0 kR rfl (by simp [Value.oneCell']) (HK.out _ _ ?_)
  have hput:=putAt_setRow (cs:=#[.slice A9 n9 c9,.bool p9,.slice A9b n9b c9b,.bool p9b,.slice A9c n9c c9c]) Y0
  have hext:=hput.ext Y0 dE
  have B2:=hput.below (bT B hb5) oM
  generalize W5.setRow (w.heap.size + 2) #[.slice A9 n9 c9,.bool p9,.slice A9b n9b c9b,.bool p9b,.slice A9c n9c c9c] = W6 at *
  have h5:=hq.ext hext
  obtain ⟨f0,f1,f2,f3,f4,y0,y1,y2,y3,y4⟩:=bx5 hput.here
  clear hput hext hq Y0 HK
  go_wp2
  refine bodyPost_ret (v:=.agg #[.slice A9 n9 c9,.bool p9,.slice A9b n9b c9b,.bool p9b,.slice A9c n9c c9c]) (by simp [results,Tryz.results225,go_sem,f0,f1,f2,f3,f4]) rfl ?_
  exact ⟨_,rfl,h5,B2⟩
 ·have HL:=hid (HL1.out hbb)
  clear HL1
  go_upto_region 4 with fail
  refine region_last [.val (kIs (.agg #[.slice A10 n10 c10,.bool q10])),.val (kIs (.agg #[.slice A11 n11 c11,.bool q11])),.val (kNum (x.mul y))]
   kR kR kR kR kR ⟨Stab.b (stab_is _),Stab.b (stab_is _),stabB_num _,trivial⟩ sP (ol:=_) rfl kR ⟨?_,?_,?_,trivial⟩ ?_
  ·intro ts W hb hB hp K hK; simp only [fillT,zA,Nat.reduceAdd,sA,sB,sC] at hK ⊢; have HK:=hid hK; clear hK hp; obtain ⟨f0,f1,-,-⟩:=bx2 ((hb.block _ z10).trans X10); refine ⟨?_⟩; go_simp; exact HK.out _ _ rfl rfB
  ·intro ts W hb hB hp K hK; simp only [fillT,zA,Nat.reduceAdd,sA,sB,sC] at hK ⊢; have HK:=hid hK; clear hK hp; obtain ⟨f0,f1,-,-⟩:=bx2 ((hb.block _ z11).trans X11); refine ⟨?_⟩; go_simp; exact HK.out _ _ rfl rfB
  ·intro ts W hb hB hp; have h0:ts 0 = _:=hp 0 kR; have h1:ts 1 = _:=hp 1 kR; intro K hK; simp only [fillT,zA,Nat.reduceAdd,sA,sB,sC,h0,h1] at hK ⊢; have HK:=hid hK; clear hK hp; refine ⟨?_⟩; go_simp; exact HK.out _ _ (IsNum.mk HL.out (H10.below hb) (H11.below hb) (IsNat.zero _ _ _)) rfB
  intro ts W5 hb5 hh hap K hK
  have hq:IsNum W5 (ts 2) (x.mul y):=hh 2 sP
  obtain ⟨A9,n9,c9,p9,A9b,n9b,c9b,p9b,A9c,n9c,c9c,qa,qb,qd,hqe,-⟩:=hq.parts
  have Y0:=(hb5.block (w.heap.size + 2) oM).trans X2
  have HK:=hid hK
  clear hK
  simp only [fillT,zA,Nat.reduceAdd,sA,sB,sC,hqe]
  rw [hqe] at hq
  clear hh hap hqe
  refine ⟨?_⟩
  refine wp_store_row _ _ _ rfl (w.heap.size + 2) _ rfl rfl _ _ Y0 kR rfl (by simp [Value.oneCell']) (HK.out _ _ ?_)
  have hput:=putAt_setRow (cs:=#[.slice A9 n9 c9,.bool p9,.slice A9b n9b c9b,.bool p9b,.slice A9c n9c c9c]) Y0
  have hext:=hput.ext Y0 dE
  have B2:=hput.below (bT B hb5) oM
  generalize W5.setRow (w.heap.size + 2) #[.slice A9 n9 c9,.bool p9,.slice A9b n9b c9b,.bool p9b,.slice A9c n9c c9c] = W6 at *
  have h5:=hq.ext hext
  obtain ⟨f0,f1,f2,f3,f4,y0,y1,y2,y3,y4⟩:=bx5 hput.here
  clear hput hext hq Y0 HK
  go_wp2
  refine bodyPost_ret (v:=.agg #[.slice A9 n9 c9,.bool p9,.slice A9b n9b c9b,.bool p9b,.slice A9c n9c c9c]) (by simp [results,Tryz.results225,go_sem,f0,f1,f2,f3,f4]) rfl ?_
  exact ⟨_,rfl,h5,B2⟩
end Go.Proofs.YtjodlmanheeajaaGreatDoor
