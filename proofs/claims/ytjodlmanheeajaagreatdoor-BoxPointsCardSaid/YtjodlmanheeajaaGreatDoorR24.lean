import Derived.Laws.CopyOwn
import Derived.Laws.CopyRow
import Derived.Test.YtjodlmanheeajaaGreatDoorR13
import Derived.Test.YtjodlmanheeajaaGreatDoorR17
import Derived.Test.YtjodlmanheeajaaGreatDoorR22
import Derived.Test.YtjodlmanheeajaaGreatDoorR23
import Derived.Test.YtjodlmanheeajaaGreatDoorR02
set_option linter.unusedVariables false
set_option linter.unusedSimpArgs false
set_option maxRecDepth 100000
set_option maxHeartbeats 8000000
namespace Go.Proofs.YtjodlmanheeajaaGreatDoor
open Go.RowKit
def cw (a b:Int):Cx:=⟨(a:Rat),(b:Rat)⟩
theorem cw_low (a b:Int):Low (cw a b) a b 1:=⟨oM,sP,by simp [cw],by simp [cw]⟩
theorem IsNum.ints {w:World} {r i s:Value} {p q:Bool} {a b:Int} (h:IsNum w (.agg #[r,.bool p,i,.bool q,s]) (cw a b)):IsInt w (.agg #[r,.bool p]) a /\ IsInt w (.agg #[i,.bool q]) b /\ IsNat w s (dn 1):=by
 obtain ⟨r',p',i',q',s',a',b',d',e,hl,hr,hi,hs⟩:=h
 obtain ⟨rfl,rfl,rfl⟩:=hl.uniq (cw_low a b)
 simp at e
 obtain ⟨rfl,rfl,rfl,rfl,rfl⟩:=e
 exact ⟨hr,hi,hs⟩
theorem dn_two {k:Nat} (h:0 < k):dn (2 ^ k) = 2 ^ k:=dn_of_gt (by have:=Nat.pow_le_pow_right (n:=2) oM h; omega)
theorem complex_good (a b:Nat) (w:World) (ha:a < 18446744073709551616) (hb:b < 18446744073709551616) (hT:Tab64 w) (xa:fx a ≠ 2047) (xb:fx b ≠ 2047) :
  Calls Tryz.prog 48 #[.complex .f64 a b] w (RetNumE w (cf a b) 0):=by
 have HA:=hid (fun W (hb:Below w.heap.size w W)=>split_any a W ha (hT.below hb))
 have HB:=hid (fun W (h:Below w.heap.size w W)=>split_any b W hb (hT.below h))
 have HOA:=hid (show decide (fx a ≠ 2047) = true by simpa using xa)
 have HOB:=hid (show decide (fx b ≠ 2047) = true by simpa using xb)
 have XA:=hid xa
 have XB:=hid xb
 clear hT ha hb xa xb
 go_enter Tryz.func48,Tryz.ntmps48
 go_wp2_with fail
 refine (HA.out _ (below_alloc _ _)).mono ?_
 rintro e w1 ⟨v,z1,n1,rfl,hz1,hb1,l1,u1,s1,o1,i1⟩
 obtain ⟨A1,m1,c1,rfl,-⟩:=hz1.parts
 rw [HOA.out]
 have F1:=hid (And.intro l1 (And.intro u1 (And.intro s1 (And.intro o1 (i1 XA.out)))))
 clear l1 u1 s1 o1 i1
 generalize decide (z1 < 0) = p1 at *
 have hbx:w1.heap[w.heap.size]? = some (.cells #[.slice none 0 0,.bool false,.slice none 0 0,.bool false,.slice none 0 0] 49 (0,0)):=(hb1.block w.heap.size sP).trans (heap_alloc_new w _)
 have hlt:w.heap.size < w1.heap.size:=lL sP hb1.size
 have B1:=hid (bT (below_alloc w _) hb1)
 have HZ1:=hid hz1
 clear hb1 hz1
 go_wp2_with fail
 refine (HB.out _ (bT B1.out (below_alloc _ _))).mono ?_
 rintro e w2 ⟨v,z2,n2,rfl,hz2,hb2,l2,u2,s2,o2,i2⟩
 obtain ⟨A2,m2,c2,rfl,-⟩:=hz2.parts
 rw [HOB.out]
 have F2:=hid (And.intro l2 (And.intro u2 (And.intro s2 (And.intro o2 (i2 XB.out)))))
 clear l2 u2 s2 o2 i2
 generalize decide (z2 < 0) = p2 at *
 have X0:=(hb2.block w.heap.size sO).trans ((heap_alloc_old w1 _ hlt).trans hbx)
 have z0:w.heap.size < w2.heap.size:=lL hlt (Nat.le_trans sP hb2.size)
 have X10:=(hb2.block w1.heap.size sP).trans (heap_alloc_new w1 _)
 have z10:w1.heap.size < w2.heap.size:=lL sP hb2.size
 have HZ1:=hid ((HZ1.out.below (below_alloc _ (.cells #[.slice A1 m1 c1,.bool p1] 47))).below hb2)
 have B2:=hid (bT (bT B1.out (below_alloc _ _)) hb2)
 have HZ2:=hid hz2
 clear hb2 hz2 hbx B1 HA HB
 go_upto_region 6 with fail
 obtain ⟨W3,hW3⟩:∃ W,W = w2.alloc (.cells #[.slice A2 m2 c2,.bool p2] 47):=⟨_,rfl⟩
 rw [<- hW3]
 have X11:W3.heap[w2.heap.size]? = some (.cells #[.slice A2 m2 c2,.bool p2] 47 (0,0)):=by rw [hW3]; exact heap_alloc_new w2 _
 have z11:w2.heap.size < W3.heap.size:=by rw [hW3]; simp
 replace X0:=(heap_alloc_old w2 (.cells #[.slice A2 m2 c2,.bool p2] 47) z0).trans X0
 replace X10:=(heap_alloc_old w2 (.cells #[.slice A2 m2 c2,.bool p2] 47) z10).trans X10
 rw [<- hW3] at X0 X10
 replace z0:=Nat.lt_trans z0 z11
 replace z10:=Nat.lt_trans z10 z11
 have H1:IsInt W3 (.agg #[.slice A1 m1 c1,.bool p1]) z1:=by rw [hW3]; exact HZ1.out.below (below_alloc _ _)
 have H2:IsInt W3 (.agg #[.slice A2 m2 c2,.bool p2]) z2:=by rw [hW3]; exact HZ2.out.below (below_alloc _ _)
 have B3:Below w.heap.size w W3:=by rw [hW3]; exact bT B2.out (below_alloc _ _)
 clear hW3 B2 HZ1 HZ2
 obtain ⟨low,hlow⟩:∃ l:Int,l = (if 0 < if n2 < n1 then n2 else n1 then 0 else if n2 < n1 then n2 else n1):=⟨_,rfl⟩
 rw [<- hlow]
 have hl:low = min (min n1 n2) 0:=by rw [hlow]; split <;> split at * <;> omega
 clear hlow
 obtain ⟨l1,u1,s1,o1,i1⟩:=F1.out
 obtain ⟨l2,u2,s2,o2,i2⟩:=F2.out
 have HLow:=hid (cf_low i1 i2 l1 l2 o1 o2 hl)
 clear F1 F2 XA XB HOA HOB i1 i2 o1 o2
 obtain ⟨k1,hk1⟩:∃ k,k = (n1 - low).toNat:=⟨_,rfl⟩
 obtain ⟨k2,hk2⟩:∃ k,k = (n2 - low).toNat:=⟨_,rfl⟩
 obtain ⟨kd,hkd⟩:∃ k,k = (-low).toNat:=⟨_,rfl⟩
 rw [<- hk1,<- hk2,<- hkd] at HLow
 have HS1:=hid (show IntKind.i64.wrap (n1 - low) = (k1:Int) by rw [IntWalk.i64_in _ oM]; omega)
 have HS2:=hid (show IntKind.i64.wrap (n2 - low) = (k2:Int) by rw [IntWalk.i64_in _ oM]; omega)
 have HU1:=hid (fun W (hb:Below W3.heap.size W3 W)=>upI_any _ z1 k1 W (H1.below hb) oM oM)
 have HU2:=hid (fun W (hb:Below W3.heap.size W3 W)=>upI_any _ z2 k2 W (H2.below hb) oM oM)
 have hwn:IntKind.i64.wrap (-low) = (kd:Int) ∨ low = 0:=by rcases Int.lt_or_le low 0 with h | h; (left; rw [IntWalk.i64_in _ oM]; omega); (right; omega)
 have HKD:=hid (And.intro hwn (show kd <= 1074 /\ (low < 0 /\ 0 < kd ∨ low = 0 /\ kd = 0) by omega))
 clear hwn hk1 hk2 hkd hl l1 l2 u1 u2 s1 s2 H1 H2
 refine region_lin [.val (kIs (.agg #[.slice A1 m1 c1,.bool p1])),.val (kIs (.int .i64 n1)),.val (kIs (.int .i64 low)),.val (kIs (.int .i64 (k1:Int))),.val (kInt (z1 * 2 ^ k1)),.val (kIs (.agg #[.slice A2 m2 c2,.bool p2])),.val (kIs (.int .i64 n2)),.val (kIs (.int .i64 low)),.val (kIs (.int .i64 (k2:Int))),.val (kInt (z2 * 2 ^ k2)),.val (kNum (cw (z1 * 2 ^ k1) (z2 * 2 ^ k2))),.box 49 zNum,.put 11 10]
  kR kR kR kR kR ⟨stab_is _,stab_is _,stab_is _,stab_is _,stab_int _,stab_is _,stab_is _,stab_is _,stab_is _,stab_int _,stab_num _,trivial⟩ sP ⟨?_,?_,?_,?_,?_,?_,?_,?_,?_,?_,?_,alloc_num,store_num _,trivial⟩ ?_
 ·intro ts W hb hB hp K hK; simp only [fillT,zA,Nat.reduceAdd,sA,sB,sC] at hK ⊢; have HK:=hid hK; clear hK hp; obtain ⟨f0,f1,-,-⟩:=bx2 ((hb.block _ z10).trans X10); refine ⟨?_⟩; go_simp; exact HK.out _ _ rfl rfB
 ·exact obp
 ·exact obp
 ·intro ts W hb hB hp; have h1:ts 1 = _:=hp 1 kR; have h2:ts 2 = _:=hp 2 kR; intro K hK; simp only [fillT,zA,Nat.reduceAdd,sA,sB,sC,h1,h2] at hK ⊢; have HK:=hid hK; clear hK hp; refine ⟨?_⟩; go_simp; exact HK.out _ _ (by simp [kIs,HS1.out]) rfB
 ·intro ts W hb hB hp; have h0:ts 0 = _:=hp 0 kR; have h3:ts 3 = _:=hp 3 kR; intro K hK; simp only [fillT,zA,Nat.reduceAdd,sA,sB,sC,h0,h3] at hK ⊢; have HK:=hid hK; clear hK hp; refine ⟨?_⟩; go_simp; refine (HU1.out W hb).mono ?_; rintro e W9 ⟨r9,rfl,hr9,hb9⟩; exact HK.out _ _ hr9 hb9
 ·intro ts W hb hB hp K hK; simp only [fillT,zA,Nat.reduceAdd,sA,sB,sC] at hK ⊢; have HK:=hid hK; clear hK hp; obtain ⟨f0,f1,-,-⟩:=bx2 ((hb.block _ z11).trans X11); refine ⟨?_⟩; go_simp; exact HK.out _ _ rfl rfB
 ·exact obp
 ·exact obp
 ·intro ts W hb hB hp; have h6:ts 6 = _:=hp 6 kR; have h7:ts 7 = _:=hp 7 kR; intro K hK; simp only [fillT,zA,Nat.reduceAdd,sA,sB,sC,h6,h7] at hK ⊢; have HK:=hid hK; clear hK hp; refine ⟨?_⟩; go_simp; exact HK.out _ _ (by simp [kIs,HS2.out]) rfB
 ·intro ts W hb hB hp; have h5:ts 5 = _:=hp 5 kR; have h8:ts 8 = _:=hp 8 kR; intro K hK; simp only [fillT,zA,Nat.reduceAdd,sA,sB,sC,h5,h8] at hK ⊢; have HK:=hid hK; clear hK hp; refine ⟨?_⟩; go_simp; refine (HU2.out W hb).mono ?_; rintro e W9 ⟨r9,rfl,hr9,hb9⟩; exact HK.out _ _ hr9 hb9
 ·intro ts W hb hB hp; have h4:=hp 4 kR; have h9:=hp 9 kR; intro K hK; obtain ⟨A7,m7,c7,e7,-⟩:=IsInt.parts h4; obtain ⟨A8,m8,c8,e8,-⟩:=IsInt.parts h9; have i7:=h4; have i8:=h9; rw [e7] at i7; rw [e8] at i8; simp only [fillT,zA,Nat.reduceAdd,sA,sB,sC,e7,e8] at hK ⊢; have HK:=hid hK; clear hK hp; refine ⟨?_⟩; go_simp; exact HK.out _ _ (IsNum.mk (cw_low _ _) i7 i8 (IsNat.zero _ _ _)) rfB
 intro ts W5 hb5 hh hap
 obtain ⟨g20,A20,n20,c20,p20,A20b,n20b,c20b,p20b,A20c,n20c,c20c,e11,lo20,z20,X20,N20⟩:=held_box (x:=cw (z1 * 2 ^ k1) (z2 * 2 ^ k2)) (hh 11 sP) rfl (hh 12 sP) rfl (hh 10 sP) rfl
 simp only [fillT,zA,Nat.reduceAdd,sA,sB,sC,e11]
 clear hh hap e11
 generalize ts 0 = u0_W5 at *
 generalize ts 1 = u1_W5 at *
 generalize ts 2 = u2_W5 at *
 generalize ts 3 = u3_W5 at *
 generalize ts 4 = u4_W5 at *
 generalize ts 5 = u5_W5 at *
 generalize ts 6 = u6_W5 at *
 generalize ts 7 = u7_W5 at *
 generalize ts 8 = u8_W5 at *
 generalize ts 9 = u9_W5 at *
 generalize ts 10 = u10_W5 at *
 clear ts
 have hwg:w.heap.size < g20:=oM
 replace X0:=(hb5.block _ z0).trans X0
 replace z0:=lL z0 hb5.size
 replace B3:=bT B3 hb5
 clear hb5
 obtain ⟨IR,II,IS⟩:=N20.ints
 have HIR:=hid IR
 have HII:=hid II
 have HIS:=hid IS
 have hg0:w.heap.size ≠ g20:=oM
 have hg1:g20 ≠ w.heap.size:=oM
 clear IR II IS N20 X10 X11 z10 z11
 obtain ⟨f0,f1,f2,f3,f4,y0,y1,y2,y3,y4⟩:=bx5 X0
 obtain ⟨d0,d1,d2,d3,d4,v0,v1,v2,v3,v4⟩:=bx5 X20
 clear X0 X20
 rcases HKD.out.2.2 with ⟨hlt0,hkd0⟩ | ⟨rfl,rfl⟩
 ·have hdl:decide (low < 0) = true:=by simpa using hlt0
  have hw:IntKind.i64.wrap (-low) = (kd:Int):=by rcases HKD.out.1 with h | h <;> (first | exact h | omega)
  have HU:=hid (fun W v (h:IsNat W v 1)=>up_any v 1 kd W h (by rw [wl_one]; have:=HKD.out.2.1; omega) (by have:=HKD.out.2.1; omega))
  have HL:=hid HLow.out
  have HK0:=hid hkd0
  clear HLow hkd0 HKD
  go_wp2_with fail
  refine (HU.out _ _ (IsNat.one _ _ sP sG 1 lR)).mono ?_
  rintro e W6 ⟨v,rfl,hn6,hb6⟩
  obtain ⟨A6,n6,c6,rfl,hnn⟩:=hn6.ex
  clear hnn
  have B56:=bT (below_alloc W5 _) hb6
  obtain ⟨hc,hf,hz⟩:=bcells B56 W5.heap.size lR
  replace f0:=(hc _ 0 oM).trans f0
  replace f1:=(hc _ 1 oM).trans f1
  replace f2:=(hc _ 2 oM).trans f2
  replace f3:=(hc _ 3 oM).trans f3
  replace f4:=(hc _ 4 oM).trans f4
  replace y0:=(hf _ 0 oM).trans y0
  replace y1:=(hf _ 1 oM).trans y1
  replace y2:=(hf _ 2 oM).trans y2
  replace y3:=(hf _ 3 oM).trans y3
  replace y4:=(hf _ 4 oM).trans y4
  replace d0:=(hc _ 0 oM).trans d0
  replace d1:=(hc _ 1 oM).trans d1
  replace d2:=(hc _ 2 oM).trans d2
  replace d3:=(hc _ 3 oM).trans d3
  replace d4:=(hc _ 4 oM).trans d4
  replace v4:=(hf _ 4 oM).trans v4
  clear v0 v1 v2 v3
  have HN6:=hid (show IsNat W6 (.slice A6 n6 c6) (dn (2 ^ kd)) by rw [dn_two HK0.out]; rw [Nat.one_mul] at hn6; exact hn6)
  have HIR6:=hid (HIR.out.below B56)
  have HII6:=hid (HII.out.below B56)
  have B6:=hid (bT B3 B56)
  clear hn6 hb6 B56 hc hf HIR HII HIS B3
  go_upto_region 9 with fail
  obtain ⟨W7,hW7⟩:∃ W,W = W6.setCell ⟨g20,4,none⟩ (.slice A6 n6 c6):=⟨_,rfl⟩
  rw [<- hW7]
  have HN:=hid (show IsNum W7 (.agg #[.slice A20 n20 c20,.bool p20,.slice A20b n20b c20b,.bool p20b,.slice A6 n6 c6]) (cf a b) by rw [hW7]; exact (IsNum.mk HL.out HIR6.out HII6.out HN6.out).set_odd d4 (Odd.slice _ _ _) _)
  have B7:=hid (show Below w.heap.size w W7 by rw [hW7]; exact B6.out.setCell (p:=⟨g20,4,none⟩) (by show w.heap.size <= g20; omega) _)
  replace f0:W7.cell? ⟨w.heap.size,0,none⟩ = some (.slice none 0 0):=by rw [hW7]; simp [go_sem,f0,hg0,hg1]
  replace f1:W7.cell? ⟨w.heap.size,1,none⟩ = some (.bool false):=by rw [hW7]; simp [go_sem,f1,hg0,hg1]
  replace f2:W7.cell? ⟨w.heap.size,2,none⟩ = some (.slice none 0 0):=by rw [hW7]; simp [go_sem,f2,hg0,hg1]
  replace f3:W7.cell? ⟨w.heap.size,3,none⟩ = some (.bool false):=by rw [hW7]; simp [go_sem,f3,hg0,hg1]
  replace f4:W7.cell? ⟨w.heap.size,4,none⟩ = some (.slice none 0 0):=by rw [hW7]; simp [go_sem,f4,hg0,hg1]
  replace y0:W7.frozen? ⟨w.heap.size,0,none⟩ = false:=by rw [hW7]; simpa [go_sem] using y0
  replace y1:W7.frozen? ⟨w.heap.size,1,none⟩ = false:=by rw [hW7]; simpa [go_sem] using y1
  replace y2:W7.frozen? ⟨w.heap.size,2,none⟩ = false:=by rw [hW7]; simpa [go_sem] using y2
  replace y3:W7.frozen? ⟨w.heap.size,3,none⟩ = false:=by rw [hW7]; simpa [go_sem] using y3
  replace y4:W7.frozen? ⟨w.heap.size,4,none⟩ = false:=by rw [hW7]; simpa [go_sem] using y4
  replace d0:W7.cell? ⟨g20,0,none⟩ = some (.slice A20 n20 c20):=by rw [hW7]; simp [go_sem,d0]
  replace d1:W7.cell? ⟨g20,1,none⟩ = some (.bool p20):=by rw [hW7]; simp [go_sem,d1]
  replace d2:W7.cell? ⟨g20,2,none⟩ = some (.slice A20b n20b c20b):=by rw [hW7]; simp [go_sem,d2]
  replace d3:W7.cell? ⟨g20,3,none⟩ = some (.bool p20b):=by rw [hW7]; simp [go_sem,d3]
  replace d4:W7.cell? ⟨g20,4,none⟩ = some (.slice A6 n6 c6):=by rw [hW7]; simp [go_sem,d4]
  clear hW7 v4
  have NB:=NumBox.nil f0 f1 f2 f3 f4
  go_wp2
  refine bodyPost_ret (v:=.tuple #[.agg #[.slice A20 n20 c20,.bool p20,.slice A20b n20b c20b,.bool p20b,.slice A6 n6 c6],.int .i64 0]) (by simp [results,Tryz.results48]; exact run_load5e NB _ _ _ _ _ _) rfl ?_
  exact RetNumE.box B7.out lR NB HN.out _ _ _ _ _
 ·have NB:=NumBox.nil f0 f1 f2 f3 f4
  have HL:=hid HLow.out
  clear HLow
  go_wp2
  refine bodyPost_ret (v:=.tuple #[.agg #[.slice A20 n20 c20,.bool p20,.slice A20b n20b c20b,.bool p20b,.slice A20c n20c c20c],.int .i64 0]) (by simp [results,Tryz.results48]; exact run_load5e NB _ _ _ _ _ _) rfl ?_
  exact RetNumE.box B3 lR NB (IsNum.mk (d:=1) (by simpa using HL.out) HIR.out HII.out HIS.out) _ _ _ _ _
end Go.Proofs.YtjodlmanheeajaaGreatDoor
