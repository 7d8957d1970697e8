import Derived.Test.YtffegeaflohfhaaGreatDoorS13
import Derived.Test.YtffegeaflohfhaaGreatDoorS16
import Derived.Test.YtffegeaflohfhaaGreatDoorS02
set_option linter.unusedVariables false
set_option linter.unusedSimpArgs false
set_option maxRecDepth 100000
set_option maxHeartbeats 8000000
namespace Go.Proofs.YtffegeaflohfhaaGreatDoor
open Go.RowKit
theorem add_common {x y:Cx} {a b a' b':Int} {d d':Nat} (h:Low x a b d) (h':Low y a' b' d') :
  gcd3 (a * ((d' / Nat.gcd d d':Nat):Int) + a' * ((d / Nat.gcd d d':Nat):Int)) (b * ((d' / Nat.gcd d d':Nat):Int) + b' * ((d / Nat.gcd d d':Nat):Int)) (d / Nat.gcd d d' * d') ∣ Nat.gcd d d':=by
 have hd:=h.pos
 have hd':=h'.pos
 have hg:0 < Nat.gcd d d':=Nat.gcd_pos_of_pos_left _ hd
 obtain ⟨u,hu⟩:=Nat.gcd_dvd_left d d'
 obtain ⟨v,hv⟩:=Nat.gcd_dvd_right d d'
 have huv:Nat.gcd u v = 1:=by
  have:=Nat.gcd_mul_left (Nat.gcd d d') u v
  rw [<- hu,<- hv] at this
  exact Nat.eq_of_mul_eq_mul_left hg oM
 generalize Nat.gcd d d' = g at *
 have e1:d / g = u:=by rw [hu]; exact Nat.mul_div_cancel_left _ hg
 have e2:d' / g = v:=by rw [hv]; exact Nat.mul_div_cancel_left _ hg
 rw [e1,e2]
 obtain ⟨k1,k2,k3⟩:=gcd3_dvd (a * (v:Int) + a' * (u:Int)) (b * (v:Int) + b' * (u:Int)) (u * d')
 generalize gcd3 (a * (v:Int) + a' * (u:Int)) (b * (v:Int) + b' * (u:Int)) (u * d') = k at *
 have one:∀ (p q:Int) (r s:Nat) (c:Nat),c ∣ k -> c ∣ r -> Nat.gcd r s = 1 -> (k:Int) ∣ p * (s:Int) + q * (r:Int) -> (c:Int) ∣ p:=by
  intro p q r s c c1 c2 c3 c4
  have hs:(c:Int) ∣ p * (s:Int):=by
   have t1:(c:Int) ∣ p * (s:Int) + q * (r:Int):=Int.dvd_trans (Int.ofNat_dvd.2 c1) c4
   have t2:(c:Int) ∣ q * (r:Int):=Int.dvd_trans (Int.ofNat_dvd.2 c2) (Int.dvd_mul_left _ _)
   exact (Int.dvd_add_left t2).1 t1
  have hs':c ∣ p.natAbs * s:=by
   have:=Int.natAbs_dvd_natAbs.2 hs
   rwa [Int.natAbs_natCast,Int.natAbs_mul,Int.natAbs_natCast] at this
  have hcs:Nat.Coprime c s:=Nat.Coprime.coprime_dvd_left c2 c3
  exact Int.ofNat_dvd_left.2 (hcs.dvd_of_dvd_mul_right hs')
 have cu:Nat.Coprime k u:=by
  have c1:=Nat.gcd_dvd_left k u
  have c2:=Nat.gcd_dvd_right k u
  have t1:=one a a' u v _ c1 c2 huv k2
  have t2:=one b b' u v _ c1 c2 huv k3
  have t3:Nat.gcd k u ∣ d:=by rw [hu]; exact Nat.dvd_trans c2 ⟨g,Nat.mul_comm _ _⟩
  have t4:=Nat.dvd_gcd (Nat.dvd_gcd t3 (Int.ofNat_dvd_left.1 t1)) (Int.ofNat_dvd_left.1 t2)
  rw [h.2.1] at t4
  exact Nat.dvd_one.1 t4
 have cv:Nat.Coprime k v:=by
  have c1:=Nat.gcd_dvd_left k v
  have c2:=Nat.gcd_dvd_right k v
  have t1:=one a' a v u _ c1 c2 (by rw [Nat.gcd_comm]; exact huv) (by rw [Int.add_comm]; exact k2)
  have t2:=one b' b v u _ c1 c2 (by rw [Nat.gcd_comm]; exact huv) (by rw [Int.add_comm]; exact k3)
  have t3:Nat.gcd k v ∣ d':=by rw [hv]; exact Nat.dvd_trans c2 ⟨g,Nat.mul_comm _ _⟩
  have t4:=Nat.dvd_gcd (Nat.dvd_gcd t3 (Int.ofNat_dvd_left.1 t1)) (Int.ofNat_dvd_left.1 t2)
  rw [h'.2.1] at t4
  exact Nat.dvd_one.1 t4
 have hk:k ∣ u * (v * g):=by rw [Nat.mul_comm v g,<- hv]; exact k1
 exact cv.dvd_of_dvd_mul_left (cu.dvd_of_dvd_mul_left hk)
theorem add_terms' {x y:Cx} {a b a' b':Int} {d d':Nat} (h:Low x a b d) (h':Low y a' b' d') :
  (x.add y).re * ((d / Nat.gcd d d' * d':Nat):Rat) = ((a * ((d' / Nat.gcd d d':Nat):Int) + a' * ((d / Nat.gcd d d':Nat):Int):Int):Rat) /\
  (x.add y).im * ((d / Nat.gcd d d' * d':Nat):Rat) = ((b * ((d' / Nat.gcd d d':Nat):Int) + b' * ((d / Nat.gcd d d':Nat):Int):Int):Rat):=by
 have hd:=h.pos
 have hg:0 < Nat.gcd d d':=Nat.gcd_pos_of_pos_left _ hd
 obtain ⟨u,hu⟩:=Nat.gcd_dvd_left d d'
 obtain ⟨v,hv⟩:=Nat.gcd_dvd_right d d'
 obtain ⟨-,-,h1,h2⟩:=h
 obtain ⟨-,-,h1',h2'⟩:=h'
 generalize Nat.gcd d d' = g at *
 have e1:d / g = u:=by rw [hu]; exact Nat.mul_div_cancel_left _ hg
 have e2:d' / g = v:=by rw [hv]; exact Nat.mul_div_cancel_left _ hg
 have c1:(d:Rat) = (g:Rat) * (u:Rat):=by rw [hu,Rat.natCast_mul]
 have c2:(d':Rat) = (g:Rat) * (v:Rat):=by rw [hv,Rat.natCast_mul]
 rw [e1,e2]
 simp only [Cx.add,Rat.natCast_mul,Rat.intCast_add,Rat.intCast_mul,Rat.intCast_natCast]
 constructor <;> grind
theorem zero_add_ (x:Cx):Cx.zero.add x = x:=Cx.ext (Rat.zero_add _) (Rat.zero_add _)
theorem add_zero_ (x:Cx):x.add Cx.zero = x:=Cx.ext (Rat.add_zero _) (Rat.add_zero _)
theorem addN_0x (v u:Value) (x y:Cx) (w:World) (h:IsNum w v x) (h':IsNum w u y) (m n:Nat) (hx:Sz x m) (hy:Sz y n) (hm:m + n + 1 < 549755813888) (hT:Tab w) (h0:x = .zero) :
  Calls Tryz.prog 27 #[v,u] w (RetNum w (x.add y)):=by
 have HX:=hid (fun W (hb:Below w.heap.size w W)=>h.below hb)
 have HY:=hid (fun W (hb:Below w.heap.size w W)=>h'.below hb)
 have c1:=fun W (hb:Below w.heap.size w W)=>clear_any _ _ W (h.below hb)
 have c2:=fun W (hb:Below w.heap.size w W)=>clear_any _ _ W (h'.below hb)
 rw [decide_eq_true h0] at c1
 subst h0
 rw [zero_add_]
 have HC1:=hid c1
 obtain ⟨A1,n1,c1,p1,A2,n2,c2,p2,A3,n3,c3,a,b,d,rfl,hl,hr,hi,hs,hn3,-,-,-,-⟩:=h.parts
 obtain ⟨A4,n4,c4,p4,A5,n5,c5,p5,A6,n6,c6,a',b',d',rfl,hl',hr',hi',hs',hn6,-,-,-,-⟩:=h'.parts
 clear c1 c2 h h' hx hy hm hT hl hr hi hs hn3 hl' hr' hi' hs' hn6
 go_enter Tryz.func27,Tryz.ntmps27
 go_upto_region 1 with fail
 obtain ⟨W1,hW1⟩:∃ W1:World,W1 = (((w.alloc (.cells #[.slice A1 n1 c1,.bool p1,.slice A2 n2 c2,.bool p2,.slice A3 n3 c3] 35)).alloc (.cells #[.slice A4 n4 c4,.bool p4,.slice A5 n5 c5,.bool p5,.slice A6 n6 c6] 35)).alloc (.cells #[.slice none 0 0,.bool false,.slice none 0 0,.bool false,.slice none 0 0] 35)):=⟨_,rfl⟩
 rw [<- hW1]
 have B1:Below w.heap.size w W1:=by rw [hW1]; exact bel
 have hz1:w.heap.size + 3 <= W1.heap.size:=by rw [hW1]; simp
 obtain ⟨f0_0,f0_1,f0_2,f0_3,f0_4,yf0_0,yf0_1,yf0_2,yf0_3,yf0_4⟩:Bx5 W1 (w.heap.size) (.slice A1 n1 c1) (.bool p1) (.slice A2 n2 c2) (.bool p2) (.slice A3 n3 c3):=by rw [hW1]; simp [Bx5,go_sem]
 obtain ⟨f1_0,f1_1,f1_2,f1_3,f1_4,yf1_0,yf1_1,yf1_2,yf1_3,yf1_4⟩:Bx5 W1 (w.heap.size + 1) (.slice A4 n4 c4) (.bool p4) (.slice A5 n5 c5) (.bool p5) (.slice A6 n6 c6):=by rw [hW1]; simp [Bx5,go_sem]
 obtain ⟨f2_0,f2_1,f2_2,f2_3,f2_4,yf2_0,yf2_1,yf2_2,yf2_3,yf2_4⟩:Bx5 W1 (w.heap.size + 1 + 1) (.slice none 0 0) (.bool false) (.slice none 0 0) (.bool false) (.slice none 0 0):=by rw [hW1]; simp [Bx5,go_sem]
 clear hW1
 go_wp2_with fail
 refine (HC1.out _ B1).mono ?_
 rintro e W7 ⟨rfl,hb7⟩
 have B7:=bT B1 hb7
 have hK7:=(Kept.refl W1 lR).below hb7
 have hz7:W1.heap.size <= W7.heap.size:=hK7.2.2.1
 obtain ⟨g0_0,g0_1,g0_2,g0_3,g0_4,yg0_0,yg0_1,yg0_2,yg0_3,yg0_4⟩:=hK7.k5 (b:=w.heap.size) oM f0_0 f0_1 f0_2 f0_3 f0_4 yf0_0 yf0_1 yf0_2 yf0_3 yf0_4
 obtain ⟨g1_0,g1_1,g1_2,g1_3,g1_4,yg1_0,yg1_1,yg1_2,yg1_3,yg1_4⟩:=hK7.k5 (b:=w.heap.size + 1) oM f1_0 f1_1 f1_2 f1_3 f1_4 yf1_0 yf1_1 yf1_2 yf1_3 yf1_4
 obtain ⟨g2_0,g2_1,g2_2,g2_3,g2_4,yg2_0,yg2_1,yg2_2,yg2_3,yg2_4⟩:=hK7.k5 (b:=w.heap.size + 1 + 1) oM f2_0 f2_1 f2_2 f2_3 f2_4 yf2_0 yf2_1 yf2_2 yf2_3 yf2_4
 clear hK7 hb7 f0_0 yf0_0 f0_1 yf0_1 f0_2 yf0_2 f0_3 yf0_3 f0_4 yf0_4 f1_0 yf1_0 f1_1 yf1_1 f1_2 yf1_2 f1_3 yf1_3 f1_4 yf1_4 f2_0 yf2_0 f2_1 yf2_1 f2_2 yf2_2 f2_3 yf2_3 f2_4 yf2_4
 have lt0_0:w.heap.size < W7.heap.size:=oM
 have lt0_1:w.heap.size + 1 < W7.heap.size:=oM
 have lt0_2:w.heap.size + 1 + 1 < W7.heap.size:=oM
 have ne0_0_0:w.heap.size ≠ W7.heap.size:=oM
 have en0_0_0:W7.heap.size ≠ w.heap.size:=oM
 have ne0_1_0:w.heap.size + 1 ≠ W7.heap.size:=oM
 have en0_1_0:W7.heap.size ≠ w.heap.size + 1:=oM
 have ne0_2_0:w.heap.size + 1 + 1 ≠ W7.heap.size:=oM
 have en0_2_0:W7.heap.size ≠ w.heap.size + 1 + 1:=oM
 have nr_0:w.heap.size + 1 + 1 ≠ w.heap.size:=oM
 have mr_0:w.heap.size ≠ w.heap.size + 1 + 1:=oM
 have nr_1:w.heap.size + 1 + 1 ≠ w.heap.size + 1:=oM
 have mr_1:w.heap.size + 1 ≠ w.heap.size + 1 + 1:=oM
 go_wp2
 have NB:NumBox W7 (w.heap.size + 1 + 1):=.nil g2_0 g2_1 g2_2 g2_3 g2_4
 refine bodyPost_ret (v:=.agg #[.slice A4 n4 c4,.bool p4,.slice A5 n5 c5,.bool p5,.slice A6 n6 c6]) (by simp [results,Tryz.results27]; exact run_load5 NB _ _ _ _ _) rfl ?_
 exact RetNum.box B7 oM NB (HY.out _ B7) _ _ _ _ _
theorem addN_0y (v u:Value) (x y:Cx) (w:World) (h:IsNum w v x) (h':IsNum w u y) (m n:Nat) (hx:Sz x m) (hy:Sz y n) (hm:m + n + 1 < 549755813888) (hT:Tab w) (h1:x ≠ .zero) (h0:y = .zero) :
  Calls Tryz.prog 27 #[v,u] w (RetNum w (x.add y)):=by
 have HX:=hid (fun W (hb:Below w.heap.size w W)=>h.below hb)
 have HY:=hid (fun W (hb:Below w.heap.size w W)=>h'.below hb)
 have c1:=fun W (hb:Below w.heap.size w W)=>clear_any _ _ W (h.below hb)
 have c2:=fun W (hb:Below w.heap.size w W)=>clear_any _ _ W (h'.below hb)
 rw [decide_eq_false h1] at c1
 rw [decide_eq_true h0] at c2
 subst h0
 rw [add_zero_]
 have HC1:=hid c1
 have HC2:=hid c2
 obtain ⟨A1,n1,c1,p1,A2,n2,c2,p2,A3,n3,c3,a,b,d,rfl,hl,hr,hi,hs,hn3,-,-,-,-⟩:=h.parts
 obtain ⟨A4,n4,c4,p4,A5,n5,c5,p5,A6,n6,c6,a',b',d',rfl,hl',hr',hi',hs',hn6,-,-,-,-⟩:=h'.parts
 clear c1 c2 h1 h h' hx hy hm hT hl hr hi hs hn3 hl' hr' hi' hs' hn6
 go_enter Tryz.func27,Tryz.ntmps27
 go_upto_region 1 with fail
 obtain ⟨W1,hW1⟩:∃ W1:World,W1 = (((w.alloc (.cells #[.slice A1 n1 c1,.bool p1,.slice A2 n2 c2,.bool p2,.slice A3 n3 c3] 35)).alloc (.cells #[.slice A4 n4 c4,.bool p4,.slice A5 n5 c5,.bool p5,.slice A6 n6 c6] 35)).alloc (.cells #[.slice none 0 0,.bool false,.slice none 0 0,.bool false,.slice none 0 0] 35)):=⟨_,rfl⟩
 rw [<- hW1]
 have B1:Below w.heap.size w W1:=by rw [hW1]; exact bel
 have hz1:w.heap.size + 3 <= W1.heap.size:=by rw [hW1]; simp
 obtain ⟨f0_0,f0_1,f0_2,f0_3,f0_4,yf0_0,yf0_1,yf0_2,yf0_3,yf0_4⟩:Bx5 W1 (w.heap.size) (.slice A1 n1 c1) (.bool p1) (.slice A2 n2 c2) (.bool p2) (.slice A3 n3 c3):=by rw [hW1]; simp [Bx5,go_sem]
 obtain ⟨f1_0,f1_1,f1_2,f1_3,f1_4,yf1_0,yf1_1,yf1_2,yf1_3,yf1_4⟩:Bx5 W1 (w.heap.size + 1) (.slice A4 n4 c4) (.bool p4) (.slice A5 n5 c5) (.bool p5) (.slice A6 n6 c6):=by rw [hW1]; simp [Bx5,go_sem]
 obtain ⟨f2_0,f2_1,f2_2,f2_3,f2_4,yf2_0,yf2_1,yf2_2,yf2_3,yf2_4⟩:Bx5 W1 (w.heap.size + 1 + 1) (.slice none 0 0) (.bool false) (.slice none 0 0) (.bool false) (.slice none 0 0):=by rw [hW1]; simp [Bx5,go_sem]
 clear hW1
 go_wp2_with fail
 refine (HC1.out _ B1).mono ?_
 rintro e W7 ⟨rfl,hb7⟩
 have B7:=bT B1 hb7
 have hK7:=(Kept.refl W1 lR).below hb7
 have hz7:W1.heap.size <= W7.heap.size:=hK7.2.2.1
 obtain ⟨g0_0,g0_1,g0_2,g0_3,g0_4,yg0_0,yg0_1,yg0_2,yg0_3,yg0_4⟩:=hK7.k5 (b:=w.heap.size) oM f0_0 f0_1 f0_2 f0_3 f0_4 yf0_0 yf0_1 yf0_2 yf0_3 yf0_4
 obtain ⟨g1_0,g1_1,g1_2,g1_3,g1_4,yg1_0,yg1_1,yg1_2,yg1_3,yg1_4⟩:=hK7.k5 (b:=w.heap.size + 1) oM f1_0 f1_1 f1_2 f1_3 f1_4 yf1_0 yf1_1 yf1_2 yf1_3 yf1_4
 obtain ⟨g2_0,g2_1,g2_2,g2_3,g2_4,yg2_0,yg2_1,yg2_2,yg2_3,yg2_4⟩:=hK7.k5 (b:=w.heap.size + 1 + 1) oM f2_0 f2_1 f2_2 f2_3 f2_4 yf2_0 yf2_1 yf2_2 yf2_3 yf2_4
 clear hK7 hb7 f0_0 yf0_0 f0_1 yf0_1 f0_2 yf0_2 f0_3 yf0_3 f0_4 yf0_4 f1_0 yf1_0 f1_1 yf1_1 f1_2 yf1_2 f1_3 yf1_3 f1_4 yf1_4 f2_0 yf2_0 f2_1 yf2_1 f2_2 yf2_2 f2_3 yf2_3 f2_4 yf2_4
 have lt0_0:w.heap.size < W7.heap.size:=oM
 have lt0_1:w.heap.size + 1 < W7.heap.size:=oM
 have lt0_2:w.heap.size + 1 + 1 < W7.heap.size:=oM
 have ne0_0_0:w.heap.size ≠ W7.heap.size:=oM
 have en0_0_0:W7.heap.size ≠ w.heap.size:=oM
 have ne0_1_0:w.heap.size + 1 ≠ W7.heap.size:=oM
 have en0_1_0:W7.heap.size ≠ w.heap.size + 1:=oM
 have ne0_2_0:w.heap.size + 1 + 1 ≠ W7.heap.size:=oM
 have en0_2_0:W7.heap.size ≠ w.heap.size + 1 + 1:=oM
 have nr_0:w.heap.size + 1 + 1 ≠ w.heap.size:=oM
 have mr_0:w.heap.size ≠ w.heap.size + 1 + 1:=oM
 have nr_1:w.heap.size + 1 + 1 ≠ w.heap.size + 1:=oM
 have mr_1:w.heap.size + 1 ≠ w.heap.size + 1 + 1:=oM
 go_wp2_with fail
 refine (HC2.out _ B7).mono ?_
 rintro e W8 ⟨rfl,hb8⟩
 have B8:=bT B7 hb8
 have hK8:=(Kept.refl W7 lR).below hb8
 have hz8:W7.heap.size <= W8.heap.size:=hK8.2.2.1
 obtain ⟨j0_0,j0_1,j0_2,j0_3,j0_4,yj0_0,yj0_1,yj0_2,yj0_3,yj0_4⟩:=hK8.k5 (b:=w.heap.size) oM g0_0 g0_1 g0_2 g0_3 g0_4 yg0_0 yg0_1 yg0_2 yg0_3 yg0_4
 obtain ⟨j1_0,j1_1,j1_2,j1_3,j1_4,yj1_0,yj1_1,yj1_2,yj1_3,yj1_4⟩:=hK8.k5 (b:=w.heap.size + 1) oM g1_0 g1_1 g1_2 g1_3 g1_4 yg1_0 yg1_1 yg1_2 yg1_3 yg1_4
 obtain ⟨j2_0,j2_1,j2_2,j2_3,j2_4,yj2_0,yj2_1,yj2_2,yj2_3,yj2_4⟩:=hK8.k5 (b:=w.heap.size + 1 + 1) oM g2_0 g2_1 g2_2 g2_3 g2_4 yg2_0 yg2_1 yg2_2 yg2_3 yg2_4
 clear hK8 hb8 g0_0 yg0_0 g0_1 yg0_1 g0_2 yg0_2 g0_3 yg0_3 g0_4 yg0_4 g1_0 yg1_0 g1_1 yg1_1 g1_2 yg1_2 g1_3 yg1_3 g1_4 yg1_4 g2_0 yg2_0 g2_1 yg2_1 g2_2 yg2_2 g2_3 yg2_3 g2_4 yg2_4
 have lt8_0:w.heap.size < W8.heap.size:=oM
 have lt8_1:w.heap.size + 1 < W8.heap.size:=oM
 have lt8_2:w.heap.size + 1 + 1 < W8.heap.size:=oM
 have ne8_0_0:w.heap.size ≠ W8.heap.size:=oM
 have en8_0_0:W8.heap.size ≠ w.heap.size:=oM
 have ne8_1_0:w.heap.size + 1 ≠ W8.heap.size:=oM
 have en8_1_0:W8.heap.size ≠ w.heap.size + 1:=oM
 have ne8_2_0:w.heap.size + 1 + 1 ≠ W8.heap.size:=oM
 have en8_2_0:W8.heap.size ≠ w.heap.size + 1 + 1:=oM
 go_wp2
 have NB:NumBox W8 (w.heap.size + 1 + 1):=.nil j2_0 j2_1 j2_2 j2_3 j2_4
 refine bodyPost_ret (v:=.agg #[.slice A1 n1 c1,.bool p1,.slice A2 n2 c2,.bool p2,.slice A3 n3 c3]) (by simp [results,Tryz.results27]; exact run_load5 NB _ _ _ _ _) rfl ?_
 exact RetNum.box B8 oM NB (HX.out _ B8) _ _ _ _ _
theorem addN_ww (v u:Value) (x y:Cx) (w:World) (h:IsNum w v x) (h':IsNum w u y) (m n:Nat) (hx:Sz x m) (hy:Sz y n) (hm:m + n + 1 < 549755813888) (hT:Tab w) (h1:x ≠ .zero) (h2:y ≠ .zero) (hdx:∀ a b d,Low x a b d -> d = 1) (hdy:∀ a b d,Low y a b d -> d = 1) :
  Calls Tryz.prog 27 #[v,u] w (RetNum w (x.add y)):=by
 have HX:=hid (fun W (hb:Below w.heap.size w W)=>h.below hb)
 have HY:=hid (fun W (hb:Below w.heap.size w W)=>h'.below hb)
 have c1:=fun W (hb:Below w.heap.size w W)=>clear_any _ _ W (h.below hb)
 have c2:=fun W (hb:Below w.heap.size w W)=>clear_any _ _ W (h'.below hb)
 rw [decide_eq_false h1] at c1
 rw [decide_eq_false h2] at c2
 have HC1:=hid c1
 have HC2:=hid c2
 obtain ⟨A1,n1,c1,p1,A2,n2,c2,p2,A3,n3,c3,a,b,d,rfl,hl,hr,hi,hs,hn3,-,-,-,-⟩:=h.parts
 obtain ⟨A4,n4,c4,p4,A5,n5,c5,p5,A6,n6,c6,a',b',d',rfl,hl',hr',hi',hs',hn6,-,-,-,-⟩:=h'.parts
 have s1:=hx _ _ _ hl
 have s2:=hy _ _ _ hl'
 have e1:=hdx _ _ _ hl
 have e2:=hdy _ _ _ hl'
 subst e1; subst e2
 rw [dn_one,wl_zero] at hn3 hn6
 have ht:=add_terms hl hl'
 have hL:Low (x.add y) (a + a') (b + b') 1:=low_of_one (by simpa using ht.1) (by simpa using ht.2)
 have HL:=hid hL
 have A1':=hid (fun W (hb:Below w.heap.size w W)=>addI_any _ _ _ _ W (hr.below hb) (hr'.below hb) oM oM)
 have A2':=hid (fun W (hb:Below w.heap.size w W)=>addI_any _ _ _ _ W (hi.below hb) (hi'.below hb) oM oM)
 subst hn3; subst hn6
 clear c1 c2 h1 h2 hdx hdy s1 s2 ht hL h h' hx hy hm hT hl hr hi hs hl' hr' hi' hs'
 go_enter Tryz.func27,Tryz.ntmps27
 go_upto_region 1 with fail
 obtain ⟨W1,hW1⟩:∃ W1:World,W1 = (((w.alloc (.cells #[.slice A1 n1 c1,.bool p1,.slice A2 n2 c2,.bool p2,.slice A3 0 c3] 35)).alloc (.cells #[.slice A4 n4 c4,.bool p4,.slice A5 n5 c5,.bool p5,.slice A6 0 c6] 35)).alloc (.cells #[.slice none 0 0,.bool false,.slice none 0 0,.bool false,.slice none 0 0] 35)):=⟨_,rfl⟩
 rw [<- hW1]
 have B1:Below w.heap.size w W1:=by rw [hW1]; exact bel
 have hz1:w.heap.size + 3 <= W1.heap.size:=by rw [hW1]; simp
 obtain ⟨f0_0,f0_1,f0_2,f0_3,f0_4,yf0_0,yf0_1,yf0_2,yf0_3,yf0_4⟩:Bx5 W1 (w.heap.size) (.slice A1 n1 c1) (.bool p1) (.slice A2 n2 c2) (.bool p2) (.slice A3 0 c3):=by rw [hW1]; simp [Bx5,go_sem]
 obtain ⟨f1_0,f1_1,f1_2,f1_3,f1_4,yf1_0,yf1_1,yf1_2,yf1_3,yf1_4⟩:Bx5 W1 (w.heap.size + 1) (.slice A4 n4 c4) (.bool p4) (.slice A5 n5 c5) (.bool p5) (.slice A6 0 c6):=by rw [hW1]; simp [Bx5,go_sem]
 obtain ⟨f2_0,f2_1,f2_2,f2_3,f2_4,yf2_0,yf2_1,yf2_2,yf2_3,yf2_4⟩:Bx5 W1 (w.heap.size + 1 + 1) (.slice none 0 0) (.bool false) (.slice none 0 0) (.bool false) (.slice none 0 0):=by rw [hW1]; simp [Bx5,go_sem]
 clear hW1
 go_wp2_with fail
 refine (HC1.out _ B1).mono ?_
 rintro e W7 ⟨rfl,hb7⟩
 have B7:=bT B1 hb7
 have hK7:=(Kept.refl W1 lR).below hb7
 have hz7:W1.heap.size <= W7.heap.size:=hK7.2.2.1
 obtain ⟨g0_0,g0_1,g0_2,g0_3,g0_4,yg0_0,yg0_1,yg0_2,yg0_3,yg0_4⟩:=hK7.k5 (b:=w.heap.size) oM f0_0 f0_1 f0_2 f0_3 f0_4 yf0_0 yf0_1 yf0_2 yf0_3 yf0_4
 obtain ⟨g1_0,g1_1,g1_2,g1_3,g1_4,yg1_0,yg1_1,yg1_2,yg1_3,yg1_4⟩:=hK7.k5 (b:=w.heap.size + 1) oM f1_0 f1_1 f1_2 f1_3 f1_4 yf1_0 yf1_1 yf1_2 yf1_3 yf1_4
 obtain ⟨g2_0,g2_1,g2_2,g2_3,g2_4,yg2_0,yg2_1,yg2_2,yg2_3,yg2_4⟩:=hK7.k5 (b:=w.heap.size + 1 + 1) oM f2_0 f2_1 f2_2 f2_3 f2_4 yf2_0 yf2_1 yf2_2 yf2_3 yf2_4
 clear hK7 hb7 f0_0 yf0_0 f0_1 yf0_1 f0_2 yf0_2 f0_3 yf0_3 f0_4 yf0_4 f1_0 yf1_0 f1_1 yf1_1 f1_2 yf1_2 f1_3 yf1_3 f1_4 yf1_4 f2_0 yf2_0 f2_1 yf2_1 f2_2 yf2_2 f2_3 yf2_3 f2_4 yf2_4
 have lt0_0:w.heap.size < W7.heap.size:=oM
 have lt0_1:w.heap.size + 1 < W7.heap.size:=oM
 have lt0_2:w.heap.size + 1 + 1 < W7.heap.size:=oM
 have ne0_0_0:w.heap.size ≠ W7.heap.size:=oM
 have en0_0_0:W7.heap.size ≠ w.heap.size:=oM
 have ne0_1_0:w.heap.size + 1 ≠ W7.heap.size:=oM
 have en0_1_0:W7.heap.size ≠ w.heap.size + 1:=oM
 have ne0_2_0:w.heap.size + 1 + 1 ≠ W7.heap.size:=oM
 have en0_2_0:W7.heap.size ≠ w.heap.size + 1 + 1:=oM
 have nr_0:w.heap.size + 1 + 1 ≠ w.heap.size:=oM
 have mr_0:w.heap.size ≠ w.heap.size + 1 + 1:=oM
 have nr_1:w.heap.size + 1 + 1 ≠ w.heap.size + 1:=oM
 have mr_1:w.heap.size + 1 ≠ w.heap.size + 1 + 1:=oM
 go_wp2_with fail
 refine (HC2.out _ B7).mono ?_
 rintro e W8 ⟨rfl,hb8⟩
 have B8:=bT B7 hb8
 have hK8:=(Kept.refl W7 lR).below hb8
 have hz8:W7.heap.size <= W8.heap.size:=hK8.2.2.1
 obtain ⟨j0_0,j0_1,j0_2,j0_3,j0_4,yj0_0,yj0_1,yj0_2,yj0_3,yj0_4⟩:=hK8.k5 (b:=w.heap.size) oM g0_0 g0_1 g0_2 g0_3 g0_4 yg0_0 yg0_1 yg0_2 yg0_3 yg0_4
 obtain ⟨j1_0,j1_1,j1_2,j1_3,j1_4,yj1_0,yj1_1,yj1_2,yj1_3,yj1_4⟩:=hK8.k5 (b:=w.heap.size + 1) oM g1_0 g1_1 g1_2 g1_3 g1_4 yg1_0 yg1_1 yg1_2 yg1_3 yg1_4
 obtain ⟨j2_0,j2_1,j2_2,j2_3,j2_4,yj2_0,yj2_1,yj2_2,yj2_3,yj2_4⟩:=hK8.k5 (b:=w.heap.size + 1 + 1) oM g2_0 g2_1 g2_2 g2_3 g2_4 yg2_0 yg2_1 yg2_2 yg2_3 yg2_4
 clear hK8 hb8 g0_0 yg0_0 g0_1 yg0_1 g0_2 yg0_2 g0_3 yg0_3 g0_4 yg0_4 g1_0 yg1_0 g1_1 yg1_1 g1_2 yg1_2 g1_3 yg1_3 g1_4 yg1_4 g2_0 yg2_0 g2_1 yg2_1 g2_2 yg2_2 g2_3 yg2_3 g2_4 yg2_4
 have lt8_0:w.heap.size < W8.heap.size:=oM
 have lt8_1:w.heap.size + 1 < W8.heap.size:=oM
 have lt8_2:w.heap.size + 1 + 1 < W8.heap.size:=oM
 have ne8_0_0:w.heap.size ≠ W8.heap.size:=oM
 have en8_0_0:W8.heap.size ≠ w.heap.size:=oM
 have ne8_1_0:w.heap.size + 1 ≠ W8.heap.size:=oM
 have en8_1_0:W8.heap.size ≠ w.heap.size + 1:=oM
 have ne8_2_0:w.heap.size + 1 + 1 ≠ W8.heap.size:=oM
 have en8_2_0:W8.heap.size ≠ w.heap.size + 1 + 1:=oM
 go_wp2_with fail
 go_region_held3 (fun w'=>w'.cell? ⟨w.heap.size,0,none⟩ = some (.slice A1 n1 c1) /\ w'.cell? ⟨w.heap.size,1,none⟩ = some (.bool p1) /\ w'.cell? ⟨w.heap.size,2,none⟩ = some (.slice A2 n2 c2) /\ w'.cell? ⟨w.heap.size,3,none⟩ = some (.bool p2) /\ w'.cell? ⟨w.heap.size + 1,0,none⟩ = some (.slice A4 n4 c4) /\ w'.cell? ⟨w.heap.size + 1,1,none⟩ = some (.bool p4) /\ w'.cell? ⟨w.heap.size + 1,2,none⟩ = some (.slice A5 n5 c5) /\ w'.cell? ⟨w.heap.size + 1,3,none⟩ = some (.bool p5)) (go_keep) (first | (go_at_call 76; (first | ((with_reducible refine (A1'.out _ ?_).mono ?_); (exact bel); (rintro e W17 ⟨r17,rfl,hr17,hb17⟩; obtain ⟨A17,n17,c17,rfl,-,-⟩:=hr17.parts; generalize decide (a + a' < 0) = q17 at *; have kb17:Below W8.heap.size W8 W17:=bel; clear hb17; obtain ⟨hc17,hf17,hz17⟩:=bcells kb17 (W8.heap.size) oM)) | ((with_reducible refine (A2'.out _ ?_).mono ?_); (exact bel); (rintro e W18 ⟨r18,rfl,hr18,hb18⟩; obtain ⟨A18,n18,c18,rfl,-,-⟩:=hr18.parts; generalize decide (b + b' < 0) = q18 at *; have kb18:Below W17.heap.size W17 W18:=bel; clear hb18; obtain ⟨hc18,hf18,hz18⟩:=bcells kb18 (W8.heap.size) oM)))))
 go_wp2
 have KB:=bT kb17 kb18
 have B9:=bT B8 KB
 obtain ⟨hc9,hf9,hz9⟩:=bcells KB (W8.heap.size) oM
 have NB:NumBox W18 (w.heap.size + 1 + 1):=NumBox.of hc9 oM (.nil j2_0 j2_1 j2_2 j2_3 j2_4)
 refine bodyPost_ret (v:=.agg #[.slice A17 n17 c17,.bool q17,.slice A18 n18 c18,.bool q18,.slice none 0 0]) (by simp [results,Tryz.results27]; exact run_load5 NB _ _ _ _ _) rfl ?_
 exact RetNum.box B9 oM NB (.mk HL.out (hr17.below kb18) hr18 (IsNat.zero _ _ _)) _ _ _ _ _
theorem addN_s (v u:Value) (x y:Cx) (w:World) (h:IsNum w v x) (h':IsNum w u y) (m n:Nat) (hx:Sz x m) (hy:Sz y n) (hm:m + n + 1 < 549755813888) (hT:Tab w) (h1:x ≠ .zero) (h2:y ≠ .zero) (hd12:¬ ((∀ a b d,Low x a b d -> d = 1) /\ ∀ a b d,Low y a b d -> d = 1)) :
  Calls Tryz.prog 27 #[v,u] w (RetNum w (x.add y)):=by
 have HC1:=hid (fun W (hb:Below w.heap.size w W)=>clear_any _ _ W (h.below hb))
 have HC2:=hid (fun W (hb:Below w.heap.size w W)=>clear_any _ _ W (h'.below hb))
 rw [decide_eq_false h1] at HC1
 rw [decide_eq_false h2] at HC2
 have HDx:=hid (fun W (hb:Below w.heap.size w W)=>denominator_any _ _ W (h.below hb))
 have HDy:=hid (fun W (hb:Below w.heap.size w W)=>denominator_any _ _ W (h'.below hb))
 obtain ⟨A1,n1,c1,p1,A1b,n1b,c1b,p1b,A1c,n1c,c1c,a1,b1,d1,rfl,hl1,hr1,hi1,hs1,hn1,hm1,hd1,hp1,hq1⟩:=h.parts
 obtain ⟨A2,n2,c2,p2,A2b,n2b,c2b,p2b,A2c,n2c,c2c,a2,b2,d2,rfl,hl2,hr2,hi2,hs2,hn2,hm2,hd2,hp2,hq2⟩:=h'.parts
 have s1:=hx _ _ _ hl1
 have s2:=hy _ _ _ hl2
 have hz:¬ (n1c = 0 /\ n2c = 0):=fun e=>by
  have e1:=dn_wl hl1.pos hn1 e.1
  have e2:=dn_wl hl2.pos hn2 e.2
  subst e1 e2
  exact hd12 ⟨fun a b d hl=>(hl.uniq hl1).2.2,fun a b d hl=>(hl.uniq hl2).2.2⟩
 obtain ⟨bz,hz1⟩:∃ bz:Bool,((n1c:Int) == 0) = bz:=⟨_,rfl⟩
 have HZ1:=hid hz1
 have HZ2:Hid (bz = true -> ((n2c:Int) == 0) = false):=hid (fun e=>by
  rw [e] at hz1
  have:n1c = 0:=by simpa using hz1
  have:n2c ≠ 0:=fun e2=>hz ⟨this,e2⟩
  simp [this])
 clear hz hz1 hd12
 have hg0:0 < (Nat.gcd d1 d2):=Nat.gcd_pos_of_pos_left _ hl1.pos
 have k1:=wl_mono (Nat.div_le_self d1 (Nat.gcd d1 d2))
 have k2:=wl_mono (Nat.div_le_self d2 (Nat.gcd d1 d2))
 have k3:=wl_mono (Nat.gcd_le_left d2 hl1.pos)
 have i1:=wl_imul a1 ((d2 / Nat.gcd d1 d2):Nat)
 have i2:=wl_imul a2 ((d1 / Nat.gcd d1 d2):Nat)
 have i3:=wl_imul b1 ((d2 / Nat.gcd d1 d2):Nat)
 have i4:=wl_imul b2 ((d1 / Nat.gcd d1 d2):Nat)
 rw [wl_inat] at i1 i2 i3 i4
 have i5:=wl_iadd (a1 * ((d2 / Nat.gcd d1 d2):Nat)) (a2 * ((d1 / Nat.gcd d1 d2):Nat))
 have i6:=wl_iadd (b1 * ((d2 / Nat.gcd d1 d2):Nat)) (b2 * ((d1 / Nat.gcd d1 d2):Nat))
 have i7:=wl_mul (d1 / Nat.gcd d1 d2) d2
 have ht:=add_terms' hl1 hl2
 have hdd:0 < (d1 / Nat.gcd d1 d2):=Nat.div_pos (Nat.le_of_dvd hl1.pos (Nat.gcd_dvd_left _ _)) hg0
 have HD1:=hid (fun W (hb:Below w.heap.size w W)=>HDx.out W hb a1 b1 d1 hl1)
 have HD2:=hid (fun W (hb:Below w.heap.size w W)=>HDy.out W hb a2 b2 d2 hl2)
 have HG:=hid (fun W v u (hb:Below w.heap.size w W) (hv:IsNat W v d1) (hu:IsNat W u d2)=>gcd_any _ _ _ _ W hv hu oM oM (hT.below hb))
 have HE1:=hid (fun W v u (hb:Below w.heap.size w W) (hv:IsNat W v d1) (hu:IsNat W u (Nat.gcd d1 d2))=>exact_any _ _ _ _ W hv hu hg0 oM oM (hT.below hb))
 have HE2:=hid (fun W v u (hb:Below w.heap.size w W) (hv:IsNat W v d2) (hu:IsNat W u (Nat.gcd d1 d2))=>exact_any _ _ _ _ W hv hu hg0 oM oM (hT.below hb))
 have HS1:=hid (fun W u (hb:Below w.heap.size w W) (hu:IsNat W u (d2 / Nat.gcd d1 d2))=>scaleI_any _ u _ _ W (hr1.below hb) hu oM)
 have HS2:=hid (fun W u (hb:Below w.heap.size w W) (hu:IsNat W u (d1 / Nat.gcd d1 d2))=>scaleI_any _ u _ _ W (hr2.below hb) hu oM)
 have HS3:=hid (fun W u (hb:Below w.heap.size w W) (hu:IsNat W u (d2 / Nat.gcd d1 d2))=>scaleI_any _ u _ _ W (hi1.below hb) hu oM)
 have HS4:=hid (fun W u (hb:Below w.heap.size w W) (hu:IsNat W u (d1 / Nat.gcd d1 d2))=>scaleI_any _ u _ _ W (hi2.below hb) hu oM)
 have HA1:=hid (fun W v u (h1:IsInt W v (a1 * ((d2 / Nat.gcd d1 d2):Nat))) (h2:IsInt W u (a2 * ((d1 / Nat.gcd d1 d2):Nat)))=>addI_any _ _ _ _ W h1 h2 oM oM)
 have HA2:=hid (fun W v u (h1:IsInt W v (b1 * ((d2 / Nat.gcd d1 d2):Nat))) (h2:IsInt W u (b2 * ((d1 / Nat.gcd d1 d2):Nat)))=>addI_any _ _ _ _ W h1 h2 oM oM)
 have HM:=hid (fun W v u (h1:IsNat W v (d1 / Nat.gcd d1 d2)) (h2:IsNat W u d2)=>mul_any _ _ _ _ W h1 h2 oM)
 have HR:=hid (fun W r i s t (hb:Below w.heap.size w W) (h1:IsInt W r (a1 * ((d2 / Nat.gcd d1 d2):Nat) + a2 * ((d1 / Nat.gcd d1 d2):Nat))) (h2:IsInt W i (b1 * ((d2 / Nat.gcd d1 d2):Nat) + b2 * ((d1 / Nat.gcd d1 d2):Nat))) (h3:IsNat W s ((d1 / Nat.gcd d1 d2) * d2)) (h4:IsNat W t (Nat.gcd d1 d2)) =>
  reduced_any r i s t _ _ ((d1 / Nat.gcd d1 d2) * d2) _ _ (x.add y) W h1 h2 h3 h4 (Den.self (Nat.mul_pos hdd hl2.pos)) (fun _=>⟨Nat.dvd_trans (Nat.gcd_dvd_right d1 d2) (Nat.dvd_mul_left _ _),add_common hl1 hl2⟩) ht.1 ht.2 oM oM oM (hT.below hb))
 clear h1 h2 s1 s2 k1 k2 k3 i1 i2 i3 i4 i5 i6 i7 ht hdd hg0 HDx HDy h h' hx hy hm hT hl1 hr1 hi1 hs1 hn1 hm1 hd1 hp1 hq1 hl2 hr2 hi2 hs2 hn2 hm2 hd2 hp2 hq2
 generalize hgg:Nat.gcd d1 d2 = g at *
 generalize hee:(d2 / g) = ee at *
 generalize hdd:(d1 / g) = dd at *
 clear hgg hee hdd
 go_enter Tryz.func27,Tryz.ntmps27
 go_upto_region 1 with fail
 obtain ⟨W1,hW1⟩:∃ W1:World,W1 = ((w.alloc (.cells #[.slice A1 n1 c1,.bool p1,.slice A1b n1b c1b,.bool p1b,.slice A1c n1c c1c] 35)).alloc (.cells #[.slice A2 n2 c2,.bool p2,.slice A2b n2b c2b,.bool p2b,.slice A2c n2c c2c] 35)).alloc (.cells #[.slice none 0 0,.bool false,.slice none 0 0,.bool false,.slice none 0 0] 35):=⟨_,rfl⟩
 rw [<- hW1]
 have B1:Below w.heap.size w W1:=by rw [hW1]; exact bel
 have X:=boxes3 w (.cells #[.slice A1 n1 c1,.bool p1,.slice A1b n1b c1b,.bool p1b,.slice A1c n1c c1c] 35) (.cells #[.slice A2 n2 c2,.bool p2,.slice A2b n2b c2b,.bool p2b,.slice A2c n2c c2c] 35) (.cells #[.slice none 0 0,.bool false,.slice none 0 0,.bool false,.slice none 0 0] 35)
 rw [<- hW1] at X
 obtain ⟨X0,z0,X1,z1,X2,z2⟩:=X
 clear hW1
 have B:=B1
 clear B1
 obtain ⟨f0,f1,f2,f3,f4,-,-,-,-,-⟩:=bx5 X0
 go_wp2_with fail
 refine (HC1.out _ B).mono ?_
 rintro e W2 ⟨rfl,hb2⟩
 clear f0 f1 f2 f3 f4
 replace X0:=(hb2.block _ z0).trans X0
 replace z0:=lL z0 hb2.size
 replace X1:=(hb2.block _ z1).trans X1
 replace z1:=lL z1 hb2.size
 replace X2:=(hb2.block _ z2).trans X2
 replace z2:=lL z2 hb2.size
 replace B:=bT B hb2
 clear hb2
 obtain ⟨f0,f1,f2,f3,f4,-,-,-,-,-⟩:=bx5 X1
 go_wp2_with fail
 refine (HC2.out _ B).mono ?_
 rintro e W3 ⟨rfl,hb3⟩
 clear f0 f1 f2 f3 f4
 replace X0:=(hb3.block _ z0).trans X0
 replace z0:=lL z0 hb3.size
 replace X1:=(hb3.block _ z1).trans X1
 replace z1:=lL z1 hb3.size
 replace X2:=(hb3.block _ z2).trans X2
 replace z2:=lL z2 hb3.size
 replace B:=bT B hb3
 clear hb3
 go_upto_region 5 with fail
 refine region_lin [.val (kIs (.pointer (some ⟨w.heap.size,4,none⟩))),.val (kIs (.slice A1c n1c c1c)),.val (kIs (.int .i64 n1c)),.val (kIs (.bool bz)),.val (kIs (.bool bz)),.val (kIf bz (.pointer (some ⟨w.heap.size + 1,4,none⟩))),.val (kIf bz (.slice A2c n2c c2c)),.val (kIf bz (.int .i64 n2c)),.val (kIf bz (.bool false)),.val (kIs (.bool false)),.val (kIs (.bool false))]
  kR kR kR kR kR ⟨Stab.b (stab_is _),Stab.b (stab_is _),Stab.b (stab_is _),Stab.b (stab_is _),Stab.b (stab_is _),stabB_if _ _,stabB_if _ _,stabB_if _ _,stabB_if _ _,Stab.b (stab_is _),Stab.b (stab_is _),trivial⟩ sP ⟨?_,?_,?_,?_,?_,?_,?_,?_,?_,?_,?_,trivial⟩ ?_
 ·exact obp
 ·intro ts W hb hB hp; have h0:ts 0 = _:=hp 0 kR; intro K hK; simp only [fillT,zA,Nat.reduceAdd,sA,sB,sC,h0] at hK ⊢; have HK:=hid hK; clear hK hp; obtain ⟨f0,f1,f2,f3,f4,-,-,-,-,-⟩:=bx5 ((hb.block _ z0).trans X0); refine ⟨?_⟩; go_simp; exact HK.out _ _ rfl rfB
 ·intro ts W hb hB hp; have h1:ts 1 = _:=hp 1 kR; intro K hK; simp only [fillT,zA,Nat.reduceAdd,sA,sB,sC,h1] at hK ⊢; have HK:=hid hK; clear hK hp; refine ⟨?_⟩; go_simp; exact HK.out _ _ rfl rfB
 ·intro ts W hb hB hp; have h2:ts 2 = _:=hp 2 kR; intro K hK; simp only [fillT,zA,Nat.reduceAdd,sA,sB,sC,h2] at hK ⊢; have HK:=hid hK; clear hK hp; refine ⟨?_⟩; go_simp; exact HK.out _ _ (by simp [kIs,HZ1.out]) rfB
 ·intro ts W hb hB hp; have h3:ts 3 = _:=hp 3 kR; intro K hK; simp only [fillT,zA,Nat.reduceAdd,sA,sB,sC,h3] at hK ⊢; have HK:=hid hK; clear hK hp; refine ⟨?_⟩; go_simp; exact HK.out _ _ rfl rfB
 ·intro ts W hb hB hp; have h4:=hp 4 kR; clear hp; cases bz
  ·exact Guarded.off h4 dE (fun e=>absurd e dE)
  ·refine Guarded.on h4 ?_; intro K hK; simp only [fillT,zA,Nat.reduceAdd,sA,sB,sC] at hK ⊢; have HK:=hid hK; clear hK; refine ⟨?_⟩; go_simp; exact HK.out _ _ (fun _=>rfl) rfB
 ·intro ts W hb hB hp; have h4:=hp 4 kR; have h5:=hp 5 kR; clear hp; cases bz
  ·exact Guarded.off h4 dE (fun e=>absurd e dE)
  ·refine Guarded.on h4 ?_; have e5:=h5 rfl; intro K hK; simp only [fillT,zA,Nat.reduceAdd,sA,sB,sC,e5] at hK ⊢; have HK:=hid hK; clear hK; obtain ⟨f0,f1,f2,f3,f4,-,-,-,-,-⟩:=bx5 ((hb.block _ z1).trans X1); refine ⟨?_⟩; go_simp; exact HK.out _ _ (fun _=>rfl) rfB
 ·intro ts W hb hB hp; have h4:=hp 4 kR; have h6:=hp 6 kR; clear hp; cases bz
  ·exact Guarded.off h4 dE (fun e=>absurd e dE)
  ·refine Guarded.on h4 ?_; have e6:=h6 rfl; intro K hK; simp only [fillT,zA,Nat.reduceAdd,sA,sB,sC,e6] at hK ⊢; have HK:=hid hK; clear hK; refine ⟨?_⟩; go_simp; exact HK.out _ _ (fun _=>rfl) rfB
 ·intro ts W hb hB hp; have h4:=hp 4 kR; have h7:=hp 7 kR; clear hp; cases bz
  ·exact Guarded.off h4 dE (fun e=>absurd e dE)
  ·refine Guarded.on h4 ?_; have e7:=h7 rfl; intro K hK; simp only [fillT,zA,Nat.reduceAdd,sA,sB,sC,e7] at hK ⊢; have HK:=hid hK; clear hK; refine ⟨?_⟩; go_simp; exact HK.out _ _ (fun _=>by simp [HZ2.out]) rfB
 ·intro ts W hb hB hp; have h4:ts 4 = _:=hp 4 kR; have h8:=hp 8 kR; clear hp; intro K hK; cases bz
  ·simp only [fillT,zA,Nat.reduceAdd,sA,sB,sC,h4] at hK ⊢; have HK:=hid hK; clear hK h8; refine ⟨?_⟩; go_simp; exact HK.out _ _ rfl rfB
  ·have e8:=h8 rfl; simp only [fillT,zA,Nat.reduceAdd,sA,sB,sC,h4,e8] at hK ⊢; have HK:=hid hK; clear hK h8; refine ⟨?_⟩; go_simp; exact HK.out _ _ rfl rfB
 ·intro ts W hb hB hp; have h9:ts 9 = _:=hp 9 kR; intro K hK; simp only [fillT,zA,Nat.reduceAdd,sA,sB,sC,h9] at hK ⊢; have HK:=hid hK; clear hK hp; refine ⟨?_⟩; go_simp; exact HK.out _ _ rfl rfB
 intro ts W4 hb4 hh hap
 have e10:=held_is (hh 10 sP) rfl
 simp only [fillT,zA,Nat.reduceAdd,sA,sB,sC,e10]
 clear hh hap e10
 generalize ts 0 = t5_0 at *
 generalize ts 1 = t5_1 at *
 generalize ts 2 = t5_2 at *
 generalize ts 3 = t5_3 at *
 generalize ts 4 = t5_4 at *
 generalize ts 5 = t5_5 at *
 generalize ts 6 = t5_6 at *
 generalize ts 7 = t5_7 at *
 generalize ts 8 = t5_8 at *
 generalize ts 9 = t5_9 at *
 clear ts
 replace X0:=(hb4.block _ z0).trans X0
 replace z0:=lL z0 hb4.size
 replace X1:=(hb4.block _ z1).trans X1
 replace z1:=lL z1 hb4.size
 replace X2:=(hb4.block _ z2).trans X2
 replace z2:=lL z2 hb4.size
 replace B:=bT B hb4
 clear hb4
 go_upto_region 7 with fail
 refine region_lin [.val (kIs (.agg #[.slice A1 n1 c1,.bool p1,.slice A1b n1b c1b,.bool p1b,.slice A1c n1c c1c])),.val (kNat d1),.val (kIs (.agg #[.slice A2 n2 c2,.bool p2,.slice A2b n2b c2b,.bool p2b,.slice A2c n2c c2c])),.val (kNat d2),.val (kNat d1),.val (kNat d2)]
  kR kR kR kR kR ⟨Stab.b (stab_is _),stabB_nat _,Stab.b (stab_is _),stabB_nat _,stabB_nat _,stabB_nat _,trivial⟩ sP ⟨?_,?_,?_,?_,?_,?_,trivial⟩ ?_
 ·intro ts W hb hB hp K hK; simp only [fillT,zA,Nat.reduceAdd,sA,sB,sC] at hK ⊢; have HK:=hid hK; clear hK hp; obtain ⟨f0,f1,f2,f3,f4,-,-,-,-,-⟩:=bx5 ((hb.block _ z0).trans X0); refine ⟨?_⟩; go_simp; exact HK.out _ _ rfl rfB
 ·intro ts W hb hB hp; have h0:ts 0 = _:=hp 0 kR; intro K hK; simp only [fillT,zA,Nat.reduceAdd,sA,sB,sC,h0] at hK ⊢; have HK:=hid hK; clear hK hp; refine ⟨?_⟩; go_simp; refine (HD1.out W (bT B hb)).mono ?_; rintro e W9 ⟨r9,rfl,hr9,hb9⟩; exact HK.out _ _ hr9 hb9
 ·intro ts W hb hB hp K hK; simp only [fillT,zA,Nat.reduceAdd,sA,sB,sC] at hK ⊢; have HK:=hid hK; clear hK hp; obtain ⟨f0,f1,f2,f3,f4,-,-,-,-,-⟩:=bx5 ((hb.block _ z1).trans X1); refine ⟨?_⟩; go_simp; exact HK.out _ _ rfl rfB
 ·intro ts W hb hB hp; have h2:ts 2 = _:=hp 2 kR; intro K hK; simp only [fillT,zA,Nat.reduceAdd,sA,sB,sC,h2] at hK ⊢; have HK:=hid hK; clear hK hp; refine ⟨?_⟩; go_simp; refine (HD2.out W (bT B hb)).mono ?_; rintro e W9 ⟨r9,rfl,hr9,hb9⟩; exact HK.out _ _ hr9 hb9
 ·intro ts W hb hB hp; have h1:=hp 1 kR; intro K hK; simp only [fillT,zA,Nat.reduceAdd,sA,sB,sC] at hK ⊢; have HK:=hid hK; clear hK hp; refine ⟨?_⟩; go_simp; exact HK.out _ _ h1 rfB
 ·intro ts W hb hB hp; have h3:=hp 3 kR; intro K hK; simp only [fillT,zA,Nat.reduceAdd,sA,sB,sC] at hK ⊢; have HK:=hid hK; clear hK hp; refine ⟨?_⟩; go_simp; exact HK.out _ _ h3 rfB
 intro ts W5 hb5 hh hap
 have hD:=held_nat (hh 4 sP) rfl
 have hE:=held_nat (hh 5 sP) rfl
 simp only [fillT,zA,Nat.reduceAdd,sA,sB,sC]
 clear hh hap
 generalize ts 0 = u0_W5 at *
 generalize ts 1 = u1_W5 at *
 generalize ts 2 = u2_W5 at *
 generalize ts 3 = u3_W5 at *
 generalize ts 4 = u4_W5 at *
 generalize ts 5 = u5_W5 at *
 clear ts
 replace X0:=(hb5.block _ z0).trans X0
 replace z0:=lL z0 hb5.size
 replace X1:=(hb5.block _ z1).trans X1
 replace z1:=lL z1 hb5.size
 replace X2:=(hb5.block _ z2).trans X2
 replace z2:=lL z2 hb5.size
 replace B:=bT B hb5
 clear hb5
 obtain ⟨A5,n5,c5,e5,-⟩:=hD.ex
 obtain ⟨A6,n6,c6,e6,-⟩:=hE.ex
 subst e5 e6
 go_wp2_with fail
 refine (HG.out _ _ _ B hD hE).mono ?_
 rintro e W6 ⟨v7,rfl,hG,hb6⟩
 replace hD:=hD.below hb6
 replace hE:=hE.below hb6
 replace X0:=(hb6.block _ z0).trans X0
 replace z0:=lL z0 hb6.size
 replace X1:=(hb6.block _ z1).trans X1
 replace z1:=lL z1 hb6.size
 replace X2:=(hb6.block _ z2).trans X2
 replace z2:=lL z2 hb6.size
 replace B:=bT B hb6
 clear hb6
 obtain ⟨A7,n7,c7,e7,-⟩:=hG.ex
 subst e7
 go_wp2_with fail
 refine (HE1.out _ _ _ B hD hG).mono ?_
 rintro e W7 ⟨v8,rfl,hDD,hb7⟩
 replace hE:=hE.below hb7
 replace hG:=hG.below hb7
 replace X0:=(hb7.block _ z0).trans X0
 replace z0:=lL z0 hb7.size
 replace X1:=(hb7.block _ z1).trans X1
 replace z1:=lL z1 hb7.size
 replace X2:=(hb7.block _ z2).trans X2
 replace z2:=lL z2 hb7.size
 replace B:=bT B hb7
 clear hb7
 obtain ⟨A8,n8,c8,e8,-⟩:=hDD.ex
 subst e8
 go_wp2_with fail
 refine (HE2.out _ _ _ B hE hG).mono ?_
 rintro e W8 ⟨v9,rfl,hEE,hb8⟩
 replace hDD:=hDD.below hb8
 replace hG:=hG.below hb8
 clear hD hE
 replace X0:=(hb8.block _ z0).trans X0
 replace z0:=lL z0 hb8.size
 replace X1:=(hb8.block _ z1).trans X1
 replace z1:=lL z1 hb8.size
 replace X2:=(hb8.block _ z2).trans X2
 replace z2:=lL z2 hb8.size
 replace B:=bT B hb8
 clear hb8
 obtain ⟨A9,n9,c9,e9,-⟩:=hEE.ex
 subst e9
 go_upto_region 10 with fail
 refine region_lin [.val (kIs (.pointer (some ⟨w.heap.size,0,none⟩))),.val (kIs (.agg #[.slice A1 n1 c1,.bool p1])),.val (kIs (.slice A9 n9 c9)),.val (kInt (a1 * (ee:Nat))),.val (kIs (.pointer (some ⟨w.heap.size + 1,0,none⟩))),.val (kIs (.agg #[.slice A2 n2 c2,.bool p2])),.val (kIs (.slice A8 n8 c8)),.val (kInt (a2 * (dd:Nat))),.val (kInt (a1 * (ee:Nat) + a2 * (dd:Nat))),.box 33 zInt,.put 9 8]
  kR kR kR kR kR ⟨stab_is _,stab_is _,stab_is _,stab_int _,stab_is _,stab_is _,stab_is _,stab_int _,stab_int _,trivial⟩ sP ⟨?_,?_,?_,?_,?_,?_,?_,?_,?_,alloc_int,store_int _,trivial⟩ ?_
 ·exact obp
 ·intro ts W hb hB hp; have h0:ts 0 = _:=hp 0 kR; intro K hK; simp only [fillT,zA,Nat.reduceAdd,sA,sB,sC,h0] at hK ⊢; have HK:=hid hK; clear hK hp; obtain ⟨f0,f1,f2,f3,f4,-,-,-,-,-⟩:=bx5 ((hb.block _ z0).trans X0); refine ⟨?_⟩; go_simp; exact HK.out _ _ rfl rfB
 ·exact obp
 ·intro ts W hb hB hp; have h1:ts 1 = _:=hp 1 kR; have h2:ts 2 = _:=hp 2 kR; intro K hK; simp only [fillT,zA,Nat.reduceAdd,sA,sB,sC,h1,h2] at hK ⊢; have HK:=hid hK; clear hK hp; refine ⟨?_⟩; go_simp; refine (HS1.out W _ (bT B hb) (hEE.below hb)).mono ?_; rintro e W9 ⟨r9,rfl,hr9,hb9⟩; exact HK.out _ _ hr9 hb9
 ·exact obp
 ·intro ts W hb hB hp; have h4:ts 4 = _:=hp 4 kR; intro K hK; simp only [fillT,zA,Nat.reduceAdd,sA,sB,sC,h4] at hK ⊢; have HK:=hid hK; clear hK hp; obtain ⟨f0,f1,f2,f3,f4,-,-,-,-,-⟩:=bx5 ((hb.block _ z1).trans X1); refine ⟨?_⟩; go_simp; exact HK.out _ _ rfl rfB
 ·exact obp
 ·intro ts W hb hB hp; have h5:ts 5 = _:=hp 5 kR; have h6:ts 6 = _:=hp 6 kR; intro K hK; simp only [fillT,zA,Nat.reduceAdd,sA,sB,sC,h5,h6] at hK ⊢; have HK:=hid hK; clear hK hp; refine ⟨?_⟩; go_simp; refine (HS2.out W _ (bT B hb) (hDD.below hb)).mono ?_; rintro e W9 ⟨r9,rfl,hr9,hb9⟩; exact HK.out _ _ hr9 hb9
 ·intro ts W hb hB hp; have h3:=hp 3 kR; have h7:=hp 7 kR; intro K hK; simp only [fillT,zA,Nat.reduceAdd,sA,sB,sC] at hK ⊢; have HK:=hid hK; clear hK hp; refine ⟨?_⟩; go_simp; refine (HA1.out W _ _ h3 h7).mono ?_; rintro e W9 ⟨r9,rfl,hr9,hb9⟩; exact HK.out _ _ hr9 hb9
 intro ts W9 hb9 hh hap
 obtain ⟨g10,A10,n10,c10,q10,e10,lo10,z10,X10,H10⟩:=held_boxI' (z:=a1 * (ee:Nat) + a2 * (dd:Nat)) (hh 9 sP) rfl (hh 10 sP) rfl (hh 8 sP) rfl
 simp only [fillT,zA,Nat.reduceAdd,sA,sB,sC,e10]
 clear hh hap e10
 generalize ts 0 = u0_W9 at *
 generalize ts 1 = u1_W9 at *
 generalize ts 2 = u2_W9 at *
 generalize ts 3 = u3_W9 at *
 generalize ts 4 = u4_W9 at *
 generalize ts 5 = u5_W9 at *
 generalize ts 6 = u6_W9 at *
 generalize ts 7 = u7_W9 at *
 generalize ts 8 = u8_W9 at *
 clear ts
 replace hDD:=hDD.below hb9
 replace hEE:=hEE.below hb9
 replace hG:=hG.below hb9
 replace X0:=(hb9.block _ z0).trans X0
 replace z0:=lL z0 hb9.size
 replace X1:=(hb9.block _ z1).trans X1
 replace z1:=lL z1 hb9.size
 replace X2:=(hb9.block _ z2).trans X2
 replace z2:=lL z2 hb9.size
 replace B:=bT B hb9
 clear hb9
 go_upto_region 11 with fail
 refine region_lin [.val (kIs (.pointer (some ⟨w.heap.size,2,none⟩))),.val (kIs (.agg #[.slice A1b n1b c1b,.bool p1b])),.val (kIs (.slice A9 n9 c9)),.val (kInt (b1 * (ee:Nat))),.val (kIs (.pointer (some ⟨w.heap.size + 1,2,none⟩))),.val (kIs (.agg #[.slice A2b n2b c2b,.bool p2b])),.val (kIs (.slice A8 n8 c8)),.val (kInt (b2 * (dd:Nat))),.val (kInt (b1 * (ee:Nat) + b2 * (dd:Nat))),.box 33 zInt,.put 9 8]
  kR kR kR kR kR ⟨stab_is _,stab_is _,stab_is _,stab_int _,stab_is _,stab_is _,stab_is _,stab_int _,stab_int _,trivial⟩ sP ⟨?_,?_,?_,?_,?_,?_,?_,?_,?_,alloc_int,store_int _,trivial⟩ ?_
 ·exact obp
 ·intro ts W hb hB hp; have h0:ts 0 = _:=hp 0 kR; intro K hK; simp only [fillT,zA,Nat.reduceAdd,sA,sB,sC,h0] at hK ⊢; have HK:=hid hK; clear hK hp; obtain ⟨f0,f1,f2,f3,f4,-,-,-,-,-⟩:=bx5 ((hb.block _ z0).trans X0); refine ⟨?_⟩; go_simp; exact HK.out _ _ rfl rfB
 ·exact obp
 ·intro ts W hb hB hp; have h1:ts 1 = _:=hp 1 kR; have h2:ts 2 = _:=hp 2 kR; intro K hK; simp only [fillT,zA,Nat.reduceAdd,sA,sB,sC,h1,h2] at hK ⊢; have HK:=hid hK; clear hK hp; refine ⟨?_⟩; go_simp; refine (HS3.out W _ (bT B hb) (hEE.below hb)).mono ?_; rintro e W9 ⟨r9,rfl,hr9,hb9⟩; exact HK.out _ _ hr9 hb9
 ·exact obp
 ·intro ts W hb hB hp; have h4:ts 4 = _:=hp 4 kR; intro K hK; simp only [fillT,zA,Nat.reduceAdd,sA,sB,sC,h4] at hK ⊢; have HK:=hid hK; clear hK hp; obtain ⟨f0,f1,f2,f3,f4,-,-,-,-,-⟩:=bx5 ((hb.block _ z1).trans X1); refine ⟨?_⟩; go_simp; exact HK.out _ _ rfl rfB
 ·exact obp
 ·intro ts W hb hB hp; have h5:ts 5 = _:=hp 5 kR; have h6:ts 6 = _:=hp 6 kR; intro K hK; simp only [fillT,zA,Nat.reduceAdd,sA,sB,sC,h5,h6] at hK ⊢; have HK:=hid hK; clear hK hp; refine ⟨?_⟩; go_simp; refine (HS4.out W _ (bT B hb) (hDD.below hb)).mono ?_; rintro e W9 ⟨r9,rfl,hr9,hb9⟩; exact HK.out _ _ hr9 hb9
 ·intro ts W hb hB hp; have h3:=hp 3 kR; have h7:=hp 7 kR; intro K hK; simp only [fillT,zA,Nat.reduceAdd,sA,sB,sC] at hK ⊢; have HK:=hid hK; clear hK hp; refine ⟨?_⟩; go_simp; refine (HA2.out W _ _ h3 h7).mono ?_; rintro e W9 ⟨r9,rfl,hr9,hb9⟩; exact HK.out _ _ hr9 hb9
 intro ts W10 hb10 hh hap
 obtain ⟨g11,A11,n11,c11,q11,e11,lo11,z11,X11,H11⟩:=held_boxI' (z:=b1 * (ee:Nat) + b2 * (dd:Nat)) (hh 9 sP) rfl (hh 10 sP) rfl (hh 8 sP) rfl
 simp only [fillT,zA,Nat.reduceAdd,sA,sB,sC,e11]
 clear hh hap e11
 generalize ts 0 = u0_W10 at *
 generalize ts 1 = u1_W10 at *
 generalize ts 2 = u2_W10 at *
 generalize ts 3 = u3_W10 at *
 generalize ts 4 = u4_W10 at *
 generalize ts 5 = u5_W10 at *
 generalize ts 6 = u6_W10 at *
 generalize ts 7 = u7_W10 at *
 generalize ts 8 = u8_W10 at *
 clear ts
 replace hDD:=hDD.below hb10
 replace hEE:=hEE.below hb10
 replace hG:=hG.below hb10
 replace X0:=(hb10.block _ z0).trans X0
 replace z0:=lL z0 hb10.size
 replace X1:=(hb10.block _ z1).trans X1
 replace z1:=lL z1 hb10.size
 replace X2:=(hb10.block _ z2).trans X2
 replace z2:=lL z2 hb10.size
 replace X10:=(hb10.block _ z10).trans X10
 replace z10:=lL z10 hb10.size
 replace H10:=H10.below hb10
 replace B:=bT B hb10
 clear hb10
 go_upto_region 12 with fail
 refine region_last [.val (kIs (.agg #[.slice A10 n10 c10,.bool q10])),.val (kIs (.agg #[.slice A11 n11 c11,.bool q11])),.val (kIs (.slice A8 n8 c8)),.val (kIs (.agg #[.slice A2 n2 c2,.bool p2,.slice A2b n2b c2b,.bool p2b,.slice A2c n2c c2c])),.val (kNat d2),.val (kNat (dd * d2)),.val (kIs (.slice A7 n7 c7)),.val (kNum (x.add y))]
  kR kR kR kR kR ⟨Stab.b (stab_is _),Stab.b (stab_is _),Stab.b (stab_is _),Stab.b (stab_is _),stabB_nat _,stabB_nat _,Stab.b (stab_is _),stabB_num _,trivial⟩ sP (ol:=_) rfl kR ⟨?_,?_,?_,?_,?_,?_,?_,?_,trivial⟩ ?_
 ·intro ts W hb hB hp K hK; simp only [fillT,zA,Nat.reduceAdd,sA,sB,sC] at hK ⊢; have HK:=hid hK; clear hK hp; obtain ⟨f0,f1,-,-⟩:=bx2 ((hb.block _ z10).trans X10); refine ⟨?_⟩; go_simp; exact HK.out _ _ rfl rfB
 ·intro ts W hb hB hp K hK; simp only [fillT,zA,Nat.reduceAdd,sA,sB,sC] at hK ⊢; have HK:=hid hK; clear hK hp; obtain ⟨f0,f1,-,-⟩:=bx2 ((hb.block _ z11).trans X11); refine ⟨?_⟩; go_simp; exact HK.out _ _ rfl rfB
 ·exact obp
 ·intro ts W hb hB hp K hK; simp only [fillT,zA,Nat.reduceAdd,sA,sB,sC] at hK ⊢; have HK:=hid hK; clear hK hp; obtain ⟨f0,f1,f2,f3,f4,-,-,-,-,-⟩:=bx5 ((hb.block _ z1).trans X1); refine ⟨?_⟩; go_simp; exact HK.out _ _ rfl rfB
 ·intro ts W hb hB hp; have h3:ts 3 = _:=hp 3 kR; intro K hK; simp only [fillT,zA,Nat.reduceAdd,sA,sB,sC,h3] at hK ⊢; have HK:=hid hK; clear hK hp; refine ⟨?_⟩; go_simp; refine (HD2.out W (bT B hb)).mono ?_; rintro e W9 ⟨r9,rfl,hr9,hb9⟩; exact HK.out _ _ hr9 hb9
 ·intro ts W hb hB hp; have h2:ts 2 = _:=hp 2 kR; have h4:=hp 4 kR; intro K hK; simp only [fillT,zA,Nat.reduceAdd,sA,sB,sC,h2] at hK ⊢; have HK:=hid hK; clear hK hp; refine ⟨?_⟩; go_simp; refine (HM.out W _ _ (hDD.below hb) h4).mono ?_; rintro e W9 ⟨r9,rfl,hr9,hb9⟩; exact HK.out _ _ hr9 hb9
 ·exact obp
 ·intro ts W hb hB hp; have h0:ts 0 = _:=hp 0 kR; have h1:ts 1 = _:=hp 1 kR; have h5:=hp 5 kR; have h6:ts 6 = _:=hp 6 kR; intro K hK; simp only [fillT,zA,Nat.reduceAdd,sA,sB,sC,h0,h1,h6] at hK ⊢; have HK:=hid hK; clear hK hp; refine ⟨?_⟩; go_simp; refine (HR.out W _ _ _ _ (bT B hb) (H10.below hb) (H11.below hb) h5 (hG.below hb)).mono ?_; rintro e W9 ⟨r9,rfl,hr9,hb9⟩; exact HK.out _ _ hr9 hb9
 intro ts W11 hb11 hh hap K hK
 have hq:IsNum W11 (ts 7) (x.add y):=hh 7 sP
 obtain ⟨A9,n9,c9,p9,A9b,n9b,c9b,p9b,A9c,n9c,c9c,qa,qb,qd,hqe,-⟩:=hq.parts
 have Y0:=(hb11.block (w.heap.size + 2) oM).trans X2
 have HK:=hid hK
 clear hK
 simp only [fillT,zA,Nat.reduceAdd,sA,sB,sC,hqe]
 rw [hqe] at hq
 clear hh hap hqe
 refine ⟨?_⟩
 refine wp_store_row _ _ _ rfl (w.heap.size + 2) _ rfl rfl _ _ Y0 kR rfl (by simp [Value.oneCell']) (HK.out _ _ ?_)
 have hput:=putAt_setRow (cs:=#[.slice A9 n9 c9,.bool p9,.slice A9b n9b c9b,.bool p9b,.slice A9c n9c c9c]) Y0
 have hext:=hput.ext Y0 dE
 have B2:=hput.below (bT B hb11) oM
 generalize W11.setRow (w.heap.size + 2) #[.slice A9 n9 c9,.bool p9,.slice A9b n9b c9b,.bool p9b,.slice A9c n9c c9c] = W12 at *
 have h5:=hq.ext hext
 obtain ⟨f0,f1,f2,f3,f4,y0,y1,y2,y3,y4⟩:=bx5 hput.here
 clear hput hext hq Y0 HK
 go_wp2
 refine bodyPost_ret (v:=.agg #[.slice A9 n9 c9,.bool p9,.slice A9b n9b c9b,.bool p9b,.slice A9c n9c c9c]) (by simp [results,Tryz.results27,go_sem,f0,f1,f2,f3,f4]) rfl ?_
 exact ⟨_,rfl,h5,B2⟩
theorem addN_any (v u:Value) (x y:Cx) (w:World) (h:IsNum w v x) (h':IsNum w u y) (m n:Nat) (hx:Sz x m) (hy:Sz y n) (hm:m + n + 1 < 549755813888) (hT:Tab w) :
  Calls Tryz.prog 27 #[v,u] w (RetNum w (x.add y)):=by
 by_cases h1:x = .zero
 ·exact addN_0x v u x y w h h' m n hx hy hm hT h1
 ·by_cases h2:y = .zero
  ·exact addN_0y v u x y w h h' m n hx hy hm hT h1 h2
  ·by_cases hd:(∀ a b d,Low x a b d -> d = 1) /\ ∀ a b d,Low y a b d -> d = 1
   ·exact addN_ww v u x y w h h' m n hx hy hm hT h1 h2 hd.1 hd.2
   ·exact addN_s v u x y w h h' m n hx hy hm hT h1 h2 hd
end Go.Proofs.YtffegeaflohfhaaGreatDoor
