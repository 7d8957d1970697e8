import Derived.Test.YtjodlmanheeajaaGreatDoorR01
import Derived.Test.YtjodlmanheeajaaGreatDoorR16
import Derived.Test.YtjodlmanheeajaaGreatDoorR17
import Derived.Test.YtjodlmanheeajaaGreatDoorR02
set_option linter.unusedVariables false
set_option linter.unusedSimpArgs false
set_option maxRecDepth 100000
set_option maxHeartbeats 8000000
namespace Go.Proofs.YtjodlmanheeajaaGreatDoor
open Go.RowKit
theorem divN_0 (v u:Value) (x y:Cx) (w:World) (h:IsNum w v x) (h':IsNum w u y) (m n:Nat) (hx:Sz x m) (hy:Sz y n) (hm:m + 4 * n + 4 < 549755813888) (hT:Tab w) (h0:y = .zero) :
  Calls Tryz.prog 209 #[v,u] w (RetNumE w .zero 3):=by
 have HX:=hid (fun W (hb:Below w.heap.size w W)=>h.below hb)
 have HY:=hid (fun W (hb:Below w.heap.size w W)=>h'.below hb)
 have c1:=fun W (hb:Below w.heap.size w W)=>clear_any _ _ W (h'.below hb)
 have c2:=fun W (hb:Below w.heap.size w W)=>real_any _ _ W (h'.below hb)
 have HDx:=hid (fun W (hb:Below w.heap.size w W)=>denominator_any _ _ W (h.below hb))
 have HDy:=hid (fun W (hb:Below w.heap.size w W)=>denominator_any _ _ W (h'.below hb))
 rw [decide_eq_true h0] at c1
 have HC1:=hid c1
 obtain ⟨A1,n1,c1,p1,A2,n2,c2,p2,A3,n3,c3,a,b,d,rfl,hl,hr,hi,hs,hn3,-,-,-,-⟩:=h.parts
 obtain ⟨A4,n4,c4,p4,A5,n5,c5,p5,A6,n6,c6,a',b',d',rfl,hl',hr',hi',hs',hn6,hq4,-,hra',-⟩:=h'.parts
 clear c1 c2 h0 h h' hx hy hm hT hl hr hi hs hn3 hl' hr' hi' hs' hn6 hq4 hra'
 go_enter Tryz.func209,Tryz.ntmps209
 go_upto_region 1 with fail
 obtain ⟨W1,hW1⟩:∃ W1:World,W1 = (((w.alloc (.cells #[.slice A1 n1 c1,.bool p1,.slice A2 n2 c2,.bool p2,.slice A3 n3 c3] 49)).alloc (.cells #[.slice A4 n4 c4,.bool p4,.slice A5 n5 c5,.bool p5,.slice A6 n6 c6] 49)).alloc (.cells #[.slice none 0 0,.bool false,.slice none 0 0,.bool false,.slice none 0 0] 49)):=⟨_,rfl⟩
 rw [<- hW1]
 have B1:Below w.heap.size w W1:=by rw [hW1]; exact bel
 have hz1:w.heap.size + 3 <= W1.heap.size:=by rw [hW1]; simp
 obtain ⟨f0_0,f0_1,f0_2,f0_3,f0_4,yf0_0,yf0_1,yf0_2,yf0_3,yf0_4⟩:Bx5 W1 (w.heap.size) (.slice A1 n1 c1) (.bool p1) (.slice A2 n2 c2) (.bool p2) (.slice A3 n3 c3):=by rw [hW1]; simp [Bx5,go_sem]
 obtain ⟨f1_0,f1_1,f1_2,f1_3,f1_4,yf1_0,yf1_1,yf1_2,yf1_3,yf1_4⟩:Bx5 W1 (w.heap.size + 1) (.slice A4 n4 c4) (.bool p4) (.slice A5 n5 c5) (.bool p5) (.slice A6 n6 c6):=by rw [hW1]; simp [Bx5,go_sem]
 obtain ⟨f2_0,f2_1,f2_2,f2_3,f2_4,yf2_0,yf2_1,yf2_2,yf2_3,yf2_4⟩:Bx5 W1 (w.heap.size + 1 + 1) (.slice none 0 0) (.bool false) (.slice none 0 0) (.bool false) (.slice none 0 0):=by rw [hW1]; simp [Bx5,go_sem]
 clear hW1
 go_wp2_with fail
 refine (HC1.out _ B1).mono ?_
 rintro e W7 ⟨rfl,hb7⟩
 have B7:=bT B1 hb7
 have hK7:=(Kept.refl W1 lR).below hb7
 have hz7:W1.heap.size <= W7.heap.size:=hK7.2.2.1
 obtain ⟨g0_0,g0_1,g0_2,g0_3,g0_4,yg0_0,yg0_1,yg0_2,yg0_3,yg0_4⟩:=hK7.k5 (b:=w.heap.size) oM f0_0 f0_1 f0_2 f0_3 f0_4 yf0_0 yf0_1 yf0_2 yf0_3 yf0_4
 obtain ⟨g1_0,g1_1,g1_2,g1_3,g1_4,yg1_0,yg1_1,yg1_2,yg1_3,yg1_4⟩:=hK7.k5 (b:=w.heap.size + 1) oM f1_0 f1_1 f1_2 f1_3 f1_4 yf1_0 yf1_1 yf1_2 yf1_3 yf1_4
 obtain ⟨g2_0,g2_1,g2_2,g2_3,g2_4,yg2_0,yg2_1,yg2_2,yg2_3,yg2_4⟩:=hK7.k5 (b:=w.heap.size + 1 + 1) oM f2_0 f2_1 f2_2 f2_3 f2_4 yf2_0 yf2_1 yf2_2 yf2_3 yf2_4
 clear hK7 f0_0 yf0_0 f0_1 yf0_1 f0_2 yf0_2 f0_3 yf0_3 f0_4 yf0_4 f1_0 yf1_0 f1_1 yf1_1 f1_2 yf1_2 f1_3 yf1_3 f1_4 yf1_4 f2_0 yf2_0 f2_1 yf2_1 f2_2 yf2_2 f2_3 yf2_3 f2_4 yf2_4
 have nr_0:w.heap.size + 1 + 1 ≠ w.heap.size:=oM
 have mr_0:w.heap.size ≠ w.heap.size + 1 + 1:=oM
 have nr_1:w.heap.size + 1 + 1 ≠ w.heap.size + 1:=oM
 have mr_1:w.heap.size + 1 ≠ w.heap.size + 1 + 1:=oM
 go_wp2
 have NB:NumBox W7 (w.heap.size + 1 + 1):=.nil g2_0 g2_1 g2_2 g2_3 g2_4
 refine bodyPost_ret (v:=.tuple #[.agg #[.slice none 0 0,.bool false,.slice none 0 0,.bool false,.slice none 0 0],.int .i64 3]) (by simp [results,Tryz.results209]; exact run_load5e NB _ _ _ _ _ _) rfl ?_
 exact RetNumE.box B7 oM NB (.mk Low.zero (IsInt.zero _ _ _) (IsInt.zero _ _ _) (IsNat.zero _ _ _)) _ _ _ _ _
theorem divN_r (v u:Value) (x y:Cx) (w:World) (h:IsNum w v x) (h':IsNum w u y) (m n:Nat) (hx:Sz x m) (hy:Sz y n) (hm:m + 4 * n + 4 < 549755813888) (hT:Tab w) (h0:y ≠ .zero) (h1:y.im = 0) :
  Calls Tryz.prog 209 #[v,u] w (RetNumE w (x.div y) 0):=by
 have HX:=hid (fun W (hb:Below w.heap.size w W)=>h.below hb)
 have HY:=hid (fun W (hb:Below w.heap.size w W)=>h'.below hb)
 have c1:=fun W (hb:Below w.heap.size w W)=>clear_any _ _ W (h'.below hb)
 have c2:=fun W (hb:Below w.heap.size w W)=>real_any _ _ W (h'.below hb)
 have HDx:=hid (fun W (hb:Below w.heap.size w W)=>denominator_any _ _ W (h.below hb))
 have HDy:=hid (fun W (hb:Below w.heap.size w W)=>denominator_any _ _ W (h'.below hb))
 rw [decide_eq_false h0] at c1
 rw [decide_eq_true h1] at c2
 have HC1:=hid c1
 have HC2:=hid c2
 obtain ⟨A1,n1,c1,p1,A2,n2,c2,p2,A3,n3,c3,a,b,d,rfl,hl,hr,hi,hs,hn3,-,-,-,-⟩:=h.parts
 obtain ⟨A4,n4,c4,p4,A5,n5,c5,p5,A6,n6,c6,a',b',d',rfl,hl',hr',hi',hs',hn6,hq4,-,hra',-⟩:=h'.parts
 have s1:=hx _ _ _ hl
 have s2:=hy _ _ _ hl'
 have hz:a' ≠ 0:=fun e=>h0 (hl'.clear.2 ⟨e,(im_zero hl').1 h1⟩)
 have ht:=div_terms_r hl hl' h0 h1 p4 hq4
 have z1:(if p4 then -a else a).natAbs = a.natAbs:=by split <;> simp
 have z2:(if p4 then -b else b).natAbs = b.natAbs:=by split <;> simp
 have k1:=wl_imul (if p4 then -a else a) d'
 have k2:=wl_imul (if p4 then -b else b) d'
 have k3:=wl_mul d a'.natAbs
 rw [wl_inat] at k1 k2
 rw [z1] at k1
 rw [z2] at k2
 have HD1:=hid (fun W (hb:Below w.heap.size w W)=>HDx.out W hb a b d hl)
 have HD2:=hid (fun W (hb:Below w.heap.size w W)=>HDy.out W hb a' b' d' hl')
 have HS1:=hid (fun W (hb:Below w.heap.size w W)=>signed_any _ a p4 W (hr.below hb))
 have HS2:=hid (fun W (hb:Below w.heap.size w W)=>signed_any _ b p4 W (hi.below hb))
 have HSA:=hid (fun W v u (h1:IsInt W v (if p4 then -a else a)) (h2:IsNat W u d')=>scaleI_any v u _ _ W h1 h2 (by rw [z1]; omega))
 have HSB:=hid (fun W v u (h1:IsInt W v (if p4 then -b else b)) (h2:IsNat W u d')=>scaleI_any v u _ _ W h1 h2 (by rw [z2]; omega))
 have HM:=hid (fun W v (hb:Below w.heap.size w W) (h1:IsNat W v d)=>mul_any v _ d _ W h1 (hra'.below hb) oM)
 have HLo:=hid (fun W v u t (hb:Below w.heap.size w W) (h1:IsInt W v ((if p4 then -a else a) * (d':Int))) (h2:IsInt W u ((if p4 then -b else b) * (d':Int))) (h3:IsNat W t (d * a'.natAbs))=>lowest_any v u t _ _ (d * a'.natAbs) _ (x.div y) W h1 h2 h3 (Den.self (Nat.mul_pos hl.pos oM)) ht.1 ht.2 oM oM oM (hT.below hb))
 clear c1 c2 h0 h1 hz ht z1 z2 k1 k2 k3 s1 s2 HDx HDy h h' hx hy hm hT hl hr hi hs hn3 hl' hr' hi' hs' hn6 hq4 hra'
 go_enter Tryz.func209,Tryz.ntmps209
 go_upto_region 1 with fail
 obtain ⟨W1,hW1⟩:∃ W1:World,W1 = (((w.alloc (.cells #[.slice A1 n1 c1,.bool p1,.slice A2 n2 c2,.bool p2,.slice A3 n3 c3] 49)).alloc (.cells #[.slice A4 n4 c4,.bool p4,.slice A5 n5 c5,.bool p5,.slice A6 n6 c6] 49)).alloc (.cells #[.slice none 0 0,.bool false,.slice none 0 0,.bool false,.slice none 0 0] 49)):=⟨_,rfl⟩
 rw [<- hW1]
 have B1:Below w.heap.size w W1:=by rw [hW1]; exact bel
 have hz1:w.heap.size + 3 <= W1.heap.size:=by rw [hW1]; simp
 obtain ⟨f0_0,f0_1,f0_2,f0_3,f0_4,yf0_0,yf0_1,yf0_2,yf0_3,yf0_4⟩:Bx5 W1 (w.heap.size) (.slice A1 n1 c1) (.bool p1) (.slice A2 n2 c2) (.bool p2) (.slice A3 n3 c3):=by rw [hW1]; simp [Bx5,go_sem]
 obtain ⟨f1_0,f1_1,f1_2,f1_3,f1_4,yf1_0,yf1_1,yf1_2,yf1_3,yf1_4⟩:Bx5 W1 (w.heap.size + 1) (.slice A4 n4 c4) (.bool p4) (.slice A5 n5 c5) (.bool p5) (.slice A6 n6 c6):=by rw [hW1]; simp [Bx5,go_sem]
 obtain ⟨f2_0,f2_1,f2_2,f2_3,f2_4,yf2_0,yf2_1,yf2_2,yf2_3,yf2_4⟩:Bx5 W1 (w.heap.size + 1 + 1) (.slice none 0 0) (.bool false) (.slice none 0 0) (.bool false) (.slice none 0 0):=by rw [hW1]; simp [Bx5,go_sem]
 clear hW1
 go_wp2_with fail
 refine (HC1.out _ B1).mono ?_
 rintro e W7 ⟨rfl,hb7⟩
 have B7:=bT B1 hb7
 have hK7:=(Kept.refl W1 lR).below hb7
 have hz7:W1.heap.size <= W7.heap.size:=hK7.2.2.1
 obtain ⟨g0_0,g0_1,g0_2,g0_3,g0_4,yg0_0,yg0_1,yg0_2,yg0_3,yg0_4⟩:=hK7.k5 (b:=w.heap.size) oM f0_0 f0_1 f0_2 f0_3 f0_4 yf0_0 yf0_1 yf0_2 yf0_3 yf0_4
 obtain ⟨g1_0,g1_1,g1_2,g1_3,g1_4,yg1_0,yg1_1,yg1_2,yg1_3,yg1_4⟩:=hK7.k5 (b:=w.heap.size + 1) oM f1_0 f1_1 f1_2 f1_3 f1_4 yf1_0 yf1_1 yf1_2 yf1_3 yf1_4
 obtain ⟨g2_0,g2_1,g2_2,g2_3,g2_4,yg2_0,yg2_1,yg2_2,yg2_3,yg2_4⟩:=hK7.k5 (b:=w.heap.size + 1 + 1) oM f2_0 f2_1 f2_2 f2_3 f2_4 yf2_0 yf2_1 yf2_2 yf2_3 yf2_4
 clear hK7 f0_0 yf0_0 f0_1 yf0_1 f0_2 yf0_2 f0_3 yf0_3 f0_4 yf0_4 f1_0 yf1_0 f1_1 yf1_1 f1_2 yf1_2 f1_3 yf1_3 f1_4 yf1_4 f2_0 yf2_0 f2_1 yf2_1 f2_2 yf2_2 f2_3 yf2_3 f2_4 yf2_4
 go_wp2_with fail
 refine (HC2.out _ B7).mono ?_
 rintro e W8 ⟨rfl,hb8⟩
 have B8:=bT B7 hb8
 have hK8:=(Kept.refl W7 lR).below hb8
 have hz8:W7.heap.size <= W8.heap.size:=hK8.2.2.1
 obtain ⟨j0_0,j0_1,j0_2,j0_3,j0_4,yj0_0,yj0_1,yj0_2,yj0_3,yj0_4⟩:=hK8.k5 (b:=w.heap.size) oM g0_0 g0_1 g0_2 g0_3 g0_4 yg0_0 yg0_1 yg0_2 yg0_3 yg0_4
 obtain ⟨j1_0,j1_1,j1_2,j1_3,j1_4,yj1_0,yj1_1,yj1_2,yj1_3,yj1_4⟩:=hK8.k5 (b:=w.heap.size + 1) oM g1_0 g1_1 g1_2 g1_3 g1_4 yg1_0 yg1_1 yg1_2 yg1_3 yg1_4
 obtain ⟨j2_0,j2_1,j2_2,j2_3,j2_4,yj2_0,yj2_1,yj2_2,yj2_3,yj2_4⟩:=hK8.k5 (b:=w.heap.size + 1 + 1) oM g2_0 g2_1 g2_2 g2_3 g2_4 yg2_0 yg2_1 yg2_2 yg2_3 yg2_4
 clear hK8 g0_0 yg0_0 g0_1 yg0_1 g0_2 yg0_2 g0_3 yg0_3 g0_4 yg0_4 g1_0 yg1_0 g1_1 yg1_1 g1_2 yg1_2 g1_3 yg1_3 g1_4 yg1_4 g2_0 yg2_0 g2_1 yg2_1 g2_2 yg2_2 g2_3 yg2_3 g2_4 yg2_4
 go_wp2_with fail
 refine (HD2.out _ B8).mono ?_
 rintro e W9 ⟨r9,rfl,hr9,hb9⟩
 obtain ⟨A9,n9,c9,rfl,hnn9⟩:=hr9.ex
 clear hnn9
 have B9:=bT B8 hb9
 have hK9:=(Kept.refl W8 lR).below hb9
 have hz9:W8.heap.size <= W9.heap.size:=hK9.2.2.1
 obtain ⟨k0_0,k0_1,k0_2,k0_3,k0_4,yk0_0,yk0_1,yk0_2,yk0_3,yk0_4⟩:=hK9.k5 (b:=w.heap.size) oM j0_0 j0_1 j0_2 j0_3 j0_4 yj0_0 yj0_1 yj0_2 yj0_3 yj0_4
 obtain ⟨k1_0,k1_1,k1_2,k1_3,k1_4,yk1_0,yk1_1,yk1_2,yk1_3,yk1_4⟩:=hK9.k5 (b:=w.heap.size + 1) oM j1_0 j1_1 j1_2 j1_3 j1_4 yj1_0 yj1_1 yj1_2 yj1_3 yj1_4
 obtain ⟨k2_0,k2_1,k2_2,k2_3,k2_4,yk2_0,yk2_1,yk2_2,yk2_3,yk2_4⟩:=hK9.k5 (b:=w.heap.size + 1 + 1) oM j2_0 j2_1 j2_2 j2_3 j2_4 yj2_0 yj2_1 yj2_2 yj2_3 yj2_4
 clear hK9 j0_0 yj0_0 j0_1 yj0_1 j0_2 yj0_2 j0_3 yj0_3 j0_4 yj0_4 j1_0 yj1_0 j1_1 yj1_1 j1_2 yj1_2 j1_3 yj1_3 j1_4 yj1_4 j2_0 yj2_0 j2_1 yj2_1 j2_2 yj2_2 j2_3 yj2_3 j2_4 yj2_4
 have lt9_0:w.heap.size < W9.heap.size:=oM
 have lt9_1:w.heap.size + 1 < W9.heap.size:=oM
 have lt9_2:w.heap.size + 1 + 1 < W9.heap.size:=oM
 have ne9_0_0:w.heap.size ≠ W9.heap.size:=oM
 have en9_0_0:W9.heap.size ≠ w.heap.size:=oM
 have ne9_0_1:w.heap.size ≠ W9.heap.size + 1:=oM
 have en9_0_1:W9.heap.size + 1 ≠ w.heap.size:=oM
 have ne9_1_0:w.heap.size + 1 ≠ W9.heap.size:=oM
 have en9_1_0:W9.heap.size ≠ w.heap.size + 1:=oM
 have ne9_1_1:w.heap.size + 1 ≠ W9.heap.size + 1:=oM
 have en9_1_1:W9.heap.size + 1 ≠ w.heap.size + 1:=oM
 have ne9_2_0:w.heap.size + 1 + 1 ≠ W9.heap.size:=oM
 have en9_2_0:W9.heap.size ≠ w.heap.size + 1 + 1:=oM
 have ne9_2_1:w.heap.size + 1 + 1 ≠ W9.heap.size + 1:=oM
 have en9_2_1:W9.heap.size + 1 ≠ w.heap.size + 1 + 1:=oM
 go_upto_region 5 with fail
 have KW9:=Kept.refl W9 lR
 go_cut [7,8] (fun s7 s8 wx=>IBox (W9.heap.size) s7 (if p4 then -a else a) wx /\ IBox (W9.heap.size) s8 (if p4 then -b else b) wx /\ Kept (W9.heap.size) W9 wx)
 case first =>
  go_region_held3 (fun w'=>w'.cell? ⟨w.heap.size,0,none⟩ = some (.slice A1 n1 c1) /\ w'.cell? ⟨w.heap.size,1,none⟩ = some (.bool p1) /\ w'.cell? ⟨w.heap.size,2,none⟩ = some (.slice A2 n2 c2) /\ w'.cell? ⟨w.heap.size,3,none⟩ = some (.bool p2) /\ w'.cell? ⟨w.heap.size + 1,1,none⟩ = some (.bool p4)) (go_keep) (first | (go_at_call 118; (first | ((with_reducible refine (HS1.out _ ?_).mono ?_); (exact bel); (rintro e W17 ⟨r17,rfl,hr17,hb17⟩; obtain ⟨A17,n17,c17,rfl,-,-⟩:=hr17.parts; generalize decide ((if p4 then -a else a) < 0) = q17 at *; (try (refine cutv (p:=W9.heap.size < W17.heap.size) ?_ (fun al1_0_0=>?_); (refine lL ?_ hb17.size; (first | (simp <;> fail) | (simp <;> omega) | omega)); refine cutv (p:=W17.cell? ⟨W9.heap.size,0,none⟩ = some (.slice none 0 0)) ?_ (fun ac1_0_0_0=>?_); (refine (hb17.cell (p:=⟨W9.heap.size,0,none⟩) ?_).trans ?_; (first | (simp <;> fail) | (simp <;> omega) | omega); (simp [go_sem] <;> fail)); refine cutv (p:=W17.frozen? ⟨W9.heap.size,0,none⟩ = false) ?_ (fun af1_0_0_0=>?_); (refine (hb17.frozen (p:=⟨W9.heap.size,0,none⟩) ?_).trans ?_; (first | (simp <;> fail) | (simp <;> omega) | omega); (simp [go_sem] <;> fail)); refine cutv (p:=W17.cell? ⟨W9.heap.size,1,none⟩ = some (.bool false)) ?_ (fun ac1_0_0_1=>?_); (refine (hb17.cell (p:=⟨W9.heap.size,1,none⟩) ?_).trans ?_; (first | (simp <;> fail) | (simp <;> omega) | omega); (simp [go_sem] <;> fail)); refine cutv (p:=W17.frozen? ⟨W9.heap.size,1,none⟩ = false) ?_ (fun af1_0_0_1=>?_); (refine (hb17.frozen (p:=⟨W9.heap.size,1,none⟩) ?_).trans ?_; (first | (simp <;> fail) | (simp <;> omega) | omega); (simp [go_sem] <;> fail)); have an1_0_0:=Nat.ne_of_lt al1_0_0; have ao1_0_0:=Nat.ne_of_gt al1_0_0; have ap1_0_0:=Nat.lt_succ_of_lt al1_0_0)); (try (refine cutv (p:=W9.heap.size + 1 < W17.heap.size) ?_ (fun al1_0_1=>?_); (refine lL ?_ hb17.size; (first | (simp <;> fail) | (simp <;> omega) | omega)); refine cutv (p:=W17.cell? ⟨W9.heap.size + 1,0,none⟩ = some (.slice none 0 0)) ?_ (fun ac1_0_1_0=>?_); (refine (hb17.cell (p:=⟨W9.heap.size + 1,0,none⟩) ?_).trans ?_; (first | (simp <;> fail) | (simp <;> omega) | omega); (simp [go_sem] <;> fail)); refine cutv (p:=W17.frozen? ⟨W9.heap.size + 1,0,none⟩ = false) ?_ (fun af1_0_1_0=>?_); (refine (hb17.frozen (p:=⟨W9.heap.size + 1,0,none⟩) ?_).trans ?_; (first | (simp <;> fail) | (simp <;> omega) | omega); (simp [go_sem] <;> fail)); refine cutv (p:=W17.cell? ⟨W9.heap.size + 1,1,none⟩ = some (.bool false)) ?_ (fun ac1_0_1_1=>?_); (refine (hb17.cell (p:=⟨W9.heap.size + 1,1,none⟩) ?_).trans ?_; (first | (simp <;> fail) | (simp <;> omega) | omega); (simp [go_sem] <;> fail)); refine cutv (p:=W17.frozen? ⟨W9.heap.size + 1,1,none⟩ = false) ?_ (fun af1_0_1_1=>?_); (refine (hb17.frozen (p:=⟨W9.heap.size + 1,1,none⟩) ?_).trans ?_; (first | (simp <;> fail) | (simp <;> omega) | omega); (simp [go_sem] <;> fail)); have an1_0_1:=Nat.ne_of_lt al1_0_1; have ao1_0_1:=Nat.ne_of_gt al1_0_1; have ap1_0_1:=Nat.lt_succ_of_lt al1_0_1)); have kb17:Below W9.heap.size W9 W17:=bel; clear hb17; obtain ⟨hc17,hf17,hz17⟩:=bcells kb17 (W9.heap.size) oM; have ne17_0_0:w.heap.size ≠ W17.heap.size:=oM; have en17_0_0:W17.heap.size ≠ w.heap.size:=oM; have ne17_0_1:w.heap.size ≠ W17.heap.size + 1:=oM; have en17_0_1:W17.heap.size + 1 ≠ w.heap.size:=oM; have ne17_1_0:w.heap.size + 1 ≠ W17.heap.size:=oM; have en17_1_0:W17.heap.size ≠ w.heap.size + 1:=oM; have ne17_1_1:w.heap.size + 1 ≠ W17.heap.size + 1:=oM; have en17_1_1:W17.heap.size + 1 ≠ w.heap.size + 1:=oM; have ne17_2_0:w.heap.size + 1 + 1 ≠ W17.heap.size:=oM; have en17_2_0:W17.heap.size ≠ w.heap.size + 1 + 1:=oM; have ne17_2_1:w.heap.size + 1 + 1 ≠ W17.heap.size + 1:=oM; have en17_2_1:W17.heap.size + 1 ≠ w.heap.size + 1 + 1:=oM; have cs17_0:W17.cell? ⟨w.heap.size,0,none⟩ = some (.slice A1 n1 c1):=(by simp [*]); have cs17_1:W17.cell? ⟨w.heap.size,1,none⟩ = some (.bool p1):=(by simp [*]); have cs17_2:W17.cell? ⟨w.heap.size,2,none⟩ = some (.slice A2 n2 c2):=(by simp [*]); have cs17_3:W17.cell? ⟨w.heap.size,3,none⟩ = some (.bool p2):=(by simp [*]); have cs17_4:W17.cell? ⟨w.heap.size + 1,1,none⟩ = some (.bool p4):=(by simp [*]))) | ((with_reducible refine (HS2.out _ ?_).mono ?_); (exact bel); (rintro e W18 ⟨r18,rfl,hr18,hb18⟩; obtain ⟨A18,n18,c18,rfl,-,-⟩:=hr18.parts; generalize decide ((if p4 then -b else b) < 0) = q18 at *; (try (refine cutv (p:=W9.heap.size < W18.heap.size) ?_ (fun al2_0_0=>?_); (refine lL ?_ hb18.size; (have hlt:=al1_0_0; first | omega | (simp <;> omega))); refine cutv (p:=W18.cell? ⟨W9.heap.size,0,none⟩ = some (.slice none 0 0)) ?_ (fun ac2_0_0_0=>?_); (refine (hb18.cell (p:=⟨W9.heap.size,0,none⟩) ?_).trans ?_; (have hlt:=al1_0_0; first | omega | (simp <;> omega)); (first | exact ac1_0_0_0 | (simp [go_sem, *] <;> fail))); refine cutv (p:=W18.frozen? ⟨W9.heap.size,0,none⟩ = false) ?_ (fun af2_0_0_0=>?_); (refine (hb18.frozen (p:=⟨W9.heap.size,0,none⟩) ?_).trans ?_; (have hlt:=al1_0_0; first | omega | (simp <;> omega)); (first | exact af1_0_0_0 | (simp [go_sem, *] <;> fail))); refine cutv (p:=W18.cell? ⟨W9.heap.size,1,none⟩ = some (.bool false)) ?_ (fun ac2_0_0_1=>?_); (refine (hb18.cell (p:=⟨W9.heap.size,1,none⟩) ?_).trans ?_; (have hlt:=al1_0_0; first | omega | (simp <;> omega)); (first | exact ac1_0_0_1 | (simp [go_sem, *] <;> fail))); refine cutv (p:=W18.frozen? ⟨W9.heap.size,1,none⟩ = false) ?_ (fun af2_0_0_1=>?_); (refine (hb18.frozen (p:=⟨W9.heap.size,1,none⟩) ?_).trans ?_; (have hlt:=al1_0_0; first | omega | (simp <;> omega)); (first | exact af1_0_0_1 | (simp [go_sem, *] <;> fail))); have an2_0_0:=Nat.ne_of_lt al2_0_0; have ao2_0_0:=Nat.ne_of_gt al2_0_0; have ap2_0_0:=Nat.lt_succ_of_lt al2_0_0)); (try (refine cutv (p:=W9.heap.size + 1 < W18.heap.size) ?_ (fun al2_0_1=>?_); (refine lL ?_ hb18.size; (have hlt:=al1_0_1; first | omega | (simp <;> omega))); refine cutv (p:=W18.cell? ⟨W9.heap.size + 1,0,none⟩ = some (.slice none 0 0)) ?_ (fun ac2_0_1_0=>?_); (refine (hb18.cell (p:=⟨W9.heap.size + 1,0,none⟩) ?_).trans ?_; (have hlt:=al1_0_1; first | omega | (simp <;> omega)); (first | exact ac1_0_1_0 | (simp [go_sem, *] <;> fail))); refine cutv (p:=W18.frozen? ⟨W9.heap.size + 1,0,none⟩ = false) ?_ (fun af2_0_1_0=>?_); (refine (hb18.frozen (p:=⟨W9.heap.size + 1,0,none⟩) ?_).trans ?_; (have hlt:=al1_0_1; first | omega | (simp <;> omega)); (first | exact af1_0_1_0 | (simp [go_sem, *] <;> fail))); refine cutv (p:=W18.cell? ⟨W9.heap.size + 1,1,none⟩ = some (.bool false)) ?_ (fun ac2_0_1_1=>?_); (refine (hb18.cell (p:=⟨W9.heap.size + 1,1,none⟩) ?_).trans ?_; (have hlt:=al1_0_1; first | omega | (simp <;> omega)); (first | exact ac1_0_1_1 | (simp [go_sem, *] <;> fail))); refine cutv (p:=W18.frozen? ⟨W9.heap.size + 1,1,none⟩ = false) ?_ (fun af2_0_1_1=>?_); (refine (hb18.frozen (p:=⟨W9.heap.size + 1,1,none⟩) ?_).trans ?_; (have hlt:=al1_0_1; first | omega | (simp <;> omega)); (first | exact af1_0_1_1 | (simp [go_sem, *] <;> fail))); have an2_0_1:=Nat.ne_of_lt al2_0_1; have ao2_0_1:=Nat.ne_of_gt al2_0_1; have ap2_0_1:=Nat.lt_succ_of_lt al2_0_1)); (try (refine cutv (p:=W17.heap.size < W18.heap.size) ?_ (fun al2_1_0=>?_); (refine lL ?_ hb18.size; (first | (simp <;> fail) | (simp <;> omega) | omega)); refine cutv (p:=W18.cell? ⟨W17.heap.size,0,none⟩ = some (.slice none 0 0)) ?_ (fun ac2_1_0_0=>?_); (refine (hb18.cell (p:=⟨W17.heap.size,0,none⟩) ?_).trans ?_; (first | (simp <;> fail) | (simp <;> omega) | omega); (simp [go_sem] <;> fail)); refine cutv (p:=W18.frozen? ⟨W17.heap.size,0,none⟩ = false) ?_ (fun af2_1_0_0=>?_); (refine (hb18.frozen (p:=⟨W17.heap.size,0,none⟩) ?_).trans ?_; (first | (simp <;> fail) | (simp <;> omega) | omega); (simp [go_sem] <;> fail)); refine cutv (p:=W18.cell? ⟨W17.heap.size,1,none⟩ = some (.bool false)) ?_ (fun ac2_1_0_1=>?_); (refine (hb18.cell (p:=⟨W17.heap.size,1,none⟩) ?_).trans ?_; (first | (simp <;> fail) | (simp <;> omega) | omega); (simp [go_sem] <;> fail)); refine cutv (p:=W18.frozen? ⟨W17.heap.size,1,none⟩ = false) ?_ (fun af2_1_0_1=>?_); (refine (hb18.frozen (p:=⟨W17.heap.size,1,none⟩) ?_).trans ?_; (first | (simp <;> fail) | (simp <;> omega) | omega); (simp [go_sem] <;> fail)); have an2_1_0:=Nat.ne_of_lt al2_1_0; have ao2_1_0:=Nat.ne_of_gt al2_1_0; have ap2_1_0:=Nat.lt_succ_of_lt al2_1_0)); (try (refine cutv (p:=W17.heap.size + 1 < W18.heap.size) ?_ (fun al2_1_1=>?_); (refine lL ?_ hb18.size; (first | (simp <;> fail) | (simp <;> omega) | omega)); refine cutv (p:=W18.cell? ⟨W17.heap.size + 1,0,none⟩ = some (.slice none 0 0)) ?_ (fun ac2_1_1_0=>?_); (refine (hb18.cell (p:=⟨W17.heap.size + 1,0,none⟩) ?_).trans ?_; (first | (simp <;> fail) | (simp <;> omega) | omega); (simp [go_sem] <;> fail)); refine cutv (p:=W18.frozen? ⟨W17.heap.size + 1,0,none⟩ = false) ?_ (fun af2_1_1_0=>?_); (refine (hb18.frozen (p:=⟨W17.heap.size + 1,0,none⟩) ?_).trans ?_; (first | (simp <;> fail) | (simp <;> omega) | omega); (simp [go_sem] <;> fail)); refine cutv (p:=W18.cell? ⟨W17.heap.size + 1,1,none⟩ = some (.bool false)) ?_ (fun ac2_1_1_1=>?_); (refine (hb18.cell (p:=⟨W17.heap.size + 1,1,none⟩) ?_).trans ?_; (first | (simp <;> fail) | (simp <;> omega) | omega); (simp [go_sem] <;> fail)); refine cutv (p:=W18.frozen? ⟨W17.heap.size + 1,1,none⟩ = false) ?_ (fun af2_1_1_1=>?_); (refine (hb18.frozen (p:=⟨W17.heap.size + 1,1,none⟩) ?_).trans ?_; (first | (simp <;> fail) | (simp <;> omega) | omega); (simp [go_sem] <;> fail)); have an2_1_1:=Nat.ne_of_lt al2_1_1; have ao2_1_1:=Nat.ne_of_gt al2_1_1; have ap2_1_1:=Nat.lt_succ_of_lt al2_1_1)); have kb18:Below W17.heap.size W17 W18:=bel; clear hb18; obtain ⟨hc18,hf18,hz18⟩:=bcells kb18 (W9.heap.size) oM; have ne18_0_0:w.heap.size ≠ W18.heap.size:=oM; have en18_0_0:W18.heap.size ≠ w.heap.size:=oM; have ne18_0_1:w.heap.size ≠ W18.heap.size + 1:=oM; have en18_0_1:W18.heap.size + 1 ≠ w.heap.size:=oM; have ne18_1_0:w.heap.size + 1 ≠ W18.heap.size:=oM; have en18_1_0:W18.heap.size ≠ w.heap.size + 1:=oM; have ne18_1_1:w.heap.size + 1 ≠ W18.heap.size + 1:=oM; have en18_1_1:W18.heap.size + 1 ≠ w.heap.size + 1:=oM; have ne18_2_0:w.heap.size + 1 + 1 ≠ W18.heap.size:=oM; have en18_2_0:W18.heap.size ≠ w.heap.size + 1 + 1:=oM; have ne18_2_1:w.heap.size + 1 + 1 ≠ W18.heap.size + 1:=oM; have en18_2_1:W18.heap.size + 1 ≠ w.heap.size + 1 + 1:=oM; have cs18_0:W18.cell? ⟨w.heap.size,0,none⟩ = some (.slice A1 n1 c1):=(by simp [*]); have cs18_1:W18.cell? ⟨w.heap.size,1,none⟩ = some (.bool p1):=(by simp [*]); have cs18_2:W18.cell? ⟨w.heap.size,2,none⟩ = some (.slice A2 n2 c2):=(by simp [*]); have cs18_3:W18.cell? ⟨w.heap.size,3,none⟩ = some (.bool p2):=(by simp [*]); have cs18_4:W18.cell? ⟨w.heap.size + 1,1,none⟩ = some (.bool p4):=(by simp [*]))))))
  all_goals
   go_wp2_with fail
   go_meet
   refine ⟨?_,?_,(by (repeat (first | assumption | with_reducible refine Kept.drew ?_ | with_reducible refine Kept.alloc ?_ _ | with_reducible refine Kept.set ?_ (by first | omega | (simp <;> omega)) _ _ | refine Kept.below ?_ (by assumption))))⟩
   ·refine ⟨_,A17,n17,c17,q17,rfl,?_,?_,?_,?_,?_⟩
    ·first | omega | (simp <;> omega)
    ·first | (simp <;> fail) | (simp <;> omega) | (simp; exact lt_of_cell (by assumption))
    ·simp [go_sem, *]
    ·simp [go_sem, *]
    ·(repeat (first | exact (hr17.below kb18) | with_reducible refine IsInt.below ?_ (below_alloc _ _) | ((with_reducible refine IsInt.box2 ?_ (IntBox.mk (A:=none) (n:=0) (c:=0) (p:=false) ?_ ?_) _ _); rotate_left; (first | assumption | (simp [go_sem, *] <;> fail)); (first | assumption | (simp [go_sem, *] <;> fail)))))
   ·refine ⟨_,A18,n18,c18,q18,rfl,?_,?_,?_,?_,?_⟩
    ·first | omega | (simp <;> omega)
    ·first | (simp <;> fail) | (simp <;> omega) | (simp; exact lt_of_cell (by assumption))
    ·simp [go_sem, *]
    ·simp [go_sem, *]
    ·(repeat (first | exact hr18 | with_reducible refine IsInt.below ?_ (below_alloc _ _) | ((with_reducible refine IsInt.box2 ?_ (IntBox.mk (A:=none) (n:=0) (c:=0) (p:=false) ?_ ?_) _ _); rotate_left; (first | assumption | (simp [go_sem, *] <;> fail)); (first | assumption | (simp [go_sem, *] <;> fail)))))
 case rest =>
  obtain ⟨⟨g5,A17,n17,c17,q17,rfl,hg5,hl5,e5_0,e5_1,hi5⟩,⟨g6,A18,n18,c18,q18,rfl,hg6,hl6,e6_0,e6_1,hi6⟩,hK5⟩:=hcut
  obtain ⟨W5,rfl⟩:∃ W5:World,W5 = wc:=⟨_,rfl⟩
  have hz5:W9.heap.size <= W5.heap.size:=hK5.2.2.1
  have B95:Below W9.heap.size W9 W5:=hK5.2.2.2 _ lR
  have B5:=bT B9 B95
  have hr9:=hr9.below B95
  have HS3:=hid (fun W u (hb:Below W5.heap.size W5 W) (hu:IsNat W u d')=>HSA.out W _ u (hi5.below hb) hu)
  have HS4:=hid (fun W u (hb:Below W5.heap.size W5 W) (hu:IsNat W u d')=>HSB.out W _ u (hi6.below hb) hu)
  obtain ⟨l0_0,l0_1,l0_2,l0_3,l0_4,yl0_0,yl0_1,yl0_2,yl0_3,yl0_4⟩:=hK5.k5 (b:=w.heap.size) oM k0_0 k0_1 k0_2 k0_3 k0_4 yk0_0 yk0_1 yk0_2 yk0_3 yk0_4
  obtain ⟨l1_0,l1_1,l1_2,l1_3,l1_4,yl1_0,yl1_1,yl1_2,yl1_3,yl1_4⟩:=hK5.k5 (b:=w.heap.size + 1) oM k1_0 k1_1 k1_2 k1_3 k1_4 yk1_0 yk1_1 yk1_2 yk1_3 yk1_4
  obtain ⟨l2_0,l2_1,l2_2,l2_3,l2_4,yl2_0,yl2_1,yl2_2,yl2_3,yl2_4⟩:=hK5.k5 (b:=w.heap.size + 1 + 1) oM k2_0 k2_1 k2_2 k2_3 k2_4 yk2_0 yk2_1 yk2_2 yk2_3 yk2_4
  clear hK5 B95 k0_0 yk0_0 k0_1 yk0_1 k0_2 yk0_2 k0_3 yk0_3 k0_4 yk0_4 k1_0 yk1_0 k1_1 yk1_1 k1_2 yk1_2 k1_3 yk1_3 k1_4 yk1_4 k2_0 yk2_0 k2_1 yk2_1 k2_2 yk2_2 k2_3 yk2_3 k2_4 yk2_4
  have lt5_0:w.heap.size < W5.heap.size:=oM
  have lt5_1:w.heap.size + 1 < W5.heap.size:=oM
  have lt5_2:w.heap.size + 1 + 1 < W5.heap.size:=oM
  have lt5_3:g5 < W5.heap.size:=oM
  have lt5_4:g6 < W5.heap.size:=oM
  have ne5_0_0:w.heap.size ≠ W5.heap.size:=oM
  have en5_0_0:W5.heap.size ≠ w.heap.size:=oM
  have ne5_1_0:w.heap.size + 1 ≠ W5.heap.size:=oM
  have en5_1_0:W5.heap.size ≠ w.heap.size + 1:=oM
  have ne5_2_0:w.heap.size + 1 + 1 ≠ W5.heap.size:=oM
  have en5_2_0:W5.heap.size ≠ w.heap.size + 1 + 1:=oM
  have ne5_3_0:g5 ≠ W5.heap.size:=oM
  have en5_3_0:W5.heap.size ≠ g5:=oM
  have ne5_4_0:g6 ≠ W5.heap.size:=oM
  have en5_4_0:W5.heap.size ≠ g6:=oM
  have nq_0:w.heap.size + 1 + 1 ≠ g5:=oM
  have mq_0:g5 ≠ w.heap.size + 1 + 1:=oM
  have nq_1:w.heap.size + 1 + 1 ≠ g6:=oM
  have mq_1:g6 ≠ w.heap.size + 1 + 1:=oM
  have nq_2:w.heap.size + 1 + 1 ≠ w.heap.size:=oM
  have mq_2:w.heap.size ≠ w.heap.size + 1 + 1:=oM
  have nq_3:w.heap.size + 1 + 1 ≠ w.heap.size + 1:=oM
  have mq_3:w.heap.size + 1 ≠ w.heap.size + 1 + 1:=oM
  have NB5:NumBox W5 (w.heap.size + 1 + 1):=.nil l2_0 l2_1 l2_2 l2_3 l2_4
  go_wp2_with fail
  go_region_held3 (fun w'=>w'.cell? ⟨g5,0,none⟩ = some (.slice A17 n17 c17) /\ w'.cell? ⟨g5,1,none⟩ = some (.bool q17) /\ w'.cell? ⟨g6,0,none⟩ = some (.slice A18 n18 c18) /\ w'.cell? ⟨g6,1,none⟩ = some (.bool q18) /\ w'.cell? ⟨w.heap.size,0,none⟩ = some (.slice A1 n1 c1) /\ w'.cell? ⟨w.heap.size,1,none⟩ = some (.bool p1) /\ w'.cell? ⟨w.heap.size,2,none⟩ = some (.slice A2 n2 c2) /\ w'.cell? ⟨w.heap.size,3,none⟩ = some (.bool p2) /\ w'.cell? ⟨w.heap.size,4,none⟩ = some (.slice A3 n3 c3) /\ w'.cell? ⟨w.heap.size + 1,0,none⟩ = some (.slice A4 n4 c4)) (go_keep) (first | (go_at_call 221; (first | ((with_reducible refine (HS3.out _ _ ?_ ?_).mono ?_); (exact bel); (exact hr9.below bel); (rintro e W27 ⟨r27,rfl,hr27,hb27⟩; obtain ⟨A27,n27,c27,rfl,-,-⟩:=hr27.parts; generalize decide ((if p4 then -a else a) * (d':Int) < 0) = q27 at *; have kb27:Below W5.heap.size W5 W27:=bel; clear hb27; obtain ⟨hc27,hf27,hz27⟩:=bcells kb27 (W5.heap.size) oM; have ne27_0_0:w.heap.size ≠ W27.heap.size:=oM; have en27_0_0:W27.heap.size ≠ w.heap.size:=oM; have ne27_1_0:w.heap.size + 1 ≠ W27.heap.size:=oM; have en27_1_0:W27.heap.size ≠ w.heap.size + 1:=oM; have ne27_2_0:w.heap.size + 1 + 1 ≠ W27.heap.size:=oM; have en27_2_0:W27.heap.size ≠ w.heap.size + 1 + 1:=oM; have ne27_3_0:g5 ≠ W27.heap.size:=oM; have en27_3_0:W27.heap.size ≠ g5:=oM; have ne27_4_0:g6 ≠ W27.heap.size:=oM; have en27_4_0:W27.heap.size ≠ g6:=oM)) | ((with_reducible refine (HS4.out _ _ ?_ ?_).mono ?_); (exact bel); (exact hr9.below bel); (rintro e W28 ⟨r28,rfl,hr28,hb28⟩; obtain ⟨A28,n28,c28,rfl,-,-⟩:=hr28.parts; generalize decide ((if p4 then -b else b) * (d':Int) < 0) = q28 at *; have kb28:Below W27.heap.size W27 W28:=bel; clear hb28; obtain ⟨hc28,hf28,hz28⟩:=bcells kb28 (W5.heap.size) oM)))) | (go_at_call 101; (first | ((with_reducible refine (HD1.out _ ?_).mono ?_); (exact bel); (rintro e W29 ⟨r29,rfl,hr29,hb29⟩; obtain ⟨A29,n29,c29,rfl,hnn29⟩:=hr29.ex; clear hnn29; have kb29:Below W28.heap.size W28 W29:=bel; clear hb29; obtain ⟨hc29,hf29,hz29⟩:=bcells kb29 (W5.heap.size) oM)))) | (go_at_call 222; (first | ((with_reducible refine (HM.out _ _ ?_ ?_).mono ?_); (exact bel); (exact hr29.below bel); (rintro e W30 ⟨r30,rfl,hr30,hb30⟩; obtain ⟨A30,n30,c30,rfl,hnn30⟩:=hr30.ex; clear hnn30; have kb30:Below W29.heap.size W29 W30:=bel; clear hb30; obtain ⟨hc30,hf30,hz30⟩:=bcells kb30 (W5.heap.size) oM)))) | (go_at_call 117; (first | ((with_reducible refine (HLo.out _ _ _ _ ?_ ?_ ?_ ?_).mono ?_); (exact bel); (exact hr27.below (bT (bT (bT kb28 kb29) kb30) bel)); (exact hr28.below (bT (bT kb29 kb30) bel)); (exact hr30.below bel); (rintro e W31 ⟨r31,rfl,hr31,hb31⟩; obtain ⟨A31,n31,c31,p31,A31',n31',c31',p31',A31'',n31'',c31'',a31,b31,d31,rfl,-⟩:=hr31.parts; have kb31:Below W30.heap.size W30 W31:=bel; clear hb31; obtain ⟨hc31,hf31,hz31⟩:=bcells kb31 (W5.heap.size) oM)))))
  go_wp2
  have KB:=bT (bT (bT (bT kb27 kb28) kb29) kb30) kb31
  have B31:=bT B5 KB
  obtain ⟨hc9,hf9,hz9⟩:=bcells KB (W5.heap.size) oM
  have NB9:NumBox W31 (w.heap.size + 1 + 1):=NumBox.of hc9 oM NB5
  refine bodyPost_ret (v:=.tuple #[.agg #[.slice A31 n31 c31,.bool p31,.slice A31' n31' c31',.bool p31',.slice A31'' n31'' c31''],.int .i64 0]) (by simp [results,Tryz.results209]; exact run_load5e NB9 _ _ _ _ _ _) rfl ?_
  exact RetNumE.box B31 oM NB9 hr31 _ _ _ _ _
theorem divN_c (v u:Value) (x y:Cx) (w:World) (h:IsNum w v x) (h':IsNum w u y) (m n:Nat) (hx:Sz x m) (hy:Sz y n) (hm:m + 4 * n + 4 < 549755813888) (hT:Tab w) (h0:y ≠ .zero) (h1:y.im ≠ 0) :
  Calls Tryz.prog 209 #[v,u] w (RetNumE w (x.div y) 0):=by
 have HX:=hid (fun W (hb:Below w.heap.size w W)=>h.below hb)
 have HY:=hid (fun W (hb:Below w.heap.size w W)=>h'.below hb)
 have c1:=fun W (hb:Below w.heap.size w W)=>clear_any _ _ W (h'.below hb)
 have c2:=fun W (hb:Below w.heap.size w W)=>real_any _ _ W (h'.below hb)
 have HDx:=hid (fun W (hb:Below w.heap.size w W)=>denominator_any _ _ W (h.below hb))
 have HDy:=hid (fun W (hb:Below w.heap.size w W)=>denominator_any _ _ W (h'.below hb))
 rw [decide_eq_false h0] at c1
 rw [decide_eq_false h1] at c2
 have HC1:=hid c1
 have HC2:=hid c2
 obtain ⟨A1,n1,c1,p1,A2,n2,c2,p2,A3,n3,c3,a,b,d,rfl,hl,hr,hi,hs,hn3,-,-,-,-⟩:=h.parts
 obtain ⟨A4,n4,c4,p4,A5,n5,c5,p5,A6,n6,c6,a',b',d',rfl,hl',hr',hi',hs',hn6,hq4,-,hra',-⟩:=h'.parts
 have s2:=hy _ _ _ hl'
 have ht:=inv_terms hl' h0
 have k1:=wl_imul a' d'
 have k2:=wl_imul b' d'
 have k3:=wl_imul a' a'
 have k4:=wl_imul b' b'
 have k5:=wl_iadd (a' * a') (b' * b')
 rw [wl_inat] at k1 k2
 have k6:wl (-(b' * (d':Int))).natAbs = wl (b' * (d':Int)).natAbs:=by rw [Int.natAbs_neg]
 have HD2:=hid (fun W (hb:Below w.heap.size w W)=>HDy.out W hb a' b' d' hl')
 have M1:=hid (fun W (hb:Below w.heap.size w W)=>mulI_any _ _ _ _ W (hr'.below hb) (hr'.below hb) oM)
 have M2:=hid (fun W (hb:Below w.heap.size w W)=>mulI_any _ _ _ _ W (hi'.below hb) (hi'.below hb) oM)
 have M3:=hid (fun W v u (h1:IsInt W v (a' * a')) (h2:IsInt W u (b' * b'))=>addI_any _ _ _ _ W h1 h2 oM oM)
 have HS1:=hid (fun W u (hb:Below w.heap.size w W) (hu:IsNat W u d')=>scaleI_any _ u _ _ W (hr'.below hb) hu oM)
 have HS2:=hid (fun W u (hb:Below w.heap.size w W) (hu:IsNat W u d')=>scaleI_any _ u _ _ W (hi'.below hb) hu oM)
 have HN:=hid (fun W u (hu:IsInt W u (b' * (d':Int)))=>neg_any u _ W hu)
 have HLo:=hid (fun W v u t (hb:Below w.heap.size w W) (h1:IsInt W v (a' * (d':Int))) (h2:IsInt W u (-(b' * (d':Int)))) (h3:IsNat W t (a' * a' + b' * b').natAbs)=>lowest_any v u t _ _ (a' * a' + b' * b').natAbs _ y.inv W h1 h2 h3 (Den.self ht.1) ht.2.1 ht.2.2 oM oM oM (hT.below hb))
 have hsz:Sz y.inv (2 * n + 1):=Sz.of ht.1 ht.2.1 ht.2.2 oM oM oM
 have HM:=hid (fun W u (hb:Below w.heap.size w W) (hu:IsNum W u y.inv)=>mulN_any _ u x y.inv W (HX.out W hb) hu m (2 * n + 1) hx hsz oM (hT.below hb))
 clear c1 c2 h0 h1 ht hsz k1 k2 k3 k4 k5 k6 s2 HDx HDy HX h h' hx hy hm hT hl hr hi hs hn3 hl' hr' hi' hs' hn6 hq4 hra'
 go_enter Tryz.func209,Tryz.ntmps209
 go_upto_region 1 with fail
 obtain ⟨W1,hW1⟩:∃ W1:World,W1 = (((w.alloc (.cells #[.slice A1 n1 c1,.bool p1,.slice A2 n2 c2,.bool p2,.slice A3 n3 c3] 49)).alloc (.cells #[.slice A4 n4 c4,.bool p4,.slice A5 n5 c5,.bool p5,.slice A6 n6 c6] 49)).alloc (.cells #[.slice none 0 0,.bool false,.slice none 0 0,.bool false,.slice none 0 0] 49)):=⟨_,rfl⟩
 rw [<- hW1]
 have B1:Below w.heap.size w W1:=by rw [hW1]; exact bel
 have hz1:w.heap.size + 3 <= W1.heap.size:=by rw [hW1]; simp
 obtain ⟨f0_0,f0_1,f0_2,f0_3,f0_4,yf0_0,yf0_1,yf0_2,yf0_3,yf0_4⟩:Bx5 W1 (w.heap.size) (.slice A1 n1 c1) (.bool p1) (.slice A2 n2 c2) (.bool p2) (.slice A3 n3 c3):=by rw [hW1]; simp [Bx5,go_sem]
 obtain ⟨f1_0,f1_1,f1_2,f1_3,f1_4,yf1_0,yf1_1,yf1_2,yf1_3,yf1_4⟩:Bx5 W1 (w.heap.size + 1) (.slice A4 n4 c4) (.bool p4) (.slice A5 n5 c5) (.bool p5) (.slice A6 n6 c6):=by rw [hW1]; simp [Bx5,go_sem]
 obtain ⟨f2_0,f2_1,f2_2,f2_3,f2_4,yf2_0,yf2_1,yf2_2,yf2_3,yf2_4⟩:Bx5 W1 (w.heap.size + 1 + 1) (.slice none 0 0) (.bool false) (.slice none 0 0) (.bool false) (.slice none 0 0):=by rw [hW1]; simp [Bx5,go_sem]
 clear hW1
 go_wp2_with fail
 refine (HC1.out _ B1).mono ?_
 rintro e W7 ⟨rfl,hb7⟩
 have B7:=bT B1 hb7
 have hK7:=(Kept.refl W1 lR).below hb7
 have hz7:W1.heap.size <= W7.heap.size:=hK7.2.2.1
 obtain ⟨g0_0,g0_1,g0_2,g0_3,g0_4,yg0_0,yg0_1,yg0_2,yg0_3,yg0_4⟩:=hK7.k5 (b:=w.heap.size) oM f0_0 f0_1 f0_2 f0_3 f0_4 yf0_0 yf0_1 yf0_2 yf0_3 yf0_4
 obtain ⟨g1_0,g1_1,g1_2,g1_3,g1_4,yg1_0,yg1_1,yg1_2,yg1_3,yg1_4⟩:=hK7.k5 (b:=w.heap.size + 1) oM f1_0 f1_1 f1_2 f1_3 f1_4 yf1_0 yf1_1 yf1_2 yf1_3 yf1_4
 obtain ⟨g2_0,g2_1,g2_2,g2_3,g2_4,yg2_0,yg2_1,yg2_2,yg2_3,yg2_4⟩:=hK7.k5 (b:=w.heap.size + 1 + 1) oM f2_0 f2_1 f2_2 f2_3 f2_4 yf2_0 yf2_1 yf2_2 yf2_3 yf2_4
 clear hK7 f0_0 yf0_0 f0_1 yf0_1 f0_2 yf0_2 f0_3 yf0_3 f0_4 yf0_4 f1_0 yf1_0 f1_1 yf1_1 f1_2 yf1_2 f1_3 yf1_3 f1_4 yf1_4 f2_0 yf2_0 f2_1 yf2_1 f2_2 yf2_2 f2_3 yf2_3 f2_4 yf2_4
 go_wp2_with fail
 refine (HC2.out _ B7).mono ?_
 rintro e W8 ⟨rfl,hb8⟩
 have B8:=bT B7 hb8
 have hK8:=(Kept.refl W7 lR).below hb8
 have hz8:W7.heap.size <= W8.heap.size:=hK8.2.2.1
 obtain ⟨j0_0,j0_1,j0_2,j0_3,j0_4,yj0_0,yj0_1,yj0_2,yj0_3,yj0_4⟩:=hK8.k5 (b:=w.heap.size) oM g0_0 g0_1 g0_2 g0_3 g0_4 yg0_0 yg0_1 yg0_2 yg0_3 yg0_4
 obtain ⟨j1_0,j1_1,j1_2,j1_3,j1_4,yj1_0,yj1_1,yj1_2,yj1_3,yj1_4⟩:=hK8.k5 (b:=w.heap.size + 1) oM g1_0 g1_1 g1_2 g1_3 g1_4 yg1_0 yg1_1 yg1_2 yg1_3 yg1_4
 obtain ⟨j2_0,j2_1,j2_2,j2_3,j2_4,yj2_0,yj2_1,yj2_2,yj2_3,yj2_4⟩:=hK8.k5 (b:=w.heap.size + 1 + 1) oM g2_0 g2_1 g2_2 g2_3 g2_4 yg2_0 yg2_1 yg2_2 yg2_3 yg2_4
 clear hK8 g0_0 yg0_0 g0_1 yg0_1 g0_2 yg0_2 g0_3 yg0_3 g0_4 yg0_4 g1_0 yg1_0 g1_1 yg1_1 g1_2 yg1_2 g1_3 yg1_3 g1_4 yg1_4 g2_0 yg2_0 g2_1 yg2_1 g2_2 yg2_2 g2_3 yg2_3 g2_4 yg2_4
 go_wp2_with fail
 refine (HD2.out _ B8).mono ?_
 rintro e W9 ⟨r9,rfl,hr9,hb9⟩
 obtain ⟨A9,n9,c9,rfl,hnn9⟩:=hr9.ex
 clear hnn9
 have B9:=bT B8 hb9
 have hK9:=(Kept.refl W8 lR).below hb9
 have hz9:W8.heap.size <= W9.heap.size:=hK9.2.2.1
 obtain ⟨k0_0,k0_1,k0_2,k0_3,k0_4,yk0_0,yk0_1,yk0_2,yk0_3,yk0_4⟩:=hK9.k5 (b:=w.heap.size) oM j0_0 j0_1 j0_2 j0_3 j0_4 yj0_0 yj0_1 yj0_2 yj0_3 yj0_4
 obtain ⟨k1_0,k1_1,k1_2,k1_3,k1_4,yk1_0,yk1_1,yk1_2,yk1_3,yk1_4⟩:=hK9.k5 (b:=w.heap.size + 1) oM j1_0 j1_1 j1_2 j1_3 j1_4 yj1_0 yj1_1 yj1_2 yj1_3 yj1_4
 obtain ⟨k2_0,k2_1,k2_2,k2_3,k2_4,yk2_0,yk2_1,yk2_2,yk2_3,yk2_4⟩:=hK9.k5 (b:=w.heap.size + 1 + 1) oM j2_0 j2_1 j2_2 j2_3 j2_4 yj2_0 yj2_1 yj2_2 yj2_3 yj2_4
 clear hK9 j0_0 yj0_0 j0_1 yj0_1 j0_2 yj0_2 j0_3 yj0_3 j0_4 yj0_4 j1_0 yj1_0 j1_1 yj1_1 j1_2 yj1_2 j1_3 yj1_3 j1_4 yj1_4 j2_0 yj2_0 j2_1 yj2_1 j2_2 yj2_2 j2_3 yj2_3 j2_4 yj2_4
 have hfd:∀ (w:World) (A:Option Addr) (n c:Nat) (b:Bool),(Instr.field 47 (.agg #[.slice A n c,.bool b]) 0).run Tryz.prog w = .ok (.slice A n c) w:=fun _ _ _ _ _=>kR
 go_wp2_with fail
 have lt9_0:w.heap.size < W9.heap.size:=oM
 have lt9_1:w.heap.size + 1 < W9.heap.size:=oM
 have lt9_2:w.heap.size + 1 + 1 < W9.heap.size:=oM
 have ne9_0_0:w.heap.size ≠ W9.heap.size:=oM
 have en9_0_0:W9.heap.size ≠ w.heap.size:=oM
 have ne9_1_0:w.heap.size + 1 ≠ W9.heap.size:=oM
 have en9_1_0:W9.heap.size ≠ w.heap.size + 1:=oM
 have ne9_2_0:w.heap.size + 1 + 1 ≠ W9.heap.size:=oM
 have en9_2_0:W9.heap.size ≠ w.heap.size + 1 + 1:=oM
 go_region_held3 (fun w'=>w'.cell? ⟨w.heap.size + 1,0,none⟩ = some (.slice A4 n4 c4) /\ w'.cell? ⟨w.heap.size + 1,1,none⟩ = some (.bool p4) /\ w'.cell? ⟨w.heap.size + 1,2,none⟩ = some (.slice A5 n5 c5) /\ w'.cell? ⟨w.heap.size + 1,3,none⟩ = some (.bool p5)) (go_keep) (first | (go_at_call 223; (first | ((with_reducible refine (M1.out _ ?_).mono ?_); (exact bel); (rintro e W17 ⟨r17,rfl,hr17,hb17⟩; obtain ⟨A17,n17,c17,rfl,-,-⟩:=hr17.parts; generalize decide (a' * a' < 0) = q17 at *; have kb17:Below W9.heap.size W9 W17:=bel; clear hb17; obtain ⟨hc17,hf17,hz17⟩:=bcells kb17 (W9.heap.size) oM)) | ((with_reducible refine (M2.out _ ?_).mono ?_); (exact bel); (rintro e W18 ⟨r18,rfl,hr18,hb18⟩; obtain ⟨A18,n18,c18,rfl,-,-⟩:=hr18.parts; generalize decide (b' * b' < 0) = q18 at *; have kb18:Below W17.heap.size W17 W18:=bel; clear hb18; obtain ⟨hc18,hf18,hz18⟩:=bcells kb18 (W9.heap.size) oM)))) | (go_at_call 224; (first | ((with_reducible refine (M3.out _ _ _ ?_ ?_).mono ?_); (exact hr17.below bel); (exact hr18.below bel); (rintro e W19 ⟨r19,rfl,hr19,hb19⟩; obtain ⟨A19,n19,c19,rfl,-,hn19⟩:=hr19.parts; generalize decide (a' * a' + b' * b' < 0) = q19 at *; have kb19:Below W18.heap.size W18 W19:=bel; clear hb19; obtain ⟨hc19,hf19,hz19⟩:=bcells kb19 (W9.heap.size) oM)))))
 go_wp2_with fail
 have KB:=bT (bT kb17 kb18) kb19
 have B19:=bT B9 KB
 have hK19:=(Kept.refl W9 lR).below KB
 have hz19':W9.heap.size <= W19.heap.size:=hK19.2.2.1
 have hr9:=hr9.below KB
 obtain ⟨l0_0,l0_1,l0_2,l0_3,l0_4,yl0_0,yl0_1,yl0_2,yl0_3,yl0_4⟩:=hK19.k5 (b:=w.heap.size) oM k0_0 k0_1 k0_2 k0_3 k0_4 yk0_0 yk0_1 yk0_2 yk0_3 yk0_4
 obtain ⟨l1_0,l1_1,l1_2,l1_3,l1_4,yl1_0,yl1_1,yl1_2,yl1_3,yl1_4⟩:=hK19.k5 (b:=w.heap.size + 1) oM k1_0 k1_1 k1_2 k1_3 k1_4 yk1_0 yk1_1 yk1_2 yk1_3 yk1_4
 obtain ⟨l2_0,l2_1,l2_2,l2_3,l2_4,yl2_0,yl2_1,yl2_2,yl2_3,yl2_4⟩:=hK19.k5 (b:=w.heap.size + 1 + 1) oM k2_0 k2_1 k2_2 k2_3 k2_4 yk2_0 yk2_1 yk2_2 yk2_3 yk2_4
 clear hK19 KB kb17 kb18 kb19 hc17 hf17 hc18 hf18 hc19 hf19 k0_0 yk0_0 k0_1 yk0_1 k0_2 yk0_2 k0_3 yk0_3 k0_4 yk0_4 k1_0 yk1_0 k1_1 yk1_1 k1_2 yk1_2 k1_3 yk1_3 k1_4 yk1_4 k2_0 yk2_0 k2_1 yk2_1 k2_2 yk2_2 k2_3 yk2_3 k2_4 yk2_4
 have lt19_0:w.heap.size < W19.heap.size:=oM
 have lt19_1:w.heap.size + 1 < W19.heap.size:=oM
 have lt19_2:w.heap.size + 1 + 1 < W19.heap.size:=oM
 have ne19_0_0:w.heap.size ≠ W19.heap.size:=oM
 have en19_0_0:W19.heap.size ≠ w.heap.size:=oM
 have ne19_1_0:w.heap.size + 1 ≠ W19.heap.size:=oM
 have en19_1_0:W19.heap.size ≠ w.heap.size + 1:=oM
 have ne19_2_0:w.heap.size + 1 + 1 ≠ W19.heap.size:=oM
 have en19_2_0:W19.heap.size ≠ w.heap.size + 1 + 1:=oM
 have nq_0:w.heap.size + 1 + 1 ≠ w.heap.size:=oM
 have mq_0:w.heap.size ≠ w.heap.size + 1 + 1:=oM
 have nq_1:w.heap.size + 1 + 1 ≠ w.heap.size + 1:=oM
 have mq_1:w.heap.size + 1 ≠ w.heap.size + 1 + 1:=oM
 have NB19:NumBox W19 (w.heap.size + 1 + 1):=.nil l2_0 l2_1 l2_2 l2_3 l2_4
 go_region_held3 (fun w'=>w'.cell? ⟨w.heap.size,0,none⟩ = some (.slice A1 n1 c1) /\ w'.cell? ⟨w.heap.size,1,none⟩ = some (.bool p1) /\ w'.cell? ⟨w.heap.size,2,none⟩ = some (.slice A2 n2 c2) /\ w'.cell? ⟨w.heap.size,3,none⟩ = some (.bool p2) /\ w'.cell? ⟨w.heap.size,4,none⟩ = some (.slice A3 n3 c3) /\ w'.cell? ⟨w.heap.size + 1,0,none⟩ = some (.slice A4 n4 c4) /\ w'.cell? ⟨w.heap.size + 1,1,none⟩ = some (.bool p4) /\ w'.cell? ⟨w.heap.size + 1,2,none⟩ = some (.slice A5 n5 c5) /\ w'.cell? ⟨w.heap.size + 1,3,none⟩ = some (.bool p5)) (go_keep) (first | (go_at_call 221; (first | ((with_reducible refine (HS1.out _ _ ?_ ?_).mono ?_); (exact bel); (exact hr9.below bel); (rintro e W27 ⟨r27,rfl,hr27,hb27⟩; obtain ⟨A27,n27,c27,rfl,-,-⟩:=hr27.parts; generalize decide (a' * (d':Int) < 0) = q27 at *; have kb27:Below W19.heap.size W19 W27:=bel; clear hb27; obtain ⟨hc27,hf27,hz27⟩:=bcells kb27 (W19.heap.size) oM)) | ((with_reducible refine (HS2.out _ _ ?_ ?_).mono ?_); (exact bel); (exact hr9.below (bT kb27 bel)); (rintro e W28 ⟨r28,rfl,hr28,hb28⟩; obtain ⟨A28,n28,c28,rfl,-,-⟩:=hr28.parts; generalize decide (b' * (d':Int) < 0) = q28 at *; have kb28:Below W27.heap.size W27 W28:=bel; clear hb28; obtain ⟨hc28,hf28,hz28⟩:=bcells kb28 (W19.heap.size) oM)))) | (go_at_call 159; (first | ((with_reducible refine (HN.out _ _ ?_).mono ?_); (exact hr28.below bel); (rintro e W29 ⟨r29,rfl,hr29,hb29⟩; obtain ⟨A29,n29,c29,rfl,-,-⟩:=hr29.parts; generalize decide (-(b' * (d':Int)) < 0) = q29 at *; have kb29:Below W28.heap.size W28 W29:=bel; clear hb29; obtain ⟨hc29,hf29,hz29⟩:=bcells kb29 (W19.heap.size) oM)))) | (go_at_call 117; (first | ((with_reducible refine (HLo.out _ _ _ _ ?_ ?_ ?_ ?_).mono ?_); (exact bel); (exact hr27.below (bT (bT kb28 kb29) bel)); (exact hr29.below bel); (exact hn19.below (bT (bT (bT kb27 kb28) kb29) bel)); (rintro e W30 ⟨r30,rfl,hr30,hb30⟩; obtain ⟨A30,n30,c30,p30,A30',n30',c30',p30',A30'',n30'',c30'',a30,b30,d30,rfl,-⟩:=hr30.parts; have kb30:Below W29.heap.size W29 W30:=bel; clear hb30; obtain ⟨hc30,hf30,hz30⟩:=bcells kb30 (W19.heap.size) oM)))) | (go_at_call 225; (first | ((with_reducible refine (HM.out _ _ ?_ ?_).mono ?_); (exact bel); (exact hr30.below bel); (rintro e W31 ⟨r31,rfl,hr31,hb31⟩; obtain ⟨A31,n31,c31,p31,A31',n31',c31',p31',A31'',n31'',c31'',a31,b31,d31,rfl,-⟩:=hr31.parts; have kb31:Below W30.heap.size W30 W31:=bel; clear hb31; obtain ⟨hc31,hf31,hz31⟩:=bcells kb31 (W19.heap.size) oM)))))
 go_wp2
 have KB:=bT (bT (bT (bT kb27 kb28) kb29) kb30) kb31
 have B31:=bT B19 KB
 obtain ⟨hc9,hf9,hz9⟩:=bcells KB (W19.heap.size) oM
 have NB9:NumBox W31 (w.heap.size + 1 + 1):=NumBox.of hc9 oM NB19
 refine bodyPost_ret (v:=.tuple #[.agg #[.slice A31 n31 c31,.bool p31,.slice A31' n31' c31',.bool p31',.slice A31'' n31'' c31''],.int .i64 0]) (by simp [results,Tryz.results209]; exact run_load5e NB9 _ _ _ _ _ _) rfl ?_
 exact RetNumE.box B31 oM NB9 hr31 _ _ _ _ _
end Go.Proofs.YtjodlmanheeajaaGreatDoor
