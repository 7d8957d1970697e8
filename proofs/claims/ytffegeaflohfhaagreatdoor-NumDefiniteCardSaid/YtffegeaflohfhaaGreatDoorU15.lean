import Derived.Test.YtffegeaflohfhaaGreatDoorS07
import Derived.Test.YtffegeaflohfhaaGreatDoorS14
import Derived.Test.YtffegeaflohfhaaGreatDoorS15
import Derived.Test.YtffegeaflohfhaaGreatDoorS02
set_option linter.unusedVariables false
set_option linter.unusedSimpArgs false
set_option maxRecDepth 100000
set_option maxHeartbeats 8000000
namespace Go.Proofs.YtffegeaflohfhaaGreatDoor
open Go.RowKit
def sgnR (r:Rat):Int:=r.num.sign
theorem sgnR_of {p:Rat} {a:Int} {d:Nat} (hd:0 < d) (h:p * (d:Rat) = (a:Rat)):sgnR p = a.sign:=by
 have h1:=congrArg Int.sign (cross (mul_den p) h)
 rw [Int.sign_mul,Int.sign_mul,Int.sign_eq_one_of_pos (by omega:(0:Int) < (d:Int)),Int.sign_eq_one_of_pos (by have:=p.den_pos; omega:(0:Int) < (p.den:Int)),Int.mul_one,Int.mul_one] at h1
 exact h1
theorem compareI_any (v u:Value) (x y:Int) (w:World) (h:IsInt w v x) (h':IsInt w u y) (hn:wl x.natAbs <= 1099511627776) (hm:wl y.natAbs <= 1099511627776) :
  Calls Tryz.prog 95 #[v,u] w fun e w'=>e = .returned (.int .i64 (cmpI x y)) /\ Below w.heap.size w w':=by
 rw [cmpI_of]
 obtain ⟨s,rfl,hs⟩:=h
 obtain ⟨A,n,c,rfl,hnn⟩:=hs.ex
 obtain ⟨s',rfl,hs'⟩:=h'
 obtain ⟨A',n',c',rfl,hnn'⟩:=hs'.ex
 clear hnn hnn'
 have HC:=hid (fun W (hb:Below w.heap.size w W)=>compare_any _ _ _ _ W (hs.below hb) (hs'.below hb) hn hm)
 have HC':=hid (fun W (hb:Below w.heap.size w W)=>compare_any _ _ _ _ W (hs'.below hb) (hs.below hb) hm hn)
 have B0:=hid (fun o o2=>bT (below_alloc w o) (below_alloc _ o2))
 clear hs hs' hn hm
 generalize cmpN x.natAbs y.natAbs = k at *
 generalize cmpN y.natAbs x.natAbs = k' at *
 cases decide (x < 0) <;> cases decide (y < 0)
 ·go_enter Tryz.func95,Tryz.ntmps95
  go_wp2_with (first | (go_at_call 117; refine (HC.out _ (bT (below_alloc _ _) (below_alloc _ _))).mono ?_; rintro e w' ⟨rfl,q,rfl⟩) | fail)
  go_ret
  exact ⟨rfl,bT (bT (below_alloc _ _) (below_alloc _ _)) (below_drewN _ _)⟩
 ·go_enter Tryz.func95,Tryz.ntmps95
  go_wp2_with (first | (go_at_call 133; refine (order_any _ _).mono ?_; rintro e w' ⟨rfl,rfl⟩) | fail)
  go_ret
  exact ⟨rfl,bT (below_alloc _ _) (below_alloc _ _)⟩
 ·go_enter Tryz.func95,Tryz.ntmps95
  go_wp2_with (first | (go_at_call 133; refine (order_any _ _).mono ?_; rintro e w' ⟨rfl,rfl⟩) | fail)
  go_ret
  exact ⟨rfl,bT (below_alloc _ _) (below_alloc _ _)⟩
 ·go_enter Tryz.func95,Tryz.ntmps95
  go_wp2_with (first | (go_at_call 117; refine (HC'.out _ (bT (below_alloc _ _) (below_alloc _ _))).mono ?_; rintro e w' ⟨rfl,q,rfl⟩) | fail)
  go_ret
  exact ⟨rfl,bT (bT (below_alloc _ _) (below_alloc _ _)) (below_drewN _ _)⟩
def cmpC (x y:Cx):Int:=if sgnR (x.re - y.re) ≠ 0 then sgnR (x.re - y.re) else sgnR (x.im - y.im)
theorem cmpI_sign (p q:Int):cmpI p q = (p - q).sign:=by
 unfold cmpI
 rcases Int.lt_trichotomy p q with h | h | h
 ·rw [if_pos h,Int.sign_eq_neg_one_of_neg oM]
 ·subst h; simp
 ·rw [if_neg oM,if_neg oM,Int.sign_eq_one_of_pos oM]
theorem sub_sgn {p q:Rat} {a a':Int} {d d':Nat} (hd:0 < d) (hd':0 < d') (h:p * (d:Rat) = (a:Rat)) (h':q * (d':Rat) = (a':Rat)):sgnR (p - q) = cmpI (a * d') (a' * d):=by
 rw [cmpI_sign]
 refine sgnR_of (Nat.mul_pos hd hd') ?_
 rw [Rat.natCast_mul,Rat.intCast_sub,Rat.intCast_mul,Rat.intCast_mul,Rat.intCast_natCast,Rat.intCast_natCast]
 grind
theorem cmpN_any' (v u:Value) (x y:Cx) (w:World) (h:IsNum w v x) (h':IsNum w u y) (m n:Nat) (hx:Sz x m) (hy:Sz y n) (hm:m + n < 549755813888) :
  Calls Tryz.prog 35 #[v,u] w fun e w'=>e = .returned (.int .i64 (cmpC x y)) /\ Below w.heap.size w w':=by
 have HDx:=hid (fun W (hb:Below w.heap.size w W)=>denominator_any _ _ W (h.below hb))
 have HDy:=hid (fun W (hb:Below w.heap.size w W)=>denominator_any _ _ W (h'.below hb))
 obtain ⟨A1,n1,c1,p1,A2,n2,c2,p2,A3,n3,c3,a,b,d,rfl,hl,hr,hi,hs,-,-,-,-,-⟩:=h.parts
 obtain ⟨A4,n4,c4,p4,A5,n5,c5,p5,A6,n6,c6,a',b',d',rfl,hl',hr',hi',hs',-,-,-,-,-⟩:=h'.parts
 have s1:=hx _ _ _ hl
 have s2:=hy _ _ _ hl'
 have m1:=wl_imul a d'
 have m2:=wl_imul a' d
 have m3:=wl_imul b d'
 have m4:=wl_imul b' d
 rw [wl_inat] at m1 m2 m3 m4
 have hk:cmpC x y = if cmpI (a * d') (a' * d) ≠ 0 then cmpI (a * d') (a' * d) else cmpI (b * d') (b' * d):=by
  unfold cmpC
  rw [sub_sgn hl.pos hl'.pos hl.2.2.1 hl'.2.2.1,sub_sgn hl.pos hl'.pos hl.2.2.2 hl'.2.2.2]
 have HK:=hid hk
 have HD1:=hid (fun W (hb:Below w.heap.size w W)=>HDx.out W hb a b d hl)
 have HD2:=hid (fun W (hb:Below w.heap.size w W)=>HDy.out W hb a' b' d' hl')
 have HS1:=hid (fun W u (hb:Below w.heap.size w W) (hu:IsNat W u d')=>scaleI_any _ u _ _ W (hr.below hb) hu oM)
 have HS2:=hid (fun W u (hb:Below w.heap.size w W) (hu:IsNat W u d)=>scaleI_any _ u _ _ W (hr'.below hb) hu oM)
 have HS3:=hid (fun W u (hb:Below w.heap.size w W) (hu:IsNat W u d')=>scaleI_any _ u _ _ W (hi.below hb) hu oM)
 have HS4:=hid (fun W u (hb:Below w.heap.size w W) (hu:IsNat W u d)=>scaleI_any _ u _ _ W (hi'.below hb) hu oM)
 have HC1:=hid (fun W v u (h1:IsInt W v (a * d')) (h2:IsInt W u (a' * d))=>compareI_any _ _ _ _ W h1 h2 oM oM)
 have HC2:=hid (fun W v u (h1:IsInt W v (b * d')) (h2:IsInt W u (b' * d))=>compareI_any _ _ _ _ W h1 h2 oM oM)
 clear hk HDx HDy m1 m2 m3 m4 s1 s2 hl hl' hr hi hs hr' hi' hs' h h' hx hy
 generalize cmpI (a * d') (a' * d) = k at *
 generalize cmpI (b * d') (b' * d) = k' at *
 by_cases hk:k = 0
 ·skip
  have HK2:=hid hk
  have k1:(k == 0) = true:=by simpa using hk
  have k2:(k != 0) = false:=by simpa using hk
  clear hk
  go_enter Tryz.func35,Tryz.ntmps35
  go_wp2_with fail
  go_region_held3 (fun w'=>w'.cell? ⟨w.heap.size,0,none⟩ = some (.slice A1 n1 c1) /\ w'.cell? ⟨w.heap.size,1,none⟩ = some (.bool p1) /\ w'.cell? ⟨w.heap.size,2,none⟩ = some (.slice A2 n2 c2) /\ w'.cell? ⟨w.heap.size,3,none⟩ = some (.bool p2) /\ w'.cell? ⟨w.heap.size,4,none⟩ = some (.slice A3 n3 c3) /\ w'.cell? ⟨w.heap.size + 1,0,none⟩ = some (.slice A4 n4 c4) /\ w'.cell? ⟨w.heap.size + 1,1,none⟩ = some (.bool p4) /\ w'.cell? ⟨w.heap.size + 1,2,none⟩ = some (.slice A5 n5 c5) /\ w'.cell? ⟨w.heap.size + 1,3,none⟩ = some (.bool p5) /\ w'.cell? ⟨w.heap.size + 1,4,none⟩ = some (.slice A6 n6 c6)) (go_keep) (first | (go_at_call 77; (first | ((with_reducible refine (HD1.out _ ?_).mono ?_); (exact bel); (rintro e W7 ⟨r7,rfl,hr7,hb7⟩; obtain ⟨A7,n7,c7,rfl,hnn7⟩:=hr7.ex; clear hnn7; obtain ⟨hc7,hf7,hz7⟩:=bcells hb7 (w.heap.size + 2) sP)) | ((with_reducible refine (HD2.out _ ?_).mono ?_); (exact bel); (rintro e W8 ⟨r8,rfl,hr8,hb8⟩; obtain ⟨A8,n8,c8,rfl,hnn8⟩:=hr8.ex; clear hnn8; have kb8:Below W7.heap.size W7 W8:=bel; clear hb8; obtain ⟨hc8,hf8,hz8⟩:=bcells kb8 (w.heap.size + 2) oM)))))
  go_wp2_with fail
  have B7:Below w.heap.size w W7:=bel
  have B8:=bT B7 kb8
  have f00:W8.cell? ⟨w.heap.size,0,none⟩ = some (.slice A1 n1 c1):=(hc8 _ _ oM).trans ((hc7 _ _ oM).trans sG)
  have f01:W8.cell? ⟨w.heap.size,1,none⟩ = some (.bool p1):=(hc8 _ _ oM).trans ((hc7 _ _ oM).trans sG)
  have f02:W8.cell? ⟨w.heap.size,2,none⟩ = some (.slice A2 n2 c2):=(hc8 _ _ oM).trans ((hc7 _ _ oM).trans sG)
  have f03:W8.cell? ⟨w.heap.size,3,none⟩ = some (.bool p2):=(hc8 _ _ oM).trans ((hc7 _ _ oM).trans sG)
  have f04:W8.cell? ⟨w.heap.size,4,none⟩ = some (.slice A3 n3 c3):=(hc8 _ _ oM).trans ((hc7 _ _ oM).trans sG)
  have f10:W8.cell? ⟨w.heap.size + 1,0,none⟩ = some (.slice A4 n4 c4):=(hc8 _ _ oM).trans ((hc7 _ _ oM).trans sG)
  have f11:W8.cell? ⟨w.heap.size + 1,1,none⟩ = some (.bool p4):=(hc8 _ _ oM).trans ((hc7 _ _ oM).trans sG)
  have f12:W8.cell? ⟨w.heap.size + 1,2,none⟩ = some (.slice A5 n5 c5):=(hc8 _ _ oM).trans ((hc7 _ _ oM).trans sG)
  have f13:W8.cell? ⟨w.heap.size + 1,3,none⟩ = some (.bool p5):=(hc8 _ _ oM).trans ((hc7 _ _ oM).trans sG)
  have f14:W8.cell? ⟨w.heap.size + 1,4,none⟩ = some (.slice A6 n6 c6):=(hc8 _ _ oM).trans ((hc7 _ _ oM).trans sG)
  have hr7:=hr7.below kb8
  clear hc7 hf7 hc8 hf8
  go_region_held3 (fun w'=>w'.cell? ⟨w.heap.size,0,none⟩ = some (.slice A1 n1 c1) /\ w'.cell? ⟨w.heap.size,1,none⟩ = some (.bool p1) /\ w'.cell? ⟨w.heap.size + 1,0,none⟩ = some (.slice A4 n4 c4) /\ w'.cell? ⟨w.heap.size + 1,1,none⟩ = some (.bool p4)) (go_keep) (first | (go_at_call 80; (first | ((with_reducible refine (HS1.out _ _ ?_ ?_).mono ?_); (exact bel); (exact hr8.below bel); (rintro e W10 ⟨r10,rfl,hr10,hb10⟩; obtain ⟨A10,n10,c10,rfl,-,-⟩:=hr10.parts; generalize decide (a * (d':Int) < 0) = q10 at *; have kb10:Below W8.heap.size W8 W10:=bel; clear hb10; obtain ⟨hc10,hf10,hz10⟩:=bcells kb10 (w.heap.size + 2) oM)) | ((with_reducible refine (HS2.out _ _ ?_ ?_).mono ?_); (exact bel); (exact hr7.below bel); (rintro e W11 ⟨r11,rfl,hr11,hb11⟩; obtain ⟨A11,n11,c11,rfl,-,-⟩:=hr11.parts; generalize decide (a' * (d:Int) < 0) = q11 at *; have kb11:Below W10.heap.size W10 W11:=bel; clear hb11; obtain ⟨hc11,hf11,hz11⟩:=bcells kb11 (w.heap.size + 2) oM)))) | (go_at_call 95; (first | ((with_reducible refine (HC1.out _ _ _ ?_ ?_).mono ?_); (exact hr10.below bel); (exact hr11.below bel); (rintro e W12 ⟨rfl,hb12⟩; have kb12:Below W11.heap.size W11 W12:=bel; clear hb12; obtain ⟨hc12,hf12,hz12⟩:=bcells kb12 (w.heap.size + 2) oM)))))
  go_wp2_with fail
  have g02:W12.cell? ⟨w.heap.size,2,none⟩ = some (.slice A2 n2 c2):=(hc12 _ _ oM).trans ((hc11 _ _ oM).trans ((hc10 _ _ oM).trans f02))
  have g03:W12.cell? ⟨w.heap.size,3,none⟩ = some (.bool p2):=(hc12 _ _ oM).trans ((hc11 _ _ oM).trans ((hc10 _ _ oM).trans f03))
  have g12:W12.cell? ⟨w.heap.size + 1,2,none⟩ = some (.slice A5 n5 c5):=(hc12 _ _ oM).trans ((hc11 _ _ oM).trans ((hc10 _ _ oM).trans f12))
  have g13:W12.cell? ⟨w.heap.size + 1,3,none⟩ = some (.bool p5):=(hc12 _ _ oM).trans ((hc11 _ _ oM).trans ((hc10 _ _ oM).trans f13))
  have B12:=bT (bT (bT B8 kb10) kb11) kb12
  have hr7:=hr7.below (bT (bT kb10 kb11) kb12)
  have hr8:=hr8.below (bT (bT kb10 kb11) kb12)
  clear hc10 hc11 hc12 hf10 hf11 hf12 f00 f01 f02 f03 f04 f10 f11 f12 f13 f14 kb10 kb11 kb12 B8 B7
  go_region_held3 (fun w'=>w'.cell? ⟨w.heap.size,2,none⟩ = some (.slice A2 n2 c2) /\ w'.cell? ⟨w.heap.size,3,none⟩ = some (.bool p2) /\ w'.cell? ⟨w.heap.size + 1,2,none⟩ = some (.slice A5 n5 c5) /\ w'.cell? ⟨w.heap.size + 1,3,none⟩ = some (.bool p5)) (go_keep) (first | (go_at_call 80; (first | ((with_reducible refine (HS3.out _ _ ?_ ?_).mono ?_); (exact bel); (exact hr8.below bel); (rintro e W20 ⟨r20,rfl,hr20,hb20⟩; obtain ⟨A20,n20,c20,rfl,-,-⟩:=hr20.parts; generalize decide (b * (d':Int) < 0) = q20 at *; have kb20:Below W12.heap.size W12 W20:=bel; clear hb20; obtain ⟨hc20,hf20,hz20⟩:=bcells kb20 (w.heap.size + 2) oM)) | ((with_reducible refine (HS4.out _ _ ?_ ?_).mono ?_); (exact bel); (exact hr7.below bel); (rintro e W21 ⟨r21,rfl,hr21,hb21⟩; obtain ⟨A21,n21,c21,rfl,-,-⟩:=hr21.parts; generalize decide (b' * (d:Int) < 0) = q21 at *; have kb21:Below W20.heap.size W20 W21:=bel; clear hb21; obtain ⟨hc21,hf21,hz21⟩:=bcells kb21 (w.heap.size + 2) oM)))) | (go_at_call 95; (first | ((with_reducible refine (HC2.out _ _ _ ?_ ?_).mono ?_); (exact hr20.below bel); (exact hr21.below bel); (rintro e W22 ⟨rfl,hb22⟩; have kb22:Below W21.heap.size W21 W22:=bel; clear hb22; obtain ⟨hc22,hf22,hz22⟩:=bcells kb22 (w.heap.size + 2) oM)))))
  go_wp2
  go_ret
  exact ⟨by rw [HK.out,if_neg (by simp [HK2.out])]; rfl,bT (bT (bT B12 kb20) kb21) kb22⟩
 ·skip
  have HK2:=hid hk
  have k1:(k == 0) = false:=by simpa using hk
  have k2:(k != 0) = true:=by simpa using hk
  clear hk
  go_enter Tryz.func35,Tryz.ntmps35
  go_wp2_with fail
  go_region_held3 (fun w'=>w'.cell? ⟨w.heap.size,0,none⟩ = some (.slice A1 n1 c1) /\ w'.cell? ⟨w.heap.size,1,none⟩ = some (.bool p1) /\ w'.cell? ⟨w.heap.size,2,none⟩ = some (.slice A2 n2 c2) /\ w'.cell? ⟨w.heap.size,3,none⟩ = some (.bool p2) /\ w'.cell? ⟨w.heap.size,4,none⟩ = some (.slice A3 n3 c3) /\ w'.cell? ⟨w.heap.size + 1,0,none⟩ = some (.slice A4 n4 c4) /\ w'.cell? ⟨w.heap.size + 1,1,none⟩ = some (.bool p4) /\ w'.cell? ⟨w.heap.size + 1,2,none⟩ = some (.slice A5 n5 c5) /\ w'.cell? ⟨w.heap.size + 1,3,none⟩ = some (.bool p5) /\ w'.cell? ⟨w.heap.size + 1,4,none⟩ = some (.slice A6 n6 c6)) (go_keep) (first | (go_at_call 77; (first | ((with_reducible refine (HD1.out _ ?_).mono ?_); (exact bel); (rintro e W7 ⟨r7,rfl,hr7,hb7⟩; obtain ⟨A7,n7,c7,rfl,hnn7⟩:=hr7.ex; clear hnn7; obtain ⟨hc7,hf7,hz7⟩:=bcells hb7 (w.heap.size + 2) sP)) | ((with_reducible refine (HD2.out _ ?_).mono ?_); (exact bel); (rintro e W8 ⟨r8,rfl,hr8,hb8⟩; obtain ⟨A8,n8,c8,rfl,hnn8⟩:=hr8.ex; clear hnn8; have kb8:Below W7.heap.size W7 W8:=bel; clear hb8; obtain ⟨hc8,hf8,hz8⟩:=bcells kb8 (w.heap.size + 2) oM)))))
  go_wp2_with fail
  have B7:Below w.heap.size w W7:=bel
  have B8:=bT B7 kb8
  have f00:W8.cell? ⟨w.heap.size,0,none⟩ = some (.slice A1 n1 c1):=(hc8 _ _ oM).trans ((hc7 _ _ oM).trans sG)
  have f01:W8.cell? ⟨w.heap.size,1,none⟩ = some (.bool p1):=(hc8 _ _ oM).trans ((hc7 _ _ oM).trans sG)
  have f02:W8.cell? ⟨w.heap.size,2,none⟩ = some (.slice A2 n2 c2):=(hc8 _ _ oM).trans ((hc7 _ _ oM).trans sG)
  have f03:W8.cell? ⟨w.heap.size,3,none⟩ = some (.bool p2):=(hc8 _ _ oM).trans ((hc7 _ _ oM).trans sG)
  have f04:W8.cell? ⟨w.heap.size,4,none⟩ = some (.slice A3 n3 c3):=(hc8 _ _ oM).trans ((hc7 _ _ oM).trans sG)
  have f10:W8.cell? ⟨w.heap.size + 1,0,none⟩ = some (.slice A4 n4 c4):=(hc8 _ _ oM).trans ((hc7 _ _ oM).trans sG)
  have f11:W8.cell? ⟨w.heap.size + 1,1,none⟩ = some (.bool p4):=(hc8 _ _ oM).trans ((hc7 _ _ oM).trans sG)
  have f12:W8.cell? ⟨w.heap.size + 1,2,none⟩ = some (.slice A5 n5 c5):=(hc8 _ _ oM).trans ((hc7 _ _ oM).trans sG)
  have f13:W8.cell? ⟨w.heap.size + 1,3,none⟩ = some (.bool p5):=(hc8 _ _ oM).trans ((hc7 _ _ oM).trans sG)
  have f14:W8.cell? ⟨w.heap.size + 1,4,none⟩ = some (.slice A6 n6 c6):=(hc8 _ _ oM).trans ((hc7 _ _ oM).trans sG)
  have hr7:=hr7.below kb8
  clear hc7 hf7 hc8 hf8
  go_region_held3 (fun w'=>w'.cell? ⟨w.heap.size,0,none⟩ = some (.slice A1 n1 c1) /\ w'.cell? ⟨w.heap.size,1,none⟩ = some (.bool p1) /\ w'.cell? ⟨w.heap.size + 1,0,none⟩ = some (.slice A4 n4 c4) /\ w'.cell? ⟨w.heap.size + 1,1,none⟩ = some (.bool p4)) (go_keep) (first | (go_at_call 80; (first | ((with_reducible refine (HS1.out _ _ ?_ ?_).mono ?_); (exact bel); (exact hr8.below bel); (rintro e W10 ⟨r10,rfl,hr10,hb10⟩; obtain ⟨A10,n10,c10,rfl,-,-⟩:=hr10.parts; generalize decide (a * (d':Int) < 0) = q10 at *; have kb10:Below W8.heap.size W8 W10:=bel; clear hb10; obtain ⟨hc10,hf10,hz10⟩:=bcells kb10 (w.heap.size + 2) oM)) | ((with_reducible refine (HS2.out _ _ ?_ ?_).mono ?_); (exact bel); (exact hr7.below bel); (rintro e W11 ⟨r11,rfl,hr11,hb11⟩; obtain ⟨A11,n11,c11,rfl,-,-⟩:=hr11.parts; generalize decide (a' * (d:Int) < 0) = q11 at *; have kb11:Below W10.heap.size W10 W11:=bel; clear hb11; obtain ⟨hc11,hf11,hz11⟩:=bcells kb11 (w.heap.size + 2) oM)))) | (go_at_call 95; (first | ((with_reducible refine (HC1.out _ _ _ ?_ ?_).mono ?_); (exact hr10.below bel); (exact hr11.below bel); (rintro e W12 ⟨rfl,hb12⟩; have kb12:Below W11.heap.size W11 W12:=bel; clear hb12; obtain ⟨hc12,hf12,hz12⟩:=bcells kb12 (w.heap.size + 2) oM)))))
  go_wp2
  go_ret
  exact ⟨by rw [HK.out,if_pos HK2.out]; rfl,bT (bT (bT B8 kb10) kb11) kb12⟩
end Go.Proofs.YtffegeaflohfhaaGreatDoor
