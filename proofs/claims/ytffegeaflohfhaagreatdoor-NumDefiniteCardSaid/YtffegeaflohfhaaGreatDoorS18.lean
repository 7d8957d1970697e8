import Derived.Test.YtffegeaflohfhaaGreatDoorS16
import Derived.Test.YtffegeaflohfhaaGreatDoorS17
import Derived.Test.YtffegeaflohfhaaGreatDoorS02
set_option linter.unusedVariables false
set_option linter.unusedSimpArgs false
set_option maxRecDepth 100000
set_option maxHeartbeats 8000000
namespace Go.Proofs.YtffegeaflohfhaaGreatDoor
open Go.RowKit
theorem sub_eq (x y:Cx):x.sub y = x.add y.neg:=Cx.ext (by simp [Cx.sub,Cx.add,Cx.neg]; grind) (by simp [Cx.sub,Cx.add,Cx.neg]; grind)
theorem subN_any (v u:Value) (x y:Cx) (w:World) (h:IsNum w v x) (h':IsNum w u y) (m n:Nat) (hx:Sz x m) (hy:Sz y n) (hm:m + n + 1 < 549755813888) (hT:Tab w) :
  Calls Tryz.prog 197 #[v,u] w (RetNum w (x.sub y)):=by
 rw [sub_eq]
 have HN:=hid (fun W (hb:Below w.heap.size w W)=>negN_any _ _ W (h'.below hb))
 have HA:=hid (fun W u (hb:Below w.heap.size w W) (hu:IsNum W u y.neg)=>addN_any _ u _ _ W (h.below hb) hu m n hx hy.neg hm (hT.below hb))
 obtain ⟨A1,n1,c1,p1,A2,n2,c2,p2,A3,n3,c3,a,b,d,rfl,-⟩:=h.parts
 obtain ⟨A4,n4,c4,p4,A5,n5,c5,p5,A6,n6,c6,a',b',d',rfl,-⟩:=h'.parts
 clear h h' hx hy hm hT
 go_enter Tryz.func197,Tryz.ntmps197
 go_upto_region 1 with fail
 obtain ⟨W1,hW1⟩:∃ W1:World,W1 = (((w.alloc (.cells #[.slice A1 n1 c1,.bool p1,.slice A2 n2 c2,.bool p2,.slice A3 n3 c3] 35)).alloc (.cells #[.slice A4 n4 c4,.bool p4,.slice A5 n5 c5,.bool p5,.slice A6 n6 c6] 35)).alloc (.cells #[.slice none 0 0,.bool false,.slice none 0 0,.bool false,.slice none 0 0] 35)):=⟨_,rfl⟩
 rw [<- hW1]
 have B1:Below w.heap.size w W1:=by rw [hW1]; exact bel
 have hz1:w.heap.size + 3 <= W1.heap.size:=by rw [hW1]; simp
 obtain ⟨f0_0,f0_1,f0_2,f0_3,f0_4,yf0_0,yf0_1,yf0_2,yf0_3,yf0_4⟩:Bx5 W1 (w.heap.size) (.slice A1 n1 c1) (.bool p1) (.slice A2 n2 c2) (.bool p2) (.slice A3 n3 c3):=by rw [hW1]; simp [Bx5,go_sem]
 obtain ⟨f1_0,f1_1,f1_2,f1_3,f1_4,yf1_0,yf1_1,yf1_2,yf1_3,yf1_4⟩:Bx5 W1 (w.heap.size + 1) (.slice A4 n4 c4) (.bool p4) (.slice A5 n5 c5) (.bool p5) (.slice A6 n6 c6):=by rw [hW1]; simp [Bx5,go_sem]
 obtain ⟨f2_0,f2_1,f2_2,f2_3,f2_4,yf2_0,yf2_1,yf2_2,yf2_3,yf2_4⟩:Bx5 W1 (w.heap.size + 1 + 1) (.slice none 0 0) (.bool false) (.slice none 0 0) (.bool false) (.slice none 0 0):=by rw [hW1]; simp [Bx5,go_sem]
 clear hW1
 have lt0_0:w.heap.size < W1.heap.size:=oM
 have lt0_1:w.heap.size + 1 < W1.heap.size:=oM
 have lt0_2:w.heap.size + 1 + 1 < W1.heap.size:=oM
 have ne0_0_0:w.heap.size ≠ W1.heap.size:=oM
 have en0_0_0:W1.heap.size ≠ w.heap.size:=oM
 have ne0_1_0:w.heap.size + 1 ≠ W1.heap.size:=oM
 have en0_1_0:W1.heap.size ≠ w.heap.size + 1:=oM
 have ne0_2_0:w.heap.size + 1 + 1 ≠ W1.heap.size:=oM
 have en0_2_0:W1.heap.size ≠ w.heap.size + 1 + 1:=oM
 have nr_0:w.heap.size + 1 + 1 ≠ w.heap.size:=oM
 have mr_0:w.heap.size ≠ w.heap.size + 1 + 1:=oM
 have nr_1:w.heap.size + 1 + 1 ≠ w.heap.size + 1:=oM
 have mr_1:w.heap.size + 1 ≠ w.heap.size + 1 + 1:=oM
 have NB1:NumBox W1 (w.heap.size + 1 + 1):=.nil f2_0 f2_1 f2_2 f2_3 f2_4
 go_region_held3 (fun w'=>w'.cell? ⟨w.heap.size,0,none⟩ = some (.slice A1 n1 c1) /\ w'.cell? ⟨w.heap.size,1,none⟩ = some (.bool p1) /\ w'.cell? ⟨w.heap.size,2,none⟩ = some (.slice A2 n2 c2) /\ w'.cell? ⟨w.heap.size,3,none⟩ = some (.bool p2) /\ w'.cell? ⟨w.heap.size,4,none⟩ = some (.slice A3 n3 c3) /\ w'.cell? ⟨w.heap.size + 1,0,none⟩ = some (.slice A4 n4 c4) /\ w'.cell? ⟨w.heap.size + 1,1,none⟩ = some (.bool p4) /\ w'.cell? ⟨w.heap.size + 1,2,none⟩ = some (.slice A5 n5 c5) /\ w'.cell? ⟨w.heap.size + 1,3,none⟩ = some (.bool p5) /\ w'.cell? ⟨w.heap.size + 1,4,none⟩ = some (.slice A6 n6 c6)) (go_keep) (first | (go_at_call 26; (first | ((with_reducible refine (HN.out _ ?_).mono ?_); (exact bel); (rintro e W7 ⟨r7,rfl,hr7,hb7⟩; obtain ⟨A7,n7,c7,p7,A7',n7',c7',p7',A7'',n7'',c7'',a7,b7,d7,rfl,-⟩:=hr7.parts; have kb7:Below W1.heap.size W1 W7:=bel; clear hb7; obtain ⟨hc7,hf7,hz7⟩:=bcells kb7 (W1.heap.size) oM)))) | (go_at_call 27; (first | ((with_reducible refine (HA.out _ _ ?_ ?_).mono ?_); (exact bel); (exact hr7.below bel); (rintro e W8 ⟨r8,rfl,hr8,hb8⟩; obtain ⟨A8,n8,c8,p8,A8',n8',c8',p8',A8'',n8'',c8'',a8,b8,d8,rfl,-⟩:=hr8.parts; have kb8:Below W7.heap.size W7 W8:=bel; clear hb8; obtain ⟨hc8,hf8,hz8⟩:=bcells kb8 (W1.heap.size) oM)))))
 go_wp2
 have KB:=bT kb7 kb8
 have B9:=bT B1 KB
 obtain ⟨hc9,hf9,hz9⟩:=bcells KB (W1.heap.size) oM
 have NB9:NumBox W8 (w.heap.size + 1 + 1):=NumBox.of hc9 oM NB1
 refine bodyPost_ret (v:=.agg #[.slice A8 n8 c8,.bool p8,.slice A8' n8' c8',.bool p8',.slice A8'' n8'' c8'']) (by simp [results,Tryz.results197]; exact run_load5 NB9 _ _ _ _ _) rfl ?_
 exact RetNum.box B9 oM NB9 hr8 _ _ _ _ _
theorem dn_sq {d:Nat} (h:0 < d):Den (d * d) (dn d * dn d):=by
 unfold dn
 split
 ·next e=>subst e; exact ⟨oM,.inr ⟨rfl,rfl⟩⟩
 ·exact Den.self (Nat.mul_pos h h)
theorem wl_dn (d:Nat):wl (dn d) <= wl d:=wl_mono (by unfold dn; split <;> omega)
theorem normN_any (v:Value) (x:Cx) (w:World) (h:IsNum w v x) (m:Nat) (hx:Sz x m) (hm:2 * m + 1 < 549755813888) (hT:Tab w) :
  Calls Tryz.prog 40 #[v] w (RetNum w x.norm):=by
 obtain ⟨A1,n1,c1,p1,A2,n2,c2,p2,A3,n3,c3,a,b,d,rfl,hl,hr,hi,hs,-,-,-,-,-⟩:=h.parts
 have s1:=hx _ _ _ hl
 have k1:=wl_imul a a
 have k2:=wl_imul b b
 have k3:=wl_iadd (a * a) (b * b)
 have k4:=wl_mul d d
 have k5:=wl_dn d
 have M1:=hid (fun W (hb:Below w.heap.size w W)=>mulI_any _ _ _ _ W (hr.below hb) (hr.below hb) oM)
 have M2:=hid (fun W (hb:Below w.heap.size w W)=>mulI_any _ _ _ _ W (hi.below hb) (hi.below hb) oM)
 have M3:=hid (fun W v u (h1:IsInt W v (a * a)) (h2:IsInt W u (b * b))=>addI_any _ _ _ _ W h1 h2 oM oM)
 have HM:=hid (fun W (hb:Below w.heap.size w W)=>mul_any _ _ _ _ W (hs.below hb) (hs.below hb) oM)
 have ht:=norm_terms hl
 have HLo:=hid (fun W v t (hb:Below w.heap.size w W) (h1:IsInt W v (a * a + b * b)) (h3:IsNat W t (dn d * dn d))=>lowest_any _ (.agg #[.slice none 0 0,.bool false]) _ _ _ (d * d) _ x.norm W h1 (IsInt.zero W none 0) h3 (dn_sq hl.pos) ht.1 ht.2 oM (by simp [wl_zero]) oM (hT.below hb))
 clear ht k1 k2 k3 k4 k5 s1 hl hr hi hs h hx hm hT
 go_enter Tryz.func40,Tryz.ntmps40
 go_upto_region 1 with fail
 obtain ⟨W1,hW1⟩:∃ W1:World,W1 = ((w.alloc (.cells #[.slice A1 n1 c1,.bool p1,.slice A2 n2 c2,.bool p2,.slice A3 n3 c3] 35)).alloc (.cells #[.slice none 0 0,.bool false,.slice none 0 0,.bool false,.slice none 0 0] 35)):=⟨_,rfl⟩
 rw [<- hW1]
 have B1:Below w.heap.size w W1:=by rw [hW1]; exact bel
 have hz1:w.heap.size + 2 <= W1.heap.size:=by rw [hW1]; simp
 obtain ⟨f0_0,f0_1,f0_2,f0_3,f0_4,yf0_0,yf0_1,yf0_2,yf0_3,yf0_4⟩:Bx5 W1 (w.heap.size) (.slice A1 n1 c1) (.bool p1) (.slice A2 n2 c2) (.bool p2) (.slice A3 n3 c3):=by rw [hW1]; simp [Bx5,go_sem]
 obtain ⟨f1_0,f1_1,f1_2,f1_3,f1_4,yf1_0,yf1_1,yf1_2,yf1_3,yf1_4⟩:Bx5 W1 (w.heap.size + 1) (.slice none 0 0) (.bool false) (.slice none 0 0) (.bool false) (.slice none 0 0):=by rw [hW1]; simp [Bx5,go_sem]
 clear hW1
 have lt0_0:w.heap.size < W1.heap.size:=oM
 have lt0_1:w.heap.size + 1 < W1.heap.size:=oM
 have ne0_0_0:w.heap.size ≠ W1.heap.size:=oM
 have en0_0_0:W1.heap.size ≠ w.heap.size:=oM
 have ne0_1_0:w.heap.size + 1 ≠ W1.heap.size:=oM
 have en0_1_0:W1.heap.size ≠ w.heap.size + 1:=oM
 have nr_0:w.heap.size + 1 ≠ w.heap.size:=oM
 have mr_0:w.heap.size ≠ w.heap.size + 1:=oM
 have NB1:NumBox W1 (w.heap.size + 1):=.nil f1_0 f1_1 f1_2 f1_3 f1_4
 go_region_held3 (fun w'=>w'.cell? ⟨w.heap.size,0,none⟩ = some (.slice A1 n1 c1) /\ w'.cell? ⟨w.heap.size,1,none⟩ = some (.bool p1) /\ w'.cell? ⟨w.heap.size,2,none⟩ = some (.slice A2 n2 c2) /\ w'.cell? ⟨w.heap.size,3,none⟩ = some (.bool p2) /\ w'.cell? ⟨w.heap.size,4,none⟩ = some (.slice A3 n3 c3)) (go_keep) (first | (go_at_call 83; (first | ((with_reducible refine (M1.out _ ?_).mono ?_); (exact bel); (rintro e W7 ⟨r7,rfl,hr7,hb7⟩; obtain ⟨A7,n7,c7,rfl,-,-⟩:=hr7.parts; generalize decide (a * a < 0) = q7 at *; have kb7:Below W1.heap.size W1 W7:=bel; clear hb7; obtain ⟨hc7,hf7,hz7⟩:=bcells kb7 (W1.heap.size) oM)) | ((with_reducible refine (M2.out _ ?_).mono ?_); (exact bel); (rintro e W8 ⟨r8,rfl,hr8,hb8⟩; obtain ⟨A8,n8,c8,rfl,-,-⟩:=hr8.parts; generalize decide (b * b < 0) = q8 at *; have kb8:Below W7.heap.size W7 W8:=bel; clear hb8; obtain ⟨hc8,hf8,hz8⟩:=bcells kb8 (W1.heap.size) oM)))) | (go_at_call 76; (first | ((with_reducible refine (M3.out _ _ _ ?_ ?_).mono ?_); (exact hr7.below bel); (exact hr8.below bel); (rintro e W9 ⟨r9,rfl,hr9,hb9⟩; obtain ⟨A9,n9,c9,rfl,-,-⟩:=hr9.parts; generalize decide (a * a + b * b < 0) = q9 at *; have kb9:Below W8.heap.size W8 W9:=bel; clear hb9; obtain ⟨hc9,hf9,hz9⟩:=bcells kb9 (W1.heap.size) oM)))) | (go_at_call 82; (first | ((with_reducible refine (HM.out _ ?_).mono ?_); (exact bel); (rintro e W10 ⟨r10,rfl,hr10,hb10⟩; obtain ⟨A10,n10,c10,rfl,hnn10⟩:=hr10.ex; clear hnn10; have kb10:Below W9.heap.size W9 W10:=bel; clear hb10; obtain ⟨hc10,hf10,hz10⟩:=bcells kb10 (W1.heap.size) oM)))) | (go_at_call 85; (first | ((with_reducible refine (HLo.out _ _ _ ?_ ?_ ?_).mono ?_); (exact bel); (exact hr9.below bel); (exact hr10.below bel); (rintro e W11 ⟨r11,rfl,hr11,hb11⟩; obtain ⟨A11,n11,c11,p11,A11',n11',c11',p11',A11'',n11'',c11'',a11,b11,d11,rfl,-⟩:=hr11.parts; have kb11:Below W10.heap.size W10 W11:=bel; clear hb11; obtain ⟨hc11,hf11,hz11⟩:=bcells kb11 (W1.heap.size) oM)))))
 go_wp2
 have KB:=bT (bT (bT (bT kb7 kb8) kb9) kb10) kb11
 have B9:=bT B1 KB
 obtain ⟨hc9,hf9,hz9⟩:=bcells KB (W1.heap.size) oM
 have NB9:NumBox W11 (w.heap.size + 1):=NumBox.of hc9 oM NB1
 refine bodyPost_ret (v:=.agg #[.slice A11 n11 c11,.bool p11,.slice A11' n11' c11',.bool p11',.slice A11'' n11'' c11'']) (by simp [results,Tryz.results40]; exact run_load5 NB9 _ _ _ _ _) rfl ?_
 exact RetNum.box B9 oM NB9 hr11 _ _ _ _ _
def RetNumE (w:World) (x:Cx) (k:Int) (e:Ending) (w':World):Prop:=∃ v,e = .returned (.tuple #[v,.int .i64 k]) /\ IsNum w' v x /\ Below w.heap.size w w'
theorem RetNumE.box {w W:World} {v:Value} {x:Cx} {k:Int} {g:Nat} (hb:Below w.heap.size w W) (hg:w.heap.size <= g) (hB:NumBox W g) (h:IsNum W v x) (v0 v1 v2 v3 v4:Value) :
  RetNumE w x k (.returned (.tuple #[v,.int .i64 k])) (((((W.setCell ⟨g,0,none⟩ v0).setCell ⟨g,1,none⟩ v1).setCell ⟨g,2,none⟩ v2).setCell ⟨g,3,none⟩ v3).setCell ⟨g,4,none⟩ v4) :=
 ⟨v,rfl,h.box5 hB _ _ _ _ _,below_box5 hb hg _ _ _ _ _⟩
def Cx.ratio (a b d:Int):Cx:=⟨(a:Rat) / (d:Rat),(b:Rat) / (d:Rat)⟩
theorem ratio_terms {p d:Int} (hd:d ≠ 0):((p:Rat) / (d:Rat)) * ((d.natAbs:Nat):Rat) = ((if decide (d < 0) then -p else p:Int):Rat):=by
 have hd':(d:Rat) ≠ 0:=by
  intro e
  exact hd (Rat.intCast_inj.1 (by rw [e]; simp))
 by_cases h:d < 0
 ·rw [if_pos (by simpa using h)]
  have e1:((d.natAbs:Nat):Rat) = -(d:Rat):=by
   rw [<- Rat.intCast_natCast,<- Rat.intCast_neg]
   congr 1
   omega
  rw [e1,Rat.intCast_neg]
  grind
 ·rw [if_neg (by simpa using h)]
  have e1:((d.natAbs:Nat):Rat) = (d:Rat):=by
   rw [<- Rat.intCast_natCast]
   congr 1
   omega
  rw [e1]
  grind
theorem wl_i64 {z:Int} (h1:-9223372036854775808 <= z) (h2:z < 9223372036854775808):wl z.natAbs <= 2:=by
 have:=wl_mono (x:=z.natAbs) (y:=9223372036854775808) oM
 have e:wl 9223372036854775808 = 2:=dK
 omega
theorem run_load5e {w:World} {g:Nat} (h:NumBox w g) (v0 v1 v2 v3 v4 r:Value) :
  ((Sem.run Tryz.prog (asAddr (Value.pointer (some { block:=g,off:=0 }))) (((((w.setCell ⟨g,0,none⟩ v0).setCell ⟨g,1,none⟩ v1).setCell ⟨g,2,none⟩ v2).setCell ⟨g,3,none⟩ v3).setCell ⟨g,4,none⟩ v4)).andThen
   fun a w'=>(Sem.run Tryz.prog (loadVar 35 a) w').andThen fun a w'=>Result.ok (Value.tuple #[a,r]) w') =
  Result.ok (Value.tuple #[Value.agg #[v0,v1,v2,v3,v4],r]) (((((w.setCell ⟨g,0,none⟩ v0).setCell ⟨g,1,none⟩ v1).setCell ⟨g,2,none⟩ v2).setCell ⟨g,3,none⟩ v3).setCell ⟨g,4,none⟩ v4):=by
 obtain ⟨o0,o1,o2,o3,o4,h0,h1,h2,h3,h4,-⟩:=h
 simp [go_sem,h0,h1,h2,h3,h4]
theorem new_any (p q r:Int) (w:World) (hp:-9223372036854775808 <= p) (hp':p < 9223372036854775808) (hq:-9223372036854775808 <= q) (hq':q < 9223372036854775808) (hr:-9223372036854775808 <= r) (hr':r < 9223372036854775808) (h0:r ≠ 0) (hT:Tab w) :
  Calls Tryz.prog 96 #[.int .i64 p,.int .i64 q,.int .i64 r] w (RetNumE w (.ratio p q r) 0):=by
 have s1:=wl_i64 hp hp'
 have s2:=wl_i64 hq hq'
 have s3:=wl_i64 hr hr'
 have FR:=hid (fun W=>fromInt_any r W hr hr')
 have FP:=hid (fun W=>fromInt_any p W hp hp')
 have FQ:=hid (fun W=>fromInt_any q W hq hq')
 have HLo:=hid (fun W v u t (hb:Below w.heap.size w W) (h1:IsInt W v (if decide (r < 0) then -p else p)) (h2:IsInt W u (if decide (r < 0) then -q else q)) (h3:IsNat W t r.natAbs) =>
  lowest_any v u t _ _ r.natAbs _ (.ratio p q r) W h1 h2 h3 (Den.self oM) (ratio_terms h0) (ratio_terms h0) (by split <;> (try rw [Int.natAbs_neg]) <;> omega) (by split <;> (try rw [Int.natAbs_neg]) <;> omega) oM (hT.below hb))
 have r1:(r == 0) = false:=by simpa using h0
 have HS1:=hid (fun W v b (h:IsInt W v p)=>signed_any v p b W h)
 have HS2:=hid (fun W v b (h:IsInt W v q)=>signed_any v q b W h)
 clear s1 s2 s3 hp hp' hq hq' hr hr' h0 hT
 go_enter Tryz.func96,Tryz.ntmps96
 go_wp2_with fail
 refine (FR.out _).mono ?_
 rintro e W7 ⟨v,rfl,hr7,hb7⟩
 obtain ⟨hc7,hf7,hz7⟩:=bcells hb7 (w.heap.size + 1) sP
 obtain ⟨A7,n7,c7,rfl,-,hn7⟩:=hr7.parts
 have hn7':IsNat W7 (.slice A7 n7 c7) r.natAbs:=hn7
 generalize decide (r < 0) = q7 at *
 go_upto_region 4 with fail
 obtain ⟨W1,hW1⟩:∃ W1:World,W1 = W7.alloc (.cells #[.slice A7 n7 c7,.bool q7] 33):=⟨_,rfl⟩
 rw [<- hW1]
 have B1:Below w.heap.size w W1:=by rw [hW1]; exact bel
 have hz1:w.heap.size + 1 <= W7.heap.size /\ W7.heap.size < W1.heap.size:=by rw [hW1]; simp; omega
 have hn1:IsNat W1 (.slice A7 n7 c7) r.natAbs:=by rw [hW1]; exact hn7.below (below_alloc _ _)
 have f8_0:W1.cell? ⟨W7.heap.size,0,none⟩ = some (.slice A7 n7 c7):=by rw [hW1]; simp [go_sem]
 have f8_1:W1.cell? ⟨W7.heap.size,1,none⟩ = some (.bool q7):=by rw [hW1]; simp [go_sem]
 have z0:W1.cell? ⟨w.heap.size,0,none⟩ = some (.slice none 0 0):=by rw [hW1,((below_alloc W7 _).cell (p:=⟨w.heap.size,0,none⟩) (by simp <;> omega))]; exact (hc7 _ _ oM).trans sG
 have z1:W1.cell? ⟨w.heap.size,1,none⟩ = some (.bool false):=by rw [hW1,((below_alloc W7 _).cell (p:=⟨w.heap.size,1,none⟩) (by simp <;> omega))]; exact (hc7 _ _ oM).trans sG
 have z2:W1.cell? ⟨w.heap.size,2,none⟩ = some (.slice none 0 0):=by rw [hW1,((below_alloc W7 _).cell (p:=⟨w.heap.size,2,none⟩) (by simp <;> omega))]; exact (hc7 _ _ oM).trans sG
 have z3:W1.cell? ⟨w.heap.size,3,none⟩ = some (.bool false):=by rw [hW1,((below_alloc W7 _).cell (p:=⟨w.heap.size,3,none⟩) (by simp <;> omega))]; exact (hc7 _ _ oM).trans sG
 have z4:W1.cell? ⟨w.heap.size,4,none⟩ = some (.slice none 0 0):=by rw [hW1,((below_alloc W7 _).cell (p:=⟨w.heap.size,4,none⟩) (by simp <;> omega))]; exact (hc7 _ _ oM).trans sG
 have yz:∀ o,W1.frozen? ⟨w.heap.size,o,none⟩ = false:=fun o=>by rw [hW1,((below_alloc W7 _).frozen (p:=⟨w.heap.size,o,none⟩) (by simp <;> omega))]; exact (hf7 _ _ oM).trans sG
 have yz0:=yz 0
 have yz1:=yz 1
 have yz2:=yz 2
 have yz3:=yz 3
 have yz4:=yz 4
 clear hc7 hf7 hr7 hn7 hn7' hW1 yz
 have NB1:NumBox W1 w.heap.size:=.nil z0 z1 z2 z3 z4
 have ne1:w.heap.size ≠ W7.heap.size:=oM
 have ne2:W7.heap.size ≠ w.heap.size:=oM
 have lt0_0:w.heap.size < W1.heap.size:=oM
 have lt0_1:W7.heap.size < W1.heap.size:=oM
 have ne0_0_0:w.heap.size ≠ W1.heap.size:=oM
 have en0_0_0:W1.heap.size ≠ w.heap.size:=oM
 have ne0_1_0:W7.heap.size ≠ W1.heap.size:=oM
 have en0_1_0:W1.heap.size ≠ W7.heap.size:=oM
 go_region_held3 (fun w'=>w'.cell? ⟨W7.heap.size,0,none⟩ = some (.slice A7 n7 c7) /\ w'.cell? ⟨W7.heap.size,1,none⟩ = some (.bool q7)) (go_keep) (first | (go_at_call 74; (first | ((with_reducible refine (FP.out _).mono ?_);  (rintro e W17 ⟨r17,rfl,hr17,hb17⟩; obtain ⟨A17,n17,c17,rfl,-,-⟩:=hr17.parts; generalize decide (p < 0) = q17 at *; have kb17:Below W1.heap.size W1 W17:=bel; clear hb17; obtain ⟨hc17,hf17,hz17⟩:=bcells kb17 (W1.heap.size) oM; have ne17_0_0:w.heap.size ≠ W17.heap.size:=oM; have en17_0_0:W17.heap.size ≠ w.heap.size:=oM; have ne17_1_0:W7.heap.size ≠ W17.heap.size:=oM; have en17_1_0:W17.heap.size ≠ W7.heap.size:=oM)) | ((with_reducible refine (FQ.out _).mono ?_);  (rintro e W19 ⟨r19,rfl,hr19,hb19⟩; obtain ⟨A19,n19,c19,rfl,-,-⟩:=hr19.parts; generalize decide (q < 0) = q19 at *; have kb19:Below W18.heap.size W18 W19:=bel; clear hb19; obtain ⟨hc19,hf19,hz19⟩:=bcells kb19 (W1.heap.size) oM)))) | (go_at_call 97; (first | ((with_reducible refine (HS1.out _ _ _ ?_).mono ?_); (exact hr17.below bel); (rintro e W18 ⟨r18,rfl,hr18,hb18⟩; obtain ⟨A18,n18,c18,rfl,-,-⟩:=hr18.parts; generalize decide ((if q7 then -p else p) < 0) = q18 at *; have kb18:Below W17.heap.size W17 W18:=bel; clear hb18; obtain ⟨hc18,hf18,hz18⟩:=bcells kb18 (W1.heap.size) oM)) | ((with_reducible refine (HS2.out _ _ _ ?_).mono ?_); (exact hr19.below bel); (rintro e W20 ⟨r20,rfl,hr20,hb20⟩; obtain ⟨A20,n20,c20,rfl,-,-⟩:=hr20.parts; generalize decide ((if q7 then -q else q) < 0) = q20 at *; have kb20:Below W19.heap.size W19 W20:=bel; clear hb20; obtain ⟨hc20,hf20,hz20⟩:=bcells kb20 (W1.heap.size) oM)))) | (go_at_call 85; (first | ((with_reducible refine (HLo.out _ _ _ _ ?_ ?_ ?_ ?_).mono ?_); (exact bel); (exact hr18.below bel); (exact hr20.below bel); (exact hn1.below (bT (bT (bT kb17 kb18) kb19) bel)); (rintro e W21 ⟨r21,rfl,hr21,hb21⟩; obtain ⟨A21,n21,c21,p21,A21',n21',c21',p21',A21'',n21'',c21'',a21,b21,d21,rfl,-⟩:=hr21.parts; have kb21:Below W20.heap.size W20 W21:=bel; clear hb21; obtain ⟨hc21,hf21,hz21⟩:=bcells kb21 (W1.heap.size) oM)))))
 go_wp2
 have KB:=bT (bT (bT (bT kb17 kb18) kb19) kb20) kb21
 have B9:=bT B1 KB
 obtain ⟨hc9,hf9,hz9⟩:=bcells KB (W1.heap.size) oM
 have NB9:NumBox W21 w.heap.size:=NumBox.of hc9 oM NB1
 refine bodyPost_ret (v:=.tuple #[.agg #[.slice A21 n21 c21,.bool p21,.slice A21' n21' c21',.bool p21',.slice A21'' n21'' c21''],.int .i64 0]) (by simp [results,Tryz.results96]; exact run_load5e NB9 _ _ _ _ _ _) rfl ?_
 exact RetNumE.box B9 oM NB9 hr21 _ _ _ _ _
end Go.Proofs.YtffegeaflohfhaaGreatDoor
