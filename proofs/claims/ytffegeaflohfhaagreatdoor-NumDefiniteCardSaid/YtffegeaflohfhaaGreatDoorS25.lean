import Derived.Test.YtffegeaflohfhaaGreatDoorS13
import Derived.Test.YtffegeaflohfhaaGreatDoorS15
import Derived.Test.YtffegeaflohfhaaGreatDoorS24
import Derived.Test.YtffegeaflohfhaaGreatDoorS02
set_option linter.unusedVariables false
set_option linter.unusedSimpArgs false
set_option maxRecDepth 100000
set_option maxHeartbeats 8000000
namespace Go.Proofs.YtffegeaflohfhaaGreatDoor
open Go.RowKit
def rt (p:Rat):List Int:=rtext p.num p.den
def ctext (x:Cx):List Int:=if x.im = 0 then rt x.re else if x.re = 0 then rt x.im ++ [105] else if x.im < 0 then rt x.re ++ rt x.im ++ [105] else rt x.re ++ [43] ++ rt x.im ++ [105]
theorem low_rat (p:Rat):Low ⟨p,0⟩ p.num 0 p.den:=by
 refine ⟨p.den_pos,?_,mul_den p,sP⟩
 have:=p.reduced
 rw [Nat.coprime_comm] at this
 simpa [Nat.Coprime] using this
theorem realT_any (v:Value) (p:Rat) (w:World) (h:IsNum w v ⟨p,0⟩) (m:Nat) (hx:Sz ⟨p,0⟩ m) (hm:m < 549755813888) :
  Calls Tryz.prog 100 #[v] w fun e w'=>e = .returned (.string (strOfNums (rt p))) /\ Below w.heap.size w w':=by
 obtain ⟨s1,-,s2⟩:=hx _ _ _ (low_rat p)
 exact realText_any v _ _ _ _ w h (low_rat p) oM oM
theorem rt_size {p:Rat} {m:Nat} (hx:Sz ⟨p,0⟩ m) (hm:m < 549755813888):(strOfNums (rt p)).size <= 20000000000000:=by
 obtain ⟨s1,-,s2⟩:=hx _ _ _ (low_rat p)
 have h1:=nd_wl p.num.natAbs
 have h2:=nd_wl p.den
 rw [strOfNums_size]
 unfold rt rtext
 have l1:(dec p.num.natAbs).length = nd p.num.natAbs:=by simp [dec]
 have l2:(dec p.den).length = nd p.den:=by simp [dec]
 split <;> split <;> simp [l1,l2] <;> omega
theorem im_neg {x:Cx} {a b:Int} {d:Nat} (h:Low x a b d):x.im < 0 ↔ b < 0:=by
 have hd:(0:Rat) < (d:Rat):=by exact_mod_cast h.pos
 have h2:=h.2.2.2
 have e:(b:Rat) < 0 ↔ b < 0:=by
  have:((b:Int):Rat) < ((0:Int):Rat) ↔ b < 0:=Rat.intCast_lt_intCast
  simpa using this
 rw [<- e,<- h2]
 constructor
 ·intro hx
  have h3:0 < -x.im * (d:Rat):=Rat.mul_pos (by grind) hd
  grind
 ·intro hx
  rcases Rat.le_total (a:=0) (b:=x.im) with h3 | h3
  ·have:=Rat.mul_nonneg h3 (Rat.le_of_lt hd)
   grind
  ·by_cases h4:x.im = 0
   ·rw [h4] at hx; simp at hx
   ·grind
theorem text_re (v:Value) (x:Cx) (w:World) (h:IsNum w v x) (hT:Tab w) (m:Nat) (hx:Sz x m) (hm:m < 549755813888) (h0:x.im = 0) :
  Calls Tryz.prog 39 #[v] w fun e w'=>e = .returned (.string (strOfNums (ctext x))) /\ Below w.heap.size w w':=by
 have hxr:=hx.real
 have hxi:=hx.imag
 have hsr:=rt_size (p:=x.re) hxr hm
 have hsi:=rt_size (p:=x.im) hxi hm
 rw [show ctext x = rt x.re from if_pos h0]
 obtain ⟨S1,hS1⟩:∃ S,S = strOfNums (rt x.re):=⟨_,rfl⟩
 obtain ⟨S2,hS2⟩:∃ S,S = strOfNums (rt x.im):=⟨_,rfl⟩
 try rw [<- hS1]
 try rw [<- hS2]
 rw [<- hS1] at hsr
 rw [<- hS2] at hsi
 have C1:=hid (fun v W (h:IsNum W v ⟨x.re,0⟩)=>realT_any v x.re W h m hxr hm)
 have C2:=hid (fun v W (h:IsNum W v ⟨x.im,0⟩)=>realT_any v x.im W h m hxi hm)
 rw [<- hS1] at C1
 rw [<- hS2] at C2
 clear hS1 hS2
 have HI:=hid h
 obtain ⟨A1,n1,c1,p1,A2,n2,c2,p2,A3,n3,c3,a,b,d,rfl,hl,hr,hi,hs,hn3,hq1,hq2,-,-⟩:=h.parts
 have hb0:b = 0:=(im_zero hl).1 h0
 have HL:=hid hl
 have HR:=hid hr
 have HM:=hid hi
 have HT:=hid hT
 clear hs hn3 hq1 hl hr hi hT h hq2 h0
 go_enter Tryz.func39,Tryz.ntmps39
 go_upto_region 1 with fail
 obtain ⟨W1,hW1⟩:∃ W1:World,W1 = (w.alloc (.cells #[.slice A1 n1 c1,.bool p1,.slice A2 n2 c2,.bool p2,.slice A3 n3 c3] 35)):=⟨_,rfl⟩
 rw [<- hW1]
 have B1:Below w.heap.size w W1:=by rw [hW1]; exact bel
 have z1:w.heap.size < W1.heap.size:=by rw [hW1]; simp
 have X1:W1.heap[w.heap.size]? = some (.cells #[.slice A1 n1 c1,.bool p1,.slice A2 n2 c2,.bool p2,.slice A3 n3 c3] 35 (0,0)):=by rw [hW1]; exact heap_alloc_new _ _
 clear hW1
 refine region_lin [.val (kIs (.agg #[.slice A1 n1 c1,.bool p1,.slice A2 n2 c2,.bool p2,.slice A3 n3 c3])),.val (kNum (x.real)),.val (kIs (.agg #[.slice A1 n1 c1,.bool p1,.slice A2 n2 c2,.bool p2,.slice A3 n3 c3])),.val (kNum (x.imag)),.box 35 zNum,.box 35 zNum,.put 4 1,.put 5 3]
  kR kR kR kR kR ⟨stab_is _,stab_num _,stab_is _,stab_num _,trivial⟩ sP ⟨?_,?_,?_,?_,alloc_num,alloc_num,store_num _,store_num _,trivial⟩ ?_
 ·intro ts W hb hB hp K hK
  simp only [fillT,zA,Nat.reduceAdd,sA,sB,sC] at hK ⊢
  refine ⟨?_⟩
  refine wp_load_row _ _ rfl (w.heap.size) rfl _ _ (0,0) _ ((hb.block _ (z1)).trans X1) Tryz.underlying35 rfl kR ?_
  exact hK _ _ rfl rfB
 ·intro ts W hb hB hp
  have h0:ts 0 = _:=hp 0 kR
  intro K hK
  simp only [fillT,zA,Nat.reduceAdd,sA,sB,sC,h0] at hK ⊢
  have HK:=hid hK
  clear hK hp
  refine ⟨?_⟩
  go_simp
  refine (reN_any _ x W ((HI.out.below B1).below hb) ((HT.out.below B1).below hb) m hx hm).mono ?_
  rintro e W9 ⟨r9,rfl,hr9,hb9⟩
  exact HK.out _ _ hr9 hb9
 ·intro ts W hb hB hp K hK
  simp only [fillT,zA,Nat.reduceAdd,sA,sB,sC] at hK ⊢
  refine ⟨?_⟩
  refine wp_load_row _ _ rfl (w.heap.size) rfl _ _ (0,0) _ ((hb.block _ (z1)).trans X1) Tryz.underlying35 rfl kR ?_
  exact hK _ _ rfl rfB
 ·intro ts W hb hB hp
  have h2:ts 2 = _:=hp 2 kR
  intro K hK
  simp only [fillT,zA,Nat.reduceAdd,sA,sB,sC,h2] at hK ⊢
  have HK:=hid hK
  clear hK hp
  refine ⟨?_⟩
  go_simp
  refine (imN_any _ x W ((HI.out.below B1).below hb) ((HT.out.below B1).below hb) m hx hm).mono ?_
  rintro e W9 ⟨r9,rfl,hr9,hb9⟩
  exact HK.out _ _ hr9 hb9
 intro ts W2 hb2 hh hap
 obtain ⟨g4,A4,n4,c4,p4,A4b,n4b,c4b,p4b,A4c,n4c,c4c,e4,lo4,z4,X4,N4⟩:=held_box (x:=x.real) (hh 4 sP) rfl (hh 6 sP) rfl (hh 1 sP) rfl
 obtain ⟨g5,A5,n5,c5,p5,A5b,n5b,c5b,p5b,A5c,n5c,c5c,e5,lo5,z5,X5,N5⟩:=held_box (x:=x.imag) (hh 5 sP) rfl (hh 7 sP) rfl (hh 3 sP) rfl
 simp only [fillT,zA,Nat.reduceAdd,sA,sB,sC,e4,e5]
 clear hh hap e4 e5
 generalize ts 0 = u0_W2 at *
 generalize ts 1 = u1_W2 at *
 generalize ts 2 = u2_W2 at *
 generalize ts 3 = u3_W2 at *
 clear ts
 replace X1:=(hb2.block _ z1).trans X1
 replace z1:=lL z1 hb2.size
 replace B1:=bT B1 hb2
 clear hb2
 obtain ⟨f0,f1,f2,f3,f4,y0,y1,y2,y3,y4⟩:=bx5 X1
 go_wp2_with fail
 refine (isZero_t _ _ _ (HM.out.below B1) hb0).mono ?_
 rintro e W3 ⟨rfl,hb⟩
 clear f0 f1 f2 f3 f4 y0 y1 y2 y3 y4
 replace X1:=(hb.block _ z1).trans X1
 replace z1:=lL z1 hb.size
 replace X4:=(hb.block _ z4).trans X4
 replace z4:=lL z4 hb.size
 replace X5:=(hb.block _ z5).trans X5
 replace z5:=lL z5 hb.size
 replace N4:=N4.below hb
 replace N5:=N5.below hb
 replace B1:=bT B1 hb
 clear hb
 obtain ⟨f0,f1,f2,f3,f4,y0,y1,y2,y3,y4⟩:=bx5 X4
 go_wp2_with fail
 refine (C1.out _ _ N4).mono ?_
 rintro e W4 ⟨rfl,hb⟩
 clear f0 f1 f2 f3 f4 y0 y1 y2 y3 y4
 replace X1:=(hb.block _ z1).trans X1
 replace z1:=lL z1 hb.size
 replace X4:=(hb.block _ z4).trans X4
 replace z4:=lL z4 hb.size
 replace X5:=(hb.block _ z5).trans X5
 replace z5:=lL z5 hb.size
 replace N4:=N4.below hb
 replace N5:=N5.below hb
 replace B1:=bT B1 hb
 clear hb
 clear X1 X4 X5
 go_wp2
 go_ret
 exact ⟨rfl,B1⟩
theorem text_im (v:Value) (x:Cx) (w:World) (h:IsNum w v x) (hT:Tab w) (m:Nat) (hx:Sz x m) (hm:m < 549755813888) (h0:x.im ≠ 0) (h1:x.re = 0) :
  Calls Tryz.prog 39 #[v] w fun e w'=>e = .returned (.string (strOfNums (ctext x))) /\ Below w.heap.size w w':=by
 have hxr:=hx.real
 have hxi:=hx.imag
 have hsr:=rt_size (p:=x.re) hxr hm
 have hsi:=rt_size (p:=x.im) hxi hm
 rw [show ctext x = rt x.im ++ [105] from (if_neg h0).trans (if_pos h1),<- strs_append,show strOfNums [105] = { data:=#[105] } from rfl]
 obtain ⟨S1,hS1⟩:∃ S,S = strOfNums (rt x.re):=⟨_,rfl⟩
 obtain ⟨S2,hS2⟩:∃ S,S = strOfNums (rt x.im):=⟨_,rfl⟩
 try rw [<- hS1]
 try rw [<- hS2]
 rw [<- hS1] at hsr
 rw [<- hS2] at hsi
 have C1:=hid (fun v W (h:IsNum W v ⟨x.re,0⟩)=>realT_any v x.re W h m hxr hm)
 have C2:=hid (fun v W (h:IsNum W v ⟨x.im,0⟩)=>realT_any v x.im W h m hxi hm)
 rw [<- hS1] at C1
 rw [<- hS2] at C2
 clear hS1 hS2
 have HI:=hid h
 obtain ⟨A1,n1,c1,p1,A2,n2,c2,p2,A3,n3,c3,a,b,d,rfl,hl,hr,hi,hs,hn3,hq1,hq2,-,-⟩:=h.parts
 have hb0:b ≠ 0:=fun e=>h0 ((im_zero hl).2 e)
 have ha0:a = 0:=(re_zero hl).1 h1
 have HL:=hid hl
 have HR:=hid hr
 have HM:=hid hi
 have HT:=hid hT
 clear hs hn3 hq1 hl hr hi hT h hq2 h0 h1
 go_enter Tryz.func39,Tryz.ntmps39
 go_upto_region 1 with fail
 obtain ⟨W1,hW1⟩:∃ W1:World,W1 = (w.alloc (.cells #[.slice A1 n1 c1,.bool p1,.slice A2 n2 c2,.bool p2,.slice A3 n3 c3] 35)):=⟨_,rfl⟩
 rw [<- hW1]
 have B1:Below w.heap.size w W1:=by rw [hW1]; exact bel
 have z1:w.heap.size < W1.heap.size:=by rw [hW1]; simp
 have X1:W1.heap[w.heap.size]? = some (.cells #[.slice A1 n1 c1,.bool p1,.slice A2 n2 c2,.bool p2,.slice A3 n3 c3] 35 (0,0)):=by rw [hW1]; exact heap_alloc_new _ _
 clear hW1
 refine region_lin [.val (kIs (.agg #[.slice A1 n1 c1,.bool p1,.slice A2 n2 c2,.bool p2,.slice A3 n3 c3])),.val (kNum (x.real)),.val (kIs (.agg #[.slice A1 n1 c1,.bool p1,.slice A2 n2 c2,.bool p2,.slice A3 n3 c3])),.val (kNum (x.imag)),.box 35 zNum,.box 35 zNum,.put 4 1,.put 5 3]
  kR kR kR kR kR ⟨stab_is _,stab_num _,stab_is _,stab_num _,trivial⟩ sP ⟨?_,?_,?_,?_,alloc_num,alloc_num,store_num _,store_num _,trivial⟩ ?_
 ·intro ts W hb hB hp K hK
  simp only [fillT,zA,Nat.reduceAdd,sA,sB,sC] at hK ⊢
  refine ⟨?_⟩
  refine wp_load_row _ _ rfl (w.heap.size) rfl _ _ (0,0) _ ((hb.block _ (z1)).trans X1) Tryz.underlying35 rfl kR ?_
  exact hK _ _ rfl rfB
 ·intro ts W hb hB hp
  have h0:ts 0 = _:=hp 0 kR
  intro K hK
  simp only [fillT,zA,Nat.reduceAdd,sA,sB,sC,h0] at hK ⊢
  have HK:=hid hK
  clear hK hp
  refine ⟨?_⟩
  go_simp
  refine (reN_any _ x W ((HI.out.below B1).below hb) ((HT.out.below B1).below hb) m hx hm).mono ?_
  rintro e W9 ⟨r9,rfl,hr9,hb9⟩
  exact HK.out _ _ hr9 hb9
 ·intro ts W hb hB hp K hK
  simp only [fillT,zA,Nat.reduceAdd,sA,sB,sC] at hK ⊢
  refine ⟨?_⟩
  refine wp_load_row _ _ rfl (w.heap.size) rfl _ _ (0,0) _ ((hb.block _ (z1)).trans X1) Tryz.underlying35 rfl kR ?_
  exact hK _ _ rfl rfB
 ·intro ts W hb hB hp
  have h2:ts 2 = _:=hp 2 kR
  intro K hK
  simp only [fillT,zA,Nat.reduceAdd,sA,sB,sC,h2] at hK ⊢
  have HK:=hid hK
  clear hK hp
  refine ⟨?_⟩
  go_simp
  refine (imN_any _ x W ((HI.out.below B1).below hb) ((HT.out.below B1).below hb) m hx hm).mono ?_
  rintro e W9 ⟨r9,rfl,hr9,hb9⟩
  exact HK.out _ _ hr9 hb9
 intro ts W2 hb2 hh hap
 obtain ⟨g4,A4,n4,c4,p4,A4b,n4b,c4b,p4b,A4c,n4c,c4c,e4,lo4,z4,X4,N4⟩:=held_box (x:=x.real) (hh 4 sP) rfl (hh 6 sP) rfl (hh 1 sP) rfl
 obtain ⟨g5,A5,n5,c5,p5,A5b,n5b,c5b,p5b,A5c,n5c,c5c,e5,lo5,z5,X5,N5⟩:=held_box (x:=x.imag) (hh 5 sP) rfl (hh 7 sP) rfl (hh 3 sP) rfl
 simp only [fillT,zA,Nat.reduceAdd,sA,sB,sC,e4,e5]
 clear hh hap e4 e5
 generalize ts 0 = u0_W2 at *
 generalize ts 1 = u1_W2 at *
 generalize ts 2 = u2_W2 at *
 generalize ts 3 = u3_W2 at *
 clear ts
 replace X1:=(hb2.block _ z1).trans X1
 replace z1:=lL z1 hb2.size
 replace B1:=bT B1 hb2
 clear hb2
 obtain ⟨f0,f1,f2,f3,f4,y0,y1,y2,y3,y4⟩:=bx5 X1
 go_wp2_with fail
 refine (isZero_f _ _ _ (HM.out.below B1) hb0).mono ?_
 rintro e W3 ⟨rfl,hb⟩
 clear f0 f1 f2 f3 f4 y0 y1 y2 y3 y4
 replace X1:=(hb.block _ z1).trans X1
 replace z1:=lL z1 hb.size
 replace X4:=(hb.block _ z4).trans X4
 replace z4:=lL z4 hb.size
 replace X5:=(hb.block _ z5).trans X5
 replace z5:=lL z5 hb.size
 replace N4:=N4.below hb
 replace N5:=N5.below hb
 replace B1:=bT B1 hb
 clear hb
 obtain ⟨f0,f1,f2,f3,f4,y0,y1,y2,y3,y4⟩:=bx5 X1
 go_wp2_with fail
 refine (isZero_t _ _ _ (HR.out.below B1) ha0).mono ?_
 rintro e W4 ⟨rfl,hb⟩
 clear f0 f1 f2 f3 f4 y0 y1 y2 y3 y4
 replace X1:=(hb.block _ z1).trans X1
 replace z1:=lL z1 hb.size
 replace X4:=(hb.block _ z4).trans X4
 replace z4:=lL z4 hb.size
 replace X5:=(hb.block _ z5).trans X5
 replace z5:=lL z5 hb.size
 replace N4:=N4.below hb
 replace N5:=N5.below hb
 replace B1:=bT B1 hb
 clear hb
 obtain ⟨f0,f1,f2,f3,f4,y0,y1,y2,y3,y4⟩:=bx5 X5
 go_wp2_with fail
 refine (C2.out _ _ N5).mono ?_
 rintro e W5 ⟨rfl,hb⟩
 clear f0 f1 f2 f3 f4 y0 y1 y2 y3 y4
 replace X1:=(hb.block _ z1).trans X1
 replace z1:=lL z1 hb.size
 replace X4:=(hb.block _ z4).trans X4
 replace z4:=lL z4 hb.size
 replace X5:=(hb.block _ z5).trans X5
 replace z5:=lL z5 hb.size
 replace N4:=N4.below hb
 replace N5:=N5.below hb
 replace B1:=bT B1 hb
 clear hb
 clear X1 X4 X5
 have y2:¬ (9223372036854775807 < S2.size + 1):=oM
 go_wp2
 go_ret
 exact ⟨rfl,B1⟩
theorem text_lo (v:Value) (x:Cx) (w:World) (h:IsNum w v x) (hT:Tab w) (m:Nat) (hx:Sz x m) (hm:m < 549755813888) (h0:x.im ≠ 0) (h1:x.re ≠ 0) (h2:x.im < 0) :
  Calls Tryz.prog 39 #[v] w fun e w'=>e = .returned (.string (strOfNums (ctext x))) /\ Below w.heap.size w w':=by
 have hxr:=hx.real
 have hxi:=hx.imag
 have hsr:=rt_size (p:=x.re) hxr hm
 have hsi:=rt_size (p:=x.im) hxi hm
 rw [show ctext x = rt x.re ++ rt x.im ++ [105] from (if_neg h0).trans ((if_neg h1).trans (if_pos h2)),<- strs_append,<- strs_append,show strOfNums [105] = { data:=#[105] } from rfl]
 obtain ⟨S1,hS1⟩:∃ S,S = strOfNums (rt x.re):=⟨_,rfl⟩
 obtain ⟨S2,hS2⟩:∃ S,S = strOfNums (rt x.im):=⟨_,rfl⟩
 try rw [<- hS1]
 try rw [<- hS2]
 rw [<- hS1] at hsr
 rw [<- hS2] at hsi
 have C1:=hid (fun v W (h:IsNum W v ⟨x.re,0⟩)=>realT_any v x.re W h m hxr hm)
 have C2:=hid (fun v W (h:IsNum W v ⟨x.im,0⟩)=>realT_any v x.im W h m hxi hm)
 rw [<- hS1] at C1
 rw [<- hS2] at C2
 clear hS1 hS2
 have HI:=hid h
 obtain ⟨A1,n1,c1,p1,A2,n2,c2,p2,A3,n3,c3,a,b,d,rfl,hl,hr,hi,hs,hn3,hq1,hq2,-,-⟩:=h.parts
 have hb0:b ≠ 0:=fun e=>h0 ((im_zero hl).2 e)
 have ha0:a ≠ 0:=fun e=>h1 ((re_zero hl).2 e)
 have hp2:p2 = true:=by
  rw [hq2]
  exact decide_eq_true ((im_neg hl).1 h2)
 subst hp2
 have HL:=hid hl
 have HR:=hid hr
 have HM:=hid hi
 have HT:=hid hT
 clear hs hn3 hq1 hl hr hi hT h hq2 h0 h1 h2
 go_enter Tryz.func39,Tryz.ntmps39
 go_upto_region 1 with fail
 obtain ⟨W1,hW1⟩:∃ W1:World,W1 = (w.alloc (.cells #[.slice A1 n1 c1,.bool p1,.slice A2 n2 c2,.bool true,.slice A3 n3 c3] 35)):=⟨_,rfl⟩
 rw [<- hW1]
 have B1:Below w.heap.size w W1:=by rw [hW1]; exact bel
 have z1:w.heap.size < W1.heap.size:=by rw [hW1]; simp
 have X1:W1.heap[w.heap.size]? = some (.cells #[.slice A1 n1 c1,.bool p1,.slice A2 n2 c2,.bool true,.slice A3 n3 c3] 35 (0,0)):=by rw [hW1]; exact heap_alloc_new _ _
 clear hW1
 refine region_lin [.val (kIs (.agg #[.slice A1 n1 c1,.bool p1,.slice A2 n2 c2,.bool true,.slice A3 n3 c3])),.val (kNum (x.real)),.val (kIs (.agg #[.slice A1 n1 c1,.bool p1,.slice A2 n2 c2,.bool true,.slice A3 n3 c3])),.val (kNum (x.imag)),.box 35 zNum,.box 35 zNum,.put 4 1,.put 5 3]
  kR kR kR kR kR ⟨stab_is _,stab_num _,stab_is _,stab_num _,trivial⟩ sP ⟨?_,?_,?_,?_,alloc_num,alloc_num,store_num _,store_num _,trivial⟩ ?_
 ·intro ts W hb hB hp K hK
  simp only [fillT,zA,Nat.reduceAdd,sA,sB,sC] at hK ⊢
  refine ⟨?_⟩
  refine wp_load_row _ _ rfl (w.heap.size) rfl _ _ (0,0) _ ((hb.block _ (z1)).trans X1) Tryz.underlying35 rfl kR ?_
  exact hK _ _ rfl rfB
 ·intro ts W hb hB hp
  have h0:ts 0 = _:=hp 0 kR
  intro K hK
  simp only [fillT,zA,Nat.reduceAdd,sA,sB,sC,h0] at hK ⊢
  have HK:=hid hK
  clear hK hp
  refine ⟨?_⟩
  go_simp
  refine (reN_any _ x W ((HI.out.below B1).below hb) ((HT.out.below B1).below hb) m hx hm).mono ?_
  rintro e W9 ⟨r9,rfl,hr9,hb9⟩
  exact HK.out _ _ hr9 hb9
 ·intro ts W hb hB hp K hK
  simp only [fillT,zA,Nat.reduceAdd,sA,sB,sC] at hK ⊢
  refine ⟨?_⟩
  refine wp_load_row _ _ rfl (w.heap.size) rfl _ _ (0,0) _ ((hb.block _ (z1)).trans X1) Tryz.underlying35 rfl kR ?_
  exact hK _ _ rfl rfB
 ·intro ts W hb hB hp
  have h2:ts 2 = _:=hp 2 kR
  intro K hK
  simp only [fillT,zA,Nat.reduceAdd,sA,sB,sC,h2] at hK ⊢
  have HK:=hid hK
  clear hK hp
  refine ⟨?_⟩
  go_simp
  refine (imN_any _ x W ((HI.out.below B1).below hb) ((HT.out.below B1).below hb) m hx hm).mono ?_
  rintro e W9 ⟨r9,rfl,hr9,hb9⟩
  exact HK.out _ _ hr9 hb9
 intro ts W2 hb2 hh hap
 obtain ⟨g4,A4,n4,c4,p4,A4b,n4b,c4b,p4b,A4c,n4c,c4c,e4,lo4,z4,X4,N4⟩:=held_box (x:=x.real) (hh 4 sP) rfl (hh 6 sP) rfl (hh 1 sP) rfl
 obtain ⟨g5,A5,n5,c5,p5,A5b,n5b,c5b,p5b,A5c,n5c,c5c,e5,lo5,z5,X5,N5⟩:=held_box (x:=x.imag) (hh 5 sP) rfl (hh 7 sP) rfl (hh 3 sP) rfl
 simp only [fillT,zA,Nat.reduceAdd,sA,sB,sC,e4,e5]
 clear hh hap e4 e5
 generalize ts 0 = u0_W2 at *
 generalize ts 1 = u1_W2 at *
 generalize ts 2 = u2_W2 at *
 generalize ts 3 = u3_W2 at *
 clear ts
 replace X1:=(hb2.block _ z1).trans X1
 replace z1:=lL z1 hb2.size
 replace B1:=bT B1 hb2
 clear hb2
 obtain ⟨f0,f1,f2,f3,f4,y0,y1,y2,y3,y4⟩:=bx5 X1
 go_wp2_with fail
 refine (isZero_f _ _ _ (HM.out.below B1) hb0).mono ?_
 rintro e W3 ⟨rfl,hb⟩
 clear f0 f1 f2 f3 f4 y0 y1 y2 y3 y4
 replace X1:=(hb.block _ z1).trans X1
 replace z1:=lL z1 hb.size
 replace X4:=(hb.block _ z4).trans X4
 replace z4:=lL z4 hb.size
 replace X5:=(hb.block _ z5).trans X5
 replace z5:=lL z5 hb.size
 replace N4:=N4.below hb
 replace N5:=N5.below hb
 replace B1:=bT B1 hb
 clear hb
 obtain ⟨f0,f1,f2,f3,f4,y0,y1,y2,y3,y4⟩:=bx5 X1
 go_wp2_with fail
 refine (isZero_f _ _ _ (HR.out.below B1) ha0).mono ?_
 rintro e W4 ⟨rfl,hb⟩
 clear f0 f1 f2 f3 f4 y0 y1 y2 y3 y4
 replace X1:=(hb.block _ z1).trans X1
 replace z1:=lL z1 hb.size
 replace X4:=(hb.block _ z4).trans X4
 replace z4:=lL z4 hb.size
 replace X5:=(hb.block _ z5).trans X5
 replace z5:=lL z5 hb.size
 replace N4:=N4.below hb
 replace N5:=N5.below hb
 replace B1:=bT B1 hb
 clear hb
 obtain ⟨f0,f1,f2,f3,f4,y0,y1,y2,y3,y4⟩:=bx5 X1
 go_upto_region 7 with fail
 clear f0 f1 f2 f3 f4 y0 y1 y2 y3 y4
 have D1:=hid (fun W (hb:Below W4.heap.size W4 W)=>C1.out _ W (N4.below hb))
 have D2:=hid (fun W (hb:Below W4.heap.size W4 W)=>C2.out _ W (N5.below hb))
 clear N4 N5
 have w2:¬ (9223372036854775807 < S1.size + S2.size):=oM
 have w3:¬ (9223372036854775807 < S1.size + S2.size + 1):=oM
 refine region_lin [.val (kIs (.agg #[.slice A4 n4 c4,.bool p4,.slice A4b n4b c4b,.bool p4b,.slice A4c n4c c4c])),.val (kIs (.string S1)),.val (kIs (.agg #[.slice A5 n5 c5,.bool p5,.slice A5b n5b c5b,.bool p5b,.slice A5c n5c c5c])),.val (kIs (.string S2)),.val (kIs (.string (S1 ++ S2))),.val (kIs (.string (S1 ++ S2 ++ { data:=#[105] }))),.val (kIs (.string (S1 ++ S2 ++ { data:=#[105] })))]
  kR kR kR kR kR ⟨Stab.b (stab_is _),Stab.b (stab_is _),Stab.b (stab_is _),Stab.b (stab_is _),Stab.b (stab_is _),Stab.b (stab_is _),Stab.b (stab_is _),trivial⟩ sP ⟨?_,?_,?_,?_,?_,?_,?_,trivial⟩ ?_
 ·intro ts W hb hB hp K hK
  simp only [fillT,zA,Nat.reduceAdd,sA,sB,sC] at hK ⊢
  refine ⟨?_⟩
  refine wp_load_row _ _ rfl (g4) rfl _ _ (0,0) _ ((hb.block _ (z4)).trans X4) Tryz.underlying35 rfl kR ?_
  exact hK _ _ rfl rfB
 ·intro ts W hb hB hp
  have h0:ts 0 = _:=hp 0 kR
  intro K hK
  simp only [fillT,zA,Nat.reduceAdd,sA,sB,sC,h0] at hK ⊢
  have HK:=hid hK
  clear hK hp
  refine ⟨?_⟩
  go_simp
  refine (D1.out _ hb).mono ?_
  rintro e W9 ⟨rfl,hb9⟩
  exact HK.out _ _ rfl hb9
 ·intro ts W hb hB hp K hK
  simp only [fillT,zA,Nat.reduceAdd,sA,sB,sC] at hK ⊢
  refine ⟨?_⟩
  refine wp_load_row _ _ rfl (g5) rfl _ _ (0,0) _ ((hb.block _ (z5)).trans X5) Tryz.underlying35 rfl kR ?_
  exact hK _ _ rfl rfB
 ·intro ts W hb hB hp
  have h2:ts 2 = _:=hp 2 kR
  intro K hK
  simp only [fillT,zA,Nat.reduceAdd,sA,sB,sC,h2] at hK ⊢
  have HK:=hid hK
  clear hK hp
  refine ⟨?_⟩
  go_simp
  refine (D2.out _ hb).mono ?_
  rintro e W9 ⟨rfl,hb9⟩
  exact HK.out _ _ rfl hb9
 ·intro ts W hb hB hp
  have h1:ts 1 = _:=hp 1 kR
  have h3:ts 3 = _:=hp 3 kR
  intro K hK
  simp only [fillT,zA,Nat.reduceAdd,sA,sB,sC,h1,h3] at hK ⊢
  have HK:=hid hK
  clear hK hp
  refine ⟨?_⟩
  go_simp
  exact HK.out _ _ rfl rfB
 ·intro ts W hb hB hp
  have h4:ts 4 = _:=hp 4 kR
  intro K hK
  simp only [fillT,zA,Nat.reduceAdd,sA,sB,sC,h4] at hK ⊢
  have HK:=hid hK
  clear hK hp
  refine ⟨?_⟩
  go_simp
  exact HK.out _ _ rfl rfB
 ·intro ts W hb hB hp
  have h5:ts 5 = _:=hp 5 kR
  intro K hK
  simp only [fillT,zA,Nat.reduceAdd,sA,sB,sC,h5] at hK ⊢
  have HK:=hid hK
  clear hK hp
  refine ⟨?_⟩
  go_simp
  exact HK.out _ _ rfl rfB
 intro ts W5 hb5 hh hap
 have e6:=held_is (hh 6 sP) rfl
 simp only [fillT,zA,Nat.reduceAdd,sA,sB,sC,e6]
 clear hh hap e6
 generalize ts 0 = u0_W5 at *
 generalize ts 1 = u1_W5 at *
 generalize ts 2 = u2_W5 at *
 generalize ts 3 = u3_W5 at *
 generalize ts 4 = u4_W5 at *
 generalize ts 5 = u5_W5 at *
 clear ts
 replace B1:=bT B1 hb5
 clear X1 X4 X5
 go_wp2
 go_ret
 exact ⟨rfl,B1⟩
theorem text_hi (v:Value) (x:Cx) (w:World) (h:IsNum w v x) (hT:Tab w) (m:Nat) (hx:Sz x m) (hm:m < 549755813888) (h0:x.im ≠ 0) (h1:x.re ≠ 0) (h2:¬ x.im < 0) :
  Calls Tryz.prog 39 #[v] w fun e w'=>e = .returned (.string (strOfNums (ctext x))) /\ Below w.heap.size w w':=by
 have hxr:=hx.real
 have hxi:=hx.imag
 have hsr:=rt_size (p:=x.re) hxr hm
 have hsi:=rt_size (p:=x.im) hxi hm
 rw [show ctext x = rt x.re ++ [43] ++ rt x.im ++ [105] from (if_neg h0).trans ((if_neg h1).trans (if_neg h2)),<- strs_append,<- strs_append,<- strs_append,show strOfNums [105] = { data:=#[105] } from rfl,show strOfNums [43] = { data:=#[43] } from rfl]
 obtain ⟨S1,hS1⟩:∃ S,S = strOfNums (rt x.re):=⟨_,rfl⟩
 obtain ⟨S2,hS2⟩:∃ S,S = strOfNums (rt x.im):=⟨_,rfl⟩
 try rw [<- hS1]
 try rw [<- hS2]
 rw [<- hS1] at hsr
 rw [<- hS2] at hsi
 have C1:=hid (fun v W (h:IsNum W v ⟨x.re,0⟩)=>realT_any v x.re W h m hxr hm)
 have C2:=hid (fun v W (h:IsNum W v ⟨x.im,0⟩)=>realT_any v x.im W h m hxi hm)
 rw [<- hS1] at C1
 rw [<- hS2] at C2
 clear hS1 hS2
 have HI:=hid h
 obtain ⟨A1,n1,c1,p1,A2,n2,c2,p2,A3,n3,c3,a,b,d,rfl,hl,hr,hi,hs,hn3,hq1,hq2,-,-⟩:=h.parts
 have hb0:b ≠ 0:=fun e=>h0 ((im_zero hl).2 e)
 have ha0:a ≠ 0:=fun e=>h1 ((re_zero hl).2 e)
 have hp2:p2 = false:=by
  rw [hq2]
  exact decide_eq_false (fun h=>h2 ((im_neg hl).2 h))
 subst hp2
 have HL:=hid hl
 have HR:=hid hr
 have HM:=hid hi
 have HT:=hid hT
 clear hs hn3 hq1 hl hr hi hT h hq2 h0 h1 h2
 go_enter Tryz.func39,Tryz.ntmps39
 go_upto_region 1 with fail
 obtain ⟨W1,hW1⟩:∃ W1:World,W1 = (w.alloc (.cells #[.slice A1 n1 c1,.bool p1,.slice A2 n2 c2,.bool false,.slice A3 n3 c3] 35)):=⟨_,rfl⟩
 rw [<- hW1]
 have B1:Below w.heap.size w W1:=by rw [hW1]; exact bel
 have z1:w.heap.size < W1.heap.size:=by rw [hW1]; simp
 have X1:W1.heap[w.heap.size]? = some (.cells #[.slice A1 n1 c1,.bool p1,.slice A2 n2 c2,.bool false,.slice A3 n3 c3] 35 (0,0)):=by rw [hW1]; exact heap_alloc_new _ _
 clear hW1
 refine region_lin [.val (kIs (.agg #[.slice A1 n1 c1,.bool p1,.slice A2 n2 c2,.bool false,.slice A3 n3 c3])),.val (kNum (x.real)),.val (kIs (.agg #[.slice A1 n1 c1,.bool p1,.slice A2 n2 c2,.bool false,.slice A3 n3 c3])),.val (kNum (x.imag)),.box 35 zNum,.box 35 zNum,.put 4 1,.put 5 3]
  kR kR kR kR kR ⟨stab_is _,stab_num _,stab_is _,stab_num _,trivial⟩ sP ⟨?_,?_,?_,?_,alloc_num,alloc_num,store_num _,store_num _,trivial⟩ ?_
 ·intro ts W hb hB hp K hK
  simp only [fillT,zA,Nat.reduceAdd,sA,sB,sC] at hK ⊢
  refine ⟨?_⟩
  refine wp_load_row _ _ rfl (w.heap.size) rfl _ _ (0,0) _ ((hb.block _ (z1)).trans X1) Tryz.underlying35 rfl kR ?_
  exact hK _ _ rfl rfB
 ·intro ts W hb hB hp
  have h0:ts 0 = _:=hp 0 kR
  intro K hK
  simp only [fillT,zA,Nat.reduceAdd,sA,sB,sC,h0] at hK ⊢
  have HK:=hid hK
  clear hK hp
  refine ⟨?_⟩
  go_simp
  refine (reN_any _ x W ((HI.out.below B1).below hb) ((HT.out.below B1).below hb) m hx hm).mono ?_
  rintro e W9 ⟨r9,rfl,hr9,hb9⟩
  exact HK.out _ _ hr9 hb9
 ·intro ts W hb hB hp K hK
  simp only [fillT,zA,Nat.reduceAdd,sA,sB,sC] at hK ⊢
  refine ⟨?_⟩
  refine wp_load_row _ _ rfl (w.heap.size) rfl _ _ (0,0) _ ((hb.block _ (z1)).trans X1) Tryz.underlying35 rfl kR ?_
  exact hK _ _ rfl rfB
 ·intro ts W hb hB hp
  have h2:ts 2 = _:=hp 2 kR
  intro K hK
  simp only [fillT,zA,Nat.reduceAdd,sA,sB,sC,h2] at hK ⊢
  have HK:=hid hK
  clear hK hp
  refine ⟨?_⟩
  go_simp
  refine (imN_any _ x W ((HI.out.below B1).below hb) ((HT.out.below B1).below hb) m hx hm).mono ?_
  rintro e W9 ⟨r9,rfl,hr9,hb9⟩
  exact HK.out _ _ hr9 hb9
 intro ts W2 hb2 hh hap
 obtain ⟨g4,A4,n4,c4,p4,A4b,n4b,c4b,p4b,A4c,n4c,c4c,e4,lo4,z4,X4,N4⟩:=held_box (x:=x.real) (hh 4 sP) rfl (hh 6 sP) rfl (hh 1 sP) rfl
 obtain ⟨g5,A5,n5,c5,p5,A5b,n5b,c5b,p5b,A5c,n5c,c5c,e5,lo5,z5,X5,N5⟩:=held_box (x:=x.imag) (hh 5 sP) rfl (hh 7 sP) rfl (hh 3 sP) rfl
 simp only [fillT,zA,Nat.reduceAdd,sA,sB,sC,e4,e5]
 clear hh hap e4 e5
 generalize ts 0 = u0_W2 at *
 generalize ts 1 = u1_W2 at *
 generalize ts 2 = u2_W2 at *
 generalize ts 3 = u3_W2 at *
 clear ts
 replace X1:=(hb2.block _ z1).trans X1
 replace z1:=lL z1 hb2.size
 replace B1:=bT B1 hb2
 clear hb2
 obtain ⟨f0,f1,f2,f3,f4,y0,y1,y2,y3,y4⟩:=bx5 X1
 go_wp2_with fail
 refine (isZero_f _ _ _ (HM.out.below B1) hb0).mono ?_
 rintro e W3 ⟨rfl,hb⟩
 clear f0 f1 f2 f3 f4 y0 y1 y2 y3 y4
 replace X1:=(hb.block _ z1).trans X1
 replace z1:=lL z1 hb.size
 replace X4:=(hb.block _ z4).trans X4
 replace z4:=lL z4 hb.size
 replace X5:=(hb.block _ z5).trans X5
 replace z5:=lL z5 hb.size
 replace N4:=N4.below hb
 replace N5:=N5.below hb
 replace B1:=bT B1 hb
 clear hb
 obtain ⟨f0,f1,f2,f3,f4,y0,y1,y2,y3,y4⟩:=bx5 X1
 go_wp2_with fail
 refine (isZero_f _ _ _ (HR.out.below B1) ha0).mono ?_
 rintro e W4 ⟨rfl,hb⟩
 clear f0 f1 f2 f3 f4 y0 y1 y2 y3 y4
 replace X1:=(hb.block _ z1).trans X1
 replace z1:=lL z1 hb.size
 replace X4:=(hb.block _ z4).trans X4
 replace z4:=lL z4 hb.size
 replace X5:=(hb.block _ z5).trans X5
 replace z5:=lL z5 hb.size
 replace N4:=N4.below hb
 replace N5:=N5.below hb
 replace B1:=bT B1 hb
 clear hb
 obtain ⟨f0,f1,f2,f3,f4,y0,y1,y2,y3,y4⟩:=bx5 X1
 go_upto_region 8 with fail
 clear f0 f1 f2 f3 f4 y0 y1 y2 y3 y4
 have D1:=hid (fun W (hb:Below W4.heap.size W4 W)=>C1.out _ W (N4.below hb))
 have D2:=hid (fun W (hb:Below W4.heap.size W4 W)=>C2.out _ W (N5.below hb))
 clear N4 N5
 have w1:¬ (9223372036854775807 < S1.size + 1):=oM
 have w2:¬ (9223372036854775807 < S1.size + 1 + S2.size):=oM
 have w3:¬ (9223372036854775807 < S1.size + 1 + S2.size + 1):=oM
 refine region_lin [.val (kIs (.agg #[.slice A4 n4 c4,.bool p4,.slice A4b n4b c4b,.bool p4b,.slice A4c n4c c4c])),.val (kIs (.string S1)),.val (kIs (.string (S1 ++ { data:=#[43] }))),.val (kIs (.agg #[.slice A5 n5 c5,.bool p5,.slice A5b n5b c5b,.bool p5b,.slice A5c n5c c5c])),.val (kIs (.string S2)),.val (kIs (.string (S1 ++ { data:=#[43] } ++ S2))),.val (kIs (.string (S1 ++ { data:=#[43] } ++ S2 ++ { data:=#[105] }))),.val (kIs (.string (S1 ++ { data:=#[43] } ++ S2 ++ { data:=#[105] })))]
  kR kR kR kR kR ⟨Stab.b (stab_is _),Stab.b (stab_is _),Stab.b (stab_is _),Stab.b (stab_is _),Stab.b (stab_is _),Stab.b (stab_is _),Stab.b (stab_is _),Stab.b (stab_is _),trivial⟩ sP ⟨?_,?_,?_,?_,?_,?_,?_,?_,trivial⟩ ?_
 ·intro ts W hb hB hp K hK
  simp only [fillT,zA,Nat.reduceAdd,sA,sB,sC] at hK ⊢
  refine ⟨?_⟩
  refine wp_load_row _ _ rfl (g4) rfl _ _ (0,0) _ ((hb.block _ (z4)).trans X4) Tryz.underlying35 rfl kR ?_
  exact hK _ _ rfl rfB
 ·intro ts W hb hB hp
  have h0:ts 0 = _:=hp 0 kR
  intro K hK
  simp only [fillT,zA,Nat.reduceAdd,sA,sB,sC,h0] at hK ⊢
  have HK:=hid hK
  clear hK hp
  refine ⟨?_⟩
  go_simp
  refine (D1.out _ hb).mono ?_
  rintro e W9 ⟨rfl,hb9⟩
  exact HK.out _ _ rfl hb9
 ·intro ts W hb hB hp
  have h1:ts 1 = _:=hp 1 kR
  intro K hK
  simp only [fillT,zA,Nat.reduceAdd,sA,sB,sC,h1] at hK ⊢
  have HK:=hid hK
  clear hK hp
  refine ⟨?_⟩
  go_simp
  exact HK.out _ _ rfl rfB
 ·intro ts W hb hB hp K hK
  simp only [fillT,zA,Nat.reduceAdd,sA,sB,sC] at hK ⊢
  refine ⟨?_⟩
  refine wp_load_row _ _ rfl (g5) rfl _ _ (0,0) _ ((hb.block _ (z5)).trans X5) Tryz.underlying35 rfl kR ?_
  exact hK _ _ rfl rfB
 ·intro ts W hb hB hp
  have h3:ts 3 = _:=hp 3 kR
  intro K hK
  simp only [fillT,zA,Nat.reduceAdd,sA,sB,sC,h3] at hK ⊢
  have HK:=hid hK
  clear hK hp
  refine ⟨?_⟩
  go_simp
  refine (D2.out _ hb).mono ?_
  rintro e W9 ⟨rfl,hb9⟩
  exact HK.out _ _ rfl hb9
 ·intro ts W hb hB hp
  have h2:ts 2 = _:=hp 2 kR
  have h4:ts 4 = _:=hp 4 kR
  intro K hK
  simp only [fillT,zA,Nat.reduceAdd,sA,sB,sC,h2,h4] at hK ⊢
  have HK:=hid hK
  clear hK hp
  refine ⟨?_⟩
  go_simp
  exact HK.out _ _ rfl rfB
 ·intro ts W hb hB hp
  have h5:ts 5 = _:=hp 5 kR
  intro K hK
  simp only [fillT,zA,Nat.reduceAdd,sA,sB,sC,h5] at hK ⊢
  have HK:=hid hK
  clear hK hp
  refine ⟨?_⟩
  go_simp
  exact HK.out _ _ rfl rfB
 ·intro ts W hb hB hp
  have h6:ts 6 = _:=hp 6 kR
  intro K hK
  simp only [fillT,zA,Nat.reduceAdd,sA,sB,sC,h6] at hK ⊢
  have HK:=hid hK
  clear hK hp
  refine ⟨?_⟩
  go_simp
  exact HK.out _ _ rfl rfB
 intro ts W5 hb5 hh hap
 have e7:=held_is (hh 7 sP) rfl
 simp only [fillT,zA,Nat.reduceAdd,sA,sB,sC,e7]
 clear hh hap e7
 generalize ts 0 = u0_W5 at *
 generalize ts 1 = u1_W5 at *
 generalize ts 2 = u2_W5 at *
 generalize ts 3 = u3_W5 at *
 generalize ts 4 = u4_W5 at *
 generalize ts 5 = u5_W5 at *
 generalize ts 6 = u6_W5 at *
 clear ts
 replace B1:=bT B1 hb5
 clear X1 X4 X5
 go_wp2
 go_ret
 exact ⟨rfl,B1⟩
theorem text_any (v:Value) (x:Cx) (w:World) (h:IsNum w v x) (hT:Tab w) (m:Nat) (hx:Sz x m) (hm:m < 549755813888) :
  Calls Tryz.prog 39 #[v] w fun e w'=>e = .returned (.string (strOfNums (ctext x))) /\ Below w.heap.size w w':=by
 by_cases h0:x.im = 0
 ·exact text_re v x w h hT m hx hm h0
 ·by_cases h1:x.re = 0
  ·exact text_im v x w h hT m hx hm h0 h1
  ·by_cases h2:x.im < 0
   ·exact text_lo v x w h hT m hx hm h0 h1 h2
   ·exact text_hi v x w h hT m hx hm h0 h1 h2
end Go.Proofs.YtffegeaflohfhaaGreatDoor
