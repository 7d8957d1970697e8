import Derived.Deep.RegionHeld3
import Derived.Test.YtffegeaflohfhaaGreatDoorS35
import Derived.Test.YtffegeaflohfhaaGreatDoorS02
set_option linter.unusedVariables false
set_option linter.unusedSimpArgs false
set_option maxRecDepth 100000
set_option maxHeartbeats 8000000
namespace Go.Proofs.YtffegeaflohfhaaGreatDoor
open Go.RowKit
theorem rText_re (v:Value) (x:Cx) (w:World) (h:IsQ w v x) (m:Nat) (hx:Sz x m) (hm:m < 549755813888) (h0:x.im = 0) :
  Calls Tryz.prog 53 #[v] w fun e w'=>e = .returned (.string (strOfNums (ctext x))) /\ Below w.heap.size w w':=by
 have hsr:=rt_size (p:=x.re) hx.real hm
 have hsi:=rt_size (p:=x.im) hx.imag hm
 rw [show ctext x = rt x.re from if_pos h0]
 obtain ⟨A1,n1,c1,p1,A2,n2,c2,p2,A3,n3,c3,a,b,d,rfl,hl,hr,hi,hs,hn1,hn2,-,hp1,hp2,-,-⟩:=h.parts
 obtain ⟨sa,sb,sd⟩:=hx _ _ _ hl
 have hb0:b = 0:=(im_zero hl).1 h0
 have hn2':n2 = 0:=by rw [hn2,hb0]; exact wl_zero
 subst hn2'
 have HA:=hid (fun W (hb:Below w.heap.size w W)=>rhalf_any _ _ a d x.re W (hr.below hb) (hs.below hb) hl.pos hl.2.2.1 oM oM)
 have HB:=hid (fun W (hb:Below w.heap.size w W)=>rhalf_any _ _ b d x.im W (hi.below hb) (hs.below hb) hl.pos hl.2.2.2 oM oM)
 clear hb0 hl hr hi hs sa sb sd hx hm h h0 hn1 hn2 hp1 hp2
 generalize strOfNums (rt x.re) = S1 at *
 generalize strOfNums (rt x.im) = S2 at *
 have y1:¬ (9223372036854775807 < S1.size + S2.size):=oM
 have y2:¬ (9223372036854775807 < S1.size + S2.size + 1):=oM
 have y3:¬ (9223372036854775807 < S1.size + 1):=oM
 have y4:¬ (9223372036854775807 < S2.size + 1):=oM
 have y5:¬ (9223372036854775807 < S1.size + 1 + S2.size):=oM
 have y6:¬ (9223372036854775807 < S1.size + 1 + S2.size + 1):=oM
 go_enter Tryz.func53,Tryz.ntmps53
 go_wp2_with fail
 refine (HA.out _ bel).mono ?_
 rintro e W2 ⟨rfl,hb2⟩
 have B2:Below w.heap.size w W2:=bel
 go_wp2
 go_ret
 exact ⟨rfl,B2⟩
theorem rText_im (v:Value) (x:Cx) (w:World) (h:IsQ w v x) (m:Nat) (hx:Sz x m) (hm:m < 549755813888) (h0:x.im ≠ 0) (h1:x.re = 0) :
  Calls Tryz.prog 53 #[v] w fun e w'=>e = .returned (.string (strOfNums (ctext x))) /\ Below w.heap.size w w':=by
 have hsr:=rt_size (p:=x.re) hx.real hm
 have hsi:=rt_size (p:=x.im) hx.imag hm
 rw [show ctext x = rt x.im ++ [105] from (if_neg h0).trans (if_pos h1),<- strs_append,show strOfNums [105] = { data:=#[105] } from by decide +kernel]
 obtain ⟨A1,n1,c1,p1,A2,n2,c2,p2,A3,n3,c3,a,b,d,rfl,hl,hr,hi,hs,hn1,hn2,-,hp1,hp2,-,-⟩:=h.parts
 obtain ⟨sa,sb,sd⟩:=hx _ _ _ hl
 have hb0:b ≠ 0:=fun e=>h0 ((im_zero hl).2 e)
 have ha0:a = 0:=(re_zero hl).1 h1
 have hb1:¬ n2 = 0:=fun e=>hb0 (by have:=wl_eq_zero.1 (hn2.symm.trans e); omega)
 have hn1':n1 = 0:=by rw [hn1,ha0]; exact wl_zero
 subst hn1'
 have HA:=hid (fun W (hb:Below w.heap.size w W)=>rhalf_any _ _ a d x.re W (hr.below hb) (hs.below hb) hl.pos hl.2.2.1 oM oM)
 have HB:=hid (fun W (hb:Below w.heap.size w W)=>rhalf_any _ _ b d x.im W (hi.below hb) (hs.below hb) hl.pos hl.2.2.2 oM oM)
 clear hb0 ha0 h1 hl hr hi hs sa sb sd hx hm h h0 hn1 hn2 hp1 hp2
 generalize strOfNums (rt x.re) = S1 at *
 generalize strOfNums (rt x.im) = S2 at *
 have y1:¬ (9223372036854775807 < S1.size + S2.size):=oM
 have y2:¬ (9223372036854775807 < S1.size + S2.size + 1):=oM
 have y3:¬ (9223372036854775807 < S1.size + 1):=oM
 have y4:¬ (9223372036854775807 < S2.size + 1):=oM
 have y5:¬ (9223372036854775807 < S1.size + 1 + S2.size):=oM
 have y6:¬ (9223372036854775807 < S1.size + 1 + S2.size + 1):=oM
 go_enter Tryz.func53,Tryz.ntmps53
 go_wp2_with fail
 refine (HB.out _ bel).mono ?_
 rintro e W2 ⟨rfl,hb2⟩
 have B2:Below w.heap.size w W2:=bel
 go_wp2
 go_ret
 exact ⟨rfl,B2⟩
theorem rText_lo (v:Value) (x:Cx) (w:World) (h:IsQ w v x) (m:Nat) (hx:Sz x m) (hm:m < 549755813888) (h0:x.im ≠ 0) (h1:x.re ≠ 0) (h2:x.im < 0) :
  Calls Tryz.prog 53 #[v] w fun e w'=>e = .returned (.string (strOfNums (ctext x))) /\ Below w.heap.size w w':=by
 have hsr:=rt_size (p:=x.re) hx.real hm
 have hsi:=rt_size (p:=x.im) hx.imag hm
 rw [show ctext x = rt x.re ++ rt x.im ++ [105] from (if_neg h0).trans ((if_neg h1).trans (if_pos h2)),<- strs_append,<- strs_append,show strOfNums [105] = { data:=#[105] } from by decide +kernel]
 obtain ⟨A1,n1,c1,p1,A2,n2,c2,p2,A3,n3,c3,a,b,d,rfl,hl,hr,hi,hs,hn1,hn2,-,hp1,hp2,-,-⟩:=h.parts
 obtain ⟨sa,sb,sd⟩:=hx _ _ _ hl
 have hb0:b ≠ 0:=fun e=>h0 ((im_zero hl).2 e)
 have ha0:a ≠ 0:=fun e=>h1 ((re_zero hl).2 e)
 have hs0:decide (b < 0) = true:=by rw [decide_eq_true_iff]; exact (im_neg hl).1 h2
 have hb1:¬ n2 = 0:=fun e=>hb0 (by have:=wl_eq_zero.1 (hn2.symm.trans e); omega)
 have ha1:¬ n1 = 0:=fun e=>ha0 (by have:=wl_eq_zero.1 (hn1.symm.trans e); omega)
 rw [hs0] at hp2
 subst hp2
 have HA:=hid (fun W (hb:Below w.heap.size w W)=>rhalf_any _ _ a d x.re W (hr.below hb) (hs.below hb) hl.pos hl.2.2.1 oM oM)
 have HB:=hid (fun W (hb:Below w.heap.size w W)=>rhalf_any _ _ b d x.im W (hi.below hb) (hs.below hb) hl.pos hl.2.2.2 oM oM)
 clear hb0 ha0 hs0 h1 h2 hl hr hi hs sa sb sd hx hm h h0 hn1 hn2 hp1
 generalize strOfNums (rt x.re) = S1 at *
 generalize strOfNums (rt x.im) = S2 at *
 have y1:¬ (9223372036854775807 < S1.size + S2.size):=oM
 have y2:¬ (9223372036854775807 < S1.size + S2.size + 1):=oM
 have y3:¬ (9223372036854775807 < S1.size + 1):=oM
 have y4:¬ (9223372036854775807 < S2.size + 1):=oM
 have y5:¬ (9223372036854775807 < S1.size + 1 + S2.size):=oM
 have y6:¬ (9223372036854775807 < S1.size + 1 + S2.size + 1):=oM
 go_enter Tryz.func53,Tryz.ntmps53
 go_wp2_with fail
 go_region_held3 (fun w'=>w'.cell? ⟨w.heap.size,0,none⟩ = some (.bool p1) /\ w'.cell? ⟨w.heap.size,1,none⟩ = some (.slice A1 n1 c1) /\ w'.cell? ⟨w.heap.size,2,none⟩ = some (.bool true) /\ w'.cell? ⟨w.heap.size,3,none⟩ = some (.slice A2 n2 c2) /\ w'.cell? ⟨w.heap.size,4,none⟩ = some (.slice A3 n3 c3)) (go_keep) (first | (go_at_call 112; (first | ((with_reducible refine (HA.out _ ?_).mono ?_); (exact bel); (rintro e W6 ⟨rfl,hb6⟩; obtain ⟨hc6,hf6,hz6⟩:=bcells hb6 (w.heap.size + 1) (by simp <;> omega))) | ((with_reducible refine (HB.out _ ?_).mono ?_); (exact bel); (rintro e W7 ⟨rfl,hb7⟩; have kb7:Below W6.heap.size W6 W7:=bel; clear hb7; obtain ⟨hc7,hf7,hz7⟩:=bcells kb7 (w.heap.size + 1) oM)))))
 go_wp2
 have B6:Below w.heap.size w W6:=bel
 go_ret
 exact ⟨rfl,bT B6 kb7⟩
theorem rText_hi (v:Value) (x:Cx) (w:World) (h:IsQ w v x) (m:Nat) (hx:Sz x m) (hm:m < 549755813888) (h0:x.im ≠ 0) (h1:x.re ≠ 0) (h2:¬ x.im < 0) :
  Calls Tryz.prog 53 #[v] w fun e w'=>e = .returned (.string (strOfNums (ctext x))) /\ Below w.heap.size w w':=by
 have hsr:=rt_size (p:=x.re) hx.real hm
 have hsi:=rt_size (p:=x.im) hx.imag hm
 rw [show ctext x = rt x.re ++ [43] ++ rt x.im ++ [105] from (if_neg h0).trans ((if_neg h1).trans (if_neg h2)),<- strs_append,<- strs_append,<- strs_append,show strOfNums [105] = { data:=#[105] } from by decide +kernel,show strOfNums [43] = { data:=#[43] } from by decide +kernel]
 obtain ⟨A1,n1,c1,p1,A2,n2,c2,p2,A3,n3,c3,a,b,d,rfl,hl,hr,hi,hs,hn1,hn2,-,hp1,hp2,-,-⟩:=h.parts
 obtain ⟨sa,sb,sd⟩:=hx _ _ _ hl
 have hb0:b ≠ 0:=fun e=>h0 ((im_zero hl).2 e)
 have ha0:a ≠ 0:=fun e=>h1 ((re_zero hl).2 e)
 have hs0:decide (b < 0) = false:=by rw [decide_eq_false_iff_not]; exact fun e=>h2 ((im_neg hl).2 e)
 have hb1:¬ n2 = 0:=fun e=>hb0 (by have:=wl_eq_zero.1 (hn2.symm.trans e); omega)
 have ha1:¬ n1 = 0:=fun e=>ha0 (by have:=wl_eq_zero.1 (hn1.symm.trans e); omega)
 rw [hs0] at hp2
 subst hp2
 have HA:=hid (fun W (hb:Below w.heap.size w W)=>rhalf_any _ _ a d x.re W (hr.below hb) (hs.below hb) hl.pos hl.2.2.1 oM oM)
 have HB:=hid (fun W (hb:Below w.heap.size w W)=>rhalf_any _ _ b d x.im W (hi.below hb) (hs.below hb) hl.pos hl.2.2.2 oM oM)
 clear hb0 ha0 hs0 h1 h2 hl hr hi hs sa sb sd hx hm h h0 hn1 hn2 hp1
 generalize strOfNums (rt x.re) = S1 at *
 generalize strOfNums (rt x.im) = S2 at *
 have y1:¬ (9223372036854775807 < S1.size + S2.size):=oM
 have y2:¬ (9223372036854775807 < S1.size + S2.size + 1):=oM
 have y3:¬ (9223372036854775807 < S1.size + 1):=oM
 have y4:¬ (9223372036854775807 < S2.size + 1):=oM
 have y5:¬ (9223372036854775807 < S1.size + 1 + S2.size):=oM
 have y6:¬ (9223372036854775807 < S1.size + 1 + S2.size + 1):=oM
 go_enter Tryz.func53,Tryz.ntmps53
 go_wp2_with fail
 go_region_held3 (fun w'=>w'.cell? ⟨w.heap.size,0,none⟩ = some (.bool p1) /\ w'.cell? ⟨w.heap.size,1,none⟩ = some (.slice A1 n1 c1) /\ w'.cell? ⟨w.heap.size,2,none⟩ = some (.bool false) /\ w'.cell? ⟨w.heap.size,3,none⟩ = some (.slice A2 n2 c2) /\ w'.cell? ⟨w.heap.size,4,none⟩ = some (.slice A3 n3 c3)) (go_keep) (first | (go_at_call 112; (first | ((with_reducible refine (HA.out _ ?_).mono ?_); (exact bel); (rintro e W6 ⟨rfl,hb6⟩; obtain ⟨hc6,hf6,hz6⟩:=bcells hb6 (w.heap.size + 1) (by simp <;> omega))) | ((with_reducible refine (HB.out _ ?_).mono ?_); (exact bel); (rintro e W7 ⟨rfl,hb7⟩; have kb7:Below W6.heap.size W6 W7:=bel; clear hb7; obtain ⟨hc7,hf7,hz7⟩:=bcells kb7 (w.heap.size + 1) oM)))))
 go_wp2
 have B6:Below w.heap.size w W6:=bel
 go_ret
 exact ⟨rfl,bT B6 kb7⟩
theorem rText_any (v:Value) (x:Cx) (w:World) (h:IsQ w v x) (m:Nat) (hx:Sz x m) (hm:m < 549755813888) :
  Calls Tryz.prog 53 #[v] w fun e w'=>e = .returned (.string (strOfNums (ctext x))) /\ Below w.heap.size w w':=by
 by_cases h0:x.im = 0
 ·exact rText_re v x w h m hx hm h0
 ·by_cases h1:x.re = 0
  ·exact rText_im v x w h m hx hm h0 h1
  ·by_cases h2:x.im < 0
   ·exact rText_lo v x w h m hx hm h0 h1 h2
   ·exact rText_hi v x w h m hx hm h0 h1 h2
theorem is_any (v u:Value) (x:Cx) (w:World) (h:IsNum w v x) (h':IsQ w u x) (hT:Tab w) (m:Nat) (hx:Sz x m) (hm:m < 549755813888) :
  Calls Tryz.prog 12 #[v,u] w fun e w'=>e = .returned (.bool true) /\ Below w.heap.size w w':=by
 have HA:=hid (fun W (hb:Below w.heap.size w W)=>text_any v x W (h.below hb) (hT.below hb) m hx hm)
 have HB:=hid (fun W (hb:Below w.heap.size w W)=>rText_any u x W (h'.below hb) m hx hm)
 obtain ⟨A1,n1,c1,p1,A2,n2,c2,p2,A3,n3,c3,a,b,d,rfl,-⟩:=h.parts
 obtain ⟨A4,n4,c4,p4,A5,n5,c5,p5,A6,n6,c6,a',b',d',rfl,-⟩:=h'.parts
 clear h h' hT hx hm
 generalize strOfNums (ctext x) = S at *
 go_enter Tryz.func12,Tryz.ntmps12
 go_wp2_with fail
 go_region_held3 (fun w'=>w'.cell? ⟨w.heap.size,0,none⟩ = some (.slice A1 n1 c1) /\ w'.cell? ⟨w.heap.size,1,none⟩ = some (.bool p1) /\ w'.cell? ⟨w.heap.size,2,none⟩ = some (.slice A2 n2 c2) /\ w'.cell? ⟨w.heap.size,3,none⟩ = some (.bool p2) /\ w'.cell? ⟨w.heap.size,4,none⟩ = some (.slice A3 n3 c3) /\ w'.cell? ⟨w.heap.size + 1,0,none⟩ = some (.bool p4) /\ w'.cell? ⟨w.heap.size + 1,1,none⟩ = some (.slice A4 n4 c4) /\ w'.cell? ⟨w.heap.size + 1,2,none⟩ = some (.bool p5) /\ w'.cell? ⟨w.heap.size + 1,3,none⟩ = some (.slice A5 n5 c5) /\ w'.cell? ⟨w.heap.size + 1,4,none⟩ = some (.slice A6 n6 c6)) (go_keep) (first | (go_at_call 39; ((with_reducible refine (HA.out _ ?_).mono ?_); (exact bel); (rintro e W6 ⟨rfl,hb6⟩; obtain ⟨hc6,hf6,hz6⟩:=bcells hb6 (w.heap.size + 2) (by simp <;> omega)))) | (go_at_call 53; ((with_reducible refine (HB.out _ ?_).mono ?_); (exact bel); (rintro e W7 ⟨rfl,hb7⟩; have kb7:Below W6.heap.size W6 W7:=bel; clear hb7; obtain ⟨hc7,hf7,hz7⟩:=bcells kb7 (w.heap.size + 2) oM))))
 go_wp2
 have B6:Below w.heap.size w W6:=bel
 go_ret
 exact ⟨rfl,bT B6 kb7⟩
end Go.Proofs.YtffegeaflohfhaaGreatDoor
