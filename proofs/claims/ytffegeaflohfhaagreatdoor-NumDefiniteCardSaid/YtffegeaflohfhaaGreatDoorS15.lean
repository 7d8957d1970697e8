import Derived.Test.YtffegeaflohfhaaGreatDoorS07
import Derived.Test.YtffegeaflohfhaaGreatDoorS14
import Derived.Test.YtffegeaflohfhaaGreatDoorS02
set_option linter.unusedVariables false
set_option linter.unusedSimpArgs false
set_option maxRecDepth 100000
set_option maxHeartbeats 8000000
namespace Go.Proofs.YtffegeaflohfhaaGreatDoor
open Go.RowKit
theorem IsInt.zero (w:World) (A:Option Addr) (c:Nat):IsInt w (.agg #[.slice A 0 c,.bool false]) 0:=⟨_,sP,IsNat.zero w A c⟩
theorem dn_one:dn 1 = 0:=rfl
theorem negN_any (v:Value) (x:Cx) (w:World) (h:IsNum w v x) :
  Calls Tryz.prog 26 #[v] w (RetNum w x.neg):=by
 obtain ⟨A1,n1,c1,p1,A2,n2,c2,p2,A3,n3,c3,a,b,d,rfl,hl,hr,hi,hs,-,-,-,-,-⟩:=h.parts
 have HL:=hid hl.neg
 have HA:=hid (fun W (hb:Below w.heap.size w W)=>neg_any _ _ W (hr.below hb))
 have HB:=hid (fun W (hb:Below w.heap.size w W)=>neg_any _ _ W (hi.below hb))
 have HS:=hid hs
 clear hl hr hi hs h
 go_enter Tryz.func26,Tryz.ntmps26
 go_wp2_with fail
 go_region_held3 (fun w'=>w'.cell? ⟨w.heap.size,0,none⟩ = some (.slice A1 n1 c1) /\ w'.cell? ⟨w.heap.size,1,none⟩ = some (.bool p1) /\ w'.cell? ⟨w.heap.size,2,none⟩ = some (.slice A2 n2 c2) /\ w'.cell? ⟨w.heap.size,3,none⟩ = some (.bool p2) /\ w'.cell? ⟨w.heap.size,4,none⟩ = some (.slice A3 n3 c3)) (go_keep) (first | (go_at_call 75; (first | ((with_reducible refine (HA.out _ ?_).mono ?_); (exact bel); (rintro e W6 ⟨r6,rfl,hr6,hb6⟩; obtain ⟨A6,n6,c6,rfl,-,-⟩:=hr6.parts; generalize decide (-a < 0) = q6 at *; obtain ⟨hc6,hf6,hz6⟩:=bcells hb6 (w.heap.size + 2) sP)) | ((with_reducible refine (HB.out _ ?_).mono ?_); (exact bel); (rintro e W7 ⟨r7,rfl,hr7,hb7⟩; obtain ⟨A7,n7,c7,rfl,-,-⟩:=hr7.parts; generalize decide (-b < 0) = q7 at *; have kb7:Below W6.heap.size W6 W7:=bel; clear hb7; obtain ⟨hc7,hf7,hz7⟩:=bcells kb7 (w.heap.size + 2) oM)))))
 go_wp2
 have B6:Below w.heap.size w W6:=bel
 have B7:=bT B6 kb7
 have NB:NumBox W7 (w.heap.size + 1):=NumBox.of hc7 oM (NumBox.of hc6 (g:=w.heap.size + 1) oM (.nil sG sG sG sG sG))
 refine bodyPost_ret (v:=.agg #[.slice A6 n6 c6,.bool q6,.slice A7 n7 c7,.bool q7,.slice A3 n3 c3]) (by simp [results,Tryz.results26]; exact run_load5 NB _ _ _ _ _) rfl ?_
 exact RetNum.box B7 oM NB (.mk HL.out (hr6.below kb7) hr7 (HS.out.below B7)) _ _ _ _ _
theorem conjN_any (v:Value) (x:Cx) (w:World) (h:IsNum w v x) :
  Calls Tryz.prog 29 #[v] w (RetNum w x.conj):=by
 obtain ⟨A1,n1,c1,p1,A2,n2,c2,p2,A3,n3,c3,a,b,d,rfl,hl,hr,hi,hs,-,-,-,-,-⟩:=h.parts
 have HL:=hid hl.conj
 have HB:=hid (fun W (hb:Below w.heap.size w W)=>neg_any _ _ W (hi.below hb))
 have HS:=hid hs
 have HR:=hid hr
 clear hl hr hi hs h
 go_enter Tryz.func29,Tryz.ntmps29
 go_wp2_with fail
 go_region_held3 (fun w'=>w'.cell? ⟨w.heap.size,0,none⟩ = some (.slice A1 n1 c1) /\ w'.cell? ⟨w.heap.size,1,none⟩ = some (.bool p1) /\ w'.cell? ⟨w.heap.size,2,none⟩ = some (.slice A2 n2 c2) /\ w'.cell? ⟨w.heap.size,3,none⟩ = some (.bool p2) /\ w'.cell? ⟨w.heap.size,4,none⟩ = some (.slice A3 n3 c3)) (go_keep) (first | (go_at_call 75; ((with_reducible refine (HB.out _ ?_).mono ?_); (exact bel); (rintro e W7 ⟨r7,rfl,hr7,hb7⟩; obtain ⟨A7,n7,c7,rfl,-,-⟩:=hr7.parts; generalize decide (-b < 0) = q7 at *; obtain ⟨hc7,hf7,hz7⟩:=bcells hb7 (w.heap.size + 2) sP))))
 go_wp2
 have B7:Below w.heap.size w W7:=bel
 have NB:NumBox W7 (w.heap.size + 1):=NumBox.of hc7 (g:=w.heap.size + 1) oM (.nil sG sG sG sG sG)
 refine bodyPost_ret (v:=.agg #[.slice A1 n1 c1,.bool p1,.slice A7 n7 c7,.bool q7,.slice A3 n3 c3]) (by simp [results,Tryz.results29]; exact run_load5 NB _ _ _ _ _) rfl ?_
 exact RetNum.box B7 oM NB (.mk HL.out (HR.out.below B7) hr7 (HS.out.below B7)) _ _ _ _ _
theorem ofN_any (v u:Value) (x y:Cx) (w:World) (h:IsNum w v x) (h':IsNum w u y) :
  Calls Tryz.prog 196 #[v,u] w (RetNum w y):=by
 obtain ⟨A1,n1,c1,p1,A2,n2,c2,p2,A3,n3,c3,a,b,d,rfl,-⟩:=h.parts
 have H:=hid h'
 obtain ⟨A4,n4,c4,p4,A5,n5,c5,p5,A6,n6,c6,a',b',d',rfl,-⟩:=h'.parts
 clear h h'
 go_enter Tryz.func196,Tryz.ntmps196
 go_wp2
 refine bodyPost_ret (v:=.agg #[.slice A4 n4 c4,.bool p4,.slice A5 n5 c5,.bool p5,.slice A6 n6 c6]) (by simp [results,Tryz.results196,go_sem]) rfl ?_
 exact RetNum.of bel fun B=>H.out.below B
theorem int_any (z:Int) (w:World) (h1:-9223372036854775808 <= z) (h2:z < 9223372036854775808) :
  Calls Tryz.prog 25 #[.int .i64 z] w (RetNum w (.int z)):=by
 have HF:=hid (fun W=>fromInt_any z W h1 h2)
 clear h1 h2
 go_enter Tryz.func25,Tryz.ntmps25
 go_wp2_with fail
 refine (HF.out _).mono ?_
 rintro e W5 ⟨v,rfl,hr5,hb5⟩
 obtain ⟨hc5,hf5,hz5⟩:=bcells hb5 (w.heap.size + 1) sP
 obtain ⟨A4,n4,c4,rfl,-,-⟩:=hr5.parts
 generalize decide (z < 0) = p4 at *
 go_wp2
 have NB:NumBox W5 w.heap.size:=NumBox.of hc5 oM (.nil sG sG sG sG sG)
 refine bodyPost_ret (v:=.agg #[.slice A4 n4 c4,.bool p4,.slice none 0 0,.bool false,.slice none 0 0]) (by simp [results,Tryz.results25]; exact run_load5 NB _ _ _ _ _) rfl ?_
 exact RetNum.box bel oM NB (.mk (Low.int z) hr5 (IsInt.zero _ _ _) (IsNat.zero _ _ _)) _ _ _ _ _
theorem reN_any (v:Value) (x:Cx) (w:World) (h:IsNum w v x) (hT:Tab w) (m:Nat) (hx:Sz x m) (hm:m < 549755813888) :
  Calls Tryz.prog 98 #[v] w (RetNum w x.real):=by
 obtain ⟨A1,n1,c1,p1,A2,n2,c2,p2,A3,n3,c3,a,b,d,rfl,hl,hr,hi,hs,-,-,-,-,-⟩:=h.parts
 have hsz:=hx _ _ _ hl
 have HC:=hid (fun W (hb:Below w.heap.size w W)=>lowest_any _ (.agg #[.slice none 0 0,.bool false]) _ _ 0 d _ x.real W (hr.below hb) (IsInt.zero _ _ _) (hs.below hb) (Den.em hl.pos) (real_terms hl).1 (real_terms hl).2 oM (by simp [wl_zero]) oM (hT.below hb))
 clear hl hr hi hs h hx hm hsz hT
 go_enter Tryz.func98,Tryz.ntmps98
 go_wp2_with fail
 refine (HC.out _ bel).mono ?_
 rintro e W5 ⟨v,rfl,hr5,hb5⟩
 obtain ⟨hc5,hf5,hz5⟩:=bcells hb5 (w.heap.size + 2) sP
 obtain ⟨A4,n4,c4,p4,A5,n5,c5,p5,A6,n6,c6,a',b',d',rfl,-⟩:=hr5.parts
 go_wp2
 have NB:NumBox W5 (w.heap.size + 1):=NumBox.of hc5 oM (.nil sG sG sG sG sG)
 refine bodyPost_ret (v:=.agg #[.slice A4 n4 c4,.bool p4,.slice A5 n5 c5,.bool p5,.slice A6 n6 c6]) (by simp [results,Tryz.results98]; exact run_load5 NB _ _ _ _ _) rfl ?_
 exact RetNum.box bel oM NB hr5 _ _ _ _ _
theorem imN_any (v:Value) (x:Cx) (w:World) (h:IsNum w v x) (hT:Tab w) (m:Nat) (hx:Sz x m) (hm:m < 549755813888) :
  Calls Tryz.prog 99 #[v] w (RetNum w x.imag):=by
 obtain ⟨A1,n1,c1,p1,A2,n2,c2,p2,A3,n3,c3,a,b,d,rfl,hl,hr,hi,hs,-,-,-,-,-⟩:=h.parts
 have hsz:=hx _ _ _ hl
 have HC:=hid (fun W (hb:Below w.heap.size w W)=>lowest_any _ (.agg #[.slice none 0 0,.bool false]) _ _ 0 d _ x.imag W (hi.below hb) (IsInt.zero _ _ _) (hs.below hb) (Den.em hl.pos) (imag_terms hl).1 (imag_terms hl).2 oM (by simp [wl_zero]) oM (hT.below hb))
 clear hl hr hi hs h hx hm hsz hT
 go_enter Tryz.func99,Tryz.ntmps99
 go_wp2_with fail
 refine (HC.out _ bel).mono ?_
 rintro e W5 ⟨v,rfl,hr5,hb5⟩
 obtain ⟨hc5,hf5,hz5⟩:=bcells hb5 (w.heap.size + 2) sP
 obtain ⟨A4,n4,c4,p4,A5,n5,c5,p5,A6,n6,c6,a',b',d',rfl,-⟩:=hr5.parts
 go_wp2
 have NB:NumBox W5 (w.heap.size + 1):=NumBox.of hc5 oM (.nil sG sG sG sG sG)
 refine bodyPost_ret (v:=.agg #[.slice A4 n4 c4,.bool p4,.slice A5 n5 c5,.bool p5,.slice A6 n6 c6]) (by simp [results,Tryz.results99]; exact run_load5 NB _ _ _ _ _) rfl ?_
 exact RetNum.box bel oM NB hr5 _ _ _ _ _
def cmpI (x y:Int):Int:=if x < y then -1 else if x = y then 0 else 1
theorem cmpI_of (x y:Int):cmpI x y = if decide (x < 0) ≠ decide (y < 0) then ordI (decide (x < 0)) else if decide (x < 0) then cmpN y.natAbs x.natAbs else cmpN x.natAbs y.natAbs:=by
 unfold cmpI cmpN ordI
 by_cases hx:x < 0 <;> by_cases hy:y < 0 <;> simp [hx,hy] <;> (repeat' split) <;> omega
theorem sameI_any (v u:Value) (x y:Int) (w:World) (h:IsInt w v x) (h':IsInt w u y) (hn:wl x.natAbs <= 1099511627776) (hm:wl y.natAbs <= 1099511627776) :
  Calls Tryz.prog 162 #[v,u] w fun e w'=>e = .returned (.bool (decide (x = y))) /\ Below w.heap.size w w':=by
 have hd:decide (x = y) = if decide (x < 0) ≠ decide (y < 0) then false else decide (cmpN x.natAbs y.natAbs = 0):=by
  rw [Bool.eq_iff_iff]
  unfold cmpN
  by_cases hx:x < 0 <;> by_cases hy:y < 0 <;> simp [hx,hy] <;> (repeat' split) <;> omega
 rw [hd]
 obtain ⟨s,rfl,hs⟩:=h
 obtain ⟨A,n,c,rfl,hnn⟩:=hs.ex
 obtain ⟨s',rfl,hs'⟩:=h'
 obtain ⟨A',n',c',rfl,hnn'⟩:=hs'.ex
 clear hnn hnn'
 have HC:=hid (fun W (hb:Below w.heap.size w W)=>compare_any _ _ _ _ W (hs.below hb) (hs'.below hb) hn hm)
 clear hs hs' hn hm hd
 generalize cmpN x.natAbs y.natAbs = k at *
 cases decide (x < 0) <;> cases decide (y < 0)
 all_goals
  go_enter Tryz.func162,Tryz.ntmps162
  go_wp2_with (first | (go_at_call 117; refine (HC.out _ (bT (below_alloc _ _) (below_alloc _ _))).mono ?_; rintro e w' ⟨rfl,q,rfl⟩) | fail)
  go_ret
  first
   | exact ⟨rfl,bT (below_alloc _ _) (below_alloc _ _)⟩
   | exact ⟨by simp; rfl,bT (bT (below_alloc _ _) (below_alloc _ _)) (below_drewN _ _)⟩
theorem sameN_any (v u:Value) (x y:Cx) (w:World) (h:IsNum w v x) (h':IsNum w u y) (m:Nat) (hx:Sz x m) (hy:Sz y m) (hm:m < 549755813888) :
  Calls Tryz.prog 131 #[v,u] w fun e w'=>e = .returned (.bool (decide (x = y))) /\ Below w.heap.size w w':=by
 obtain ⟨A1,n1,c1,p1,A2,n2,c2,p2,A3,n3,c3,a,b,d,rfl,hl,hr,hi,hs,-,-,-,-,-⟩:=h.parts
 obtain ⟨A4,n4,c4,p4,A5,n5,c5,p5,A6,n6,c6,a',b',d',rfl,hl',hr',hi',hs',-,-,-,-,-⟩:=h'.parts
 have s1:=hx _ _ _ hl
 have s2:=hy _ _ _ hl'
 have hd:decide (x = y) = (decide (a = a') && decide (b = b') && (cmpN (dn d) (dn d') == 0)):=by
  rw [Bool.eq_iff_iff]
  have hdn:cmpN (dn d) (dn d') = 0 ↔ d = d':=by
   have:=hl.pos
   have:=hl'.pos
   unfold cmpN dn
   (repeat' split) <;> omega
  simp only [Bool.and_eq_true,decide_eq_true_eq,beq_iff_eq,hdn]
  constructor
  ·rintro rfl
   obtain ⟨e1,e2,e3⟩:=hl.uniq hl'
   exact ⟨⟨e1,e2⟩,e3⟩
  ·rintro ⟨⟨rfl,rfl⟩,rfl⟩
   exact hl.eq hl'
 rw [hd]
 have w1:wl (dn d) <= wl d:=wl_mono (by unfold dn; split <;> omega)
 have w2:wl (dn d') <= wl d':=wl_mono (by unfold dn; split <;> omega)
 have HA:=hid (fun W (hb:Below w.heap.size w W)=>sameI_any _ _ _ _ W (hr.below hb) (hr'.below hb) oM oM)
 have HB:=hid (fun W (hb:Below w.heap.size w W)=>sameI_any _ _ _ _ W (hi.below hb) (hi'.below hb) oM oM)
 have HC:=hid (fun W (hb:Below w.heap.size w W)=>compare_any _ _ _ _ W (hs.below hb) (hs'.below hb) oM oM)
 clear hd w1 w2 s1 s2 hl hl' hr hi hs hr' hi' hs' h h' hx hy
 generalize cmpN (dn d) (dn d') = k at *
 generalize decide (a = a') = p at *
 generalize decide (b = b') = q at *
 cases p
 ·go_enter Tryz.func131,Tryz.ntmps131
  go_wp2_with fail
  refine (HA.out _ bel).mono ?_
  rintro e W7 ⟨rfl,hb7⟩
  obtain ⟨hc7,hf7,hz7⟩:=bcells hb7 (w.heap.size + 2) sP
  go_wp2
  go_ret
  exact ⟨sP,bel⟩
 ·cases q
  ·go_enter Tryz.func131,Tryz.ntmps131
   go_wp2_with fail
   refine (HA.out _ bel).mono ?_
   rintro e W7 ⟨rfl,hb7⟩
   obtain ⟨hc7,hf7,hz7⟩:=bcells hb7 (w.heap.size + 2) sP
   go_wp2_with fail
   refine (HB.out _ bel).mono ?_
   rintro e W8 ⟨rfl,hb8⟩
   obtain ⟨hc8,hf8,hz8⟩:=bcells hb8 (w.heap.size + 2) oM
   go_wp2
   go_ret
   exact ⟨sP,bel⟩
  ·go_enter Tryz.func131,Tryz.ntmps131
   go_wp2_with fail
   refine (HA.out _ bel).mono ?_
   rintro e W7 ⟨rfl,hb7⟩
   obtain ⟨hc7,hf7,hz7⟩:=bcells hb7 (w.heap.size + 2) sP
   go_wp2_with fail
   refine (HB.out _ bel).mono ?_
   rintro e W8 ⟨rfl,hb8⟩
   obtain ⟨hc8,hf8,hz8⟩:=bcells hb8 (w.heap.size + 2) oM
   have B8:Below w.heap.size w W8:=bel
   go_wp2_with fail
   refine (HC.out _ B8).mono ?_
   rintro e W9 ⟨rfl,q9,rfl⟩
   go_wp2
   go_ret
   exact ⟨sP,bel⟩
end Go.Proofs.YtffegeaflohfhaaGreatDoor
