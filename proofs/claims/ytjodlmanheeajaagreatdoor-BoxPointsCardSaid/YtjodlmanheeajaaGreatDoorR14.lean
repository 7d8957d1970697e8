import Derived.Test.YtjodlmanheeajaaGreatDoorR13
import Derived.Test.YtjodlmanheeajaaGreatDoorR02
set_option linter.unusedVariables false
set_option linter.unusedSimpArgs false
set_option maxRecDepth 100000
set_option maxHeartbeats 8000000
namespace Go.Proofs.YtjodlmanheeajaaGreatDoor
open Go.RowKit
theorem reduced_1 (r i s t:Value) (a b:Int) (d g:Nat) (x:Cx) (w:World) (hr:IsInt w r a) (hi:IsInt w i b) (hs:IsNat w s d) (ht:IsNat w t g) (hd:1 < d) (hg0:0 < g)
  (ha:a ≠ 0) (hl:Low x a b d) (h1:Nat.gcd (Nat.gcd g a.natAbs) b.natAbs = 1)
  (sa:wl a.natAbs < 549755813888) (sb:wl b.natAbs < 549755813888) (sd:wl d < 549755813888) (sg:wl g < 549755813888) (hT:Tab w) :
  Calls Tryz.prog 158 #[r,i,s,t] w (RetNum w x):=by
 obtain ⟨A,n,c,rfl,-,hra⟩:=hr.parts
 obtain ⟨A',n',c',rfl,-,hib⟩:=hi.parts
 obtain ⟨A'',n'',c'',rfl,hnn⟩:=hs.ex
 obtain ⟨A3,n3,c3,rfl,-⟩:=ht.ex
 have HL:=hid hl
 have HO:=hid (fun W (hb:Below w.heap.size w W)=>isOne_f _ _ W (hs.below hb) oM)
 have HA:=hid (fun W (hb:Below w.heap.size w W)=>isZero_f _ _ W (hr.below hb) ha)
 have HC:=hid (fun W (hb:Below w.heap.size w W)=>common_any _ _ _ _ _ _ W (hra.below hb) (hib.below hb) (ht.below hb) hg0 sa sb sg (hT.below hb))
 rw [h1] at HC
 have h0:0 < n'':=by rw [hnn]; exact Nat.pos_of_ne_zero fun e=>by have:=wl_eq_zero.1 e; omega
 have h0':¬ n'' = 0:=oM
 have HR:=hid hr
 have HI:=hid hi
 have HS:=hid hs
 have HD:=hid hd
 clear hr hi hs ht hra hib hl hnn h1 ha hd sa sb sd sg hg0 hT
 generalize decide (a < 0) = p at *
 generalize decide (b < 0) = p' at *
 go_enter Tryz.func158,Tryz.ntmps158
 go_wp2_with fail
 refine (HO.out _ bel).mono ?_
 rintro e W2 ⟨rfl,rfl⟩
 go_wp2_with fail
 refine (HA.out _ bel).mono ?_
 rintro e W2 ⟨rfl,hb2⟩
 obtain ⟨hc2,hf2,hz2⟩:=bcells hb2 (w.heap.size + 3) sP
 go_wp2_with fail
 refine (HC.out _ bel).mono ?_
 rintro e W4 ⟨rg,rfl,hrg,hb4⟩
 obtain ⟨hc4,hf4,hz4⟩:=bcells hb4 (w.heap.size + 3) oM
 obtain ⟨A5,n5,c5,rfl,-⟩:=hrg.ex
 go_wp2_with fail
 refine (isOne_t _ _ _ hrg rfl).mono ?_
 rintro e W5 ⟨rfl,rfl⟩
 go_wp2_with fail
 have B4:Below w.heap.size w W4:=bel
 refine (HO.out _ B4).mono ?_
 rintro e W5 ⟨rfl,rfl⟩
 go_wp2
 have NB:=NumBox.of hc4 oM (NumBox.of hc2 (g:=w.heap.size + 1 + 1) oM (.nil sG sG sG sG sG))
 refine bodyPost_ret (v:=.agg #[.slice A n c,.bool p,.slice A' n' c',.bool p',.slice A'' n'' c'']) (by simp [results,Tryz.results158]; exact run_load5 NB _ _ _ _ _) rfl ?_
 exact RetNum.box B4 oM NB (.mk HL.out (HR.out.below B4) (HI.out.below B4) (by rw [dn_of_gt HD.out]; exact HS.out.below B4)) _ _ _ _ _
theorem reduced_1z (r i s t:Value) (a b:Int) (d g:Nat) (x:Cx) (w:World) (hr:IsInt w r a) (hi:IsInt w i b) (hs:IsNat w s d) (ht:IsNat w t g) (hd:1 < d) (hg0:0 < g)
  (ha:a = 0) (hb0:b ≠ 0) (hl:Low x a b d) (h1:Nat.gcd (Nat.gcd g a.natAbs) b.natAbs = 1)
  (sa:wl a.natAbs < 549755813888) (sb:wl b.natAbs < 549755813888) (sd:wl d < 549755813888) (sg:wl g < 549755813888) (hT:Tab w) :
  Calls Tryz.prog 158 #[r,i,s,t] w (RetNum w x):=by
 obtain ⟨A,n,c,rfl,-,hra⟩:=hr.parts
 obtain ⟨A',n',c',rfl,-,hib⟩:=hi.parts
 obtain ⟨A'',n'',c'',rfl,hnn⟩:=hs.ex
 obtain ⟨A3,n3,c3,rfl,-⟩:=ht.ex
 have HL:=hid hl
 have HO:=hid (fun W (hb:Below w.heap.size w W)=>isOne_f _ _ W (hs.below hb) oM)
 have HA:=hid (fun W (hb:Below w.heap.size w W)=>isZero_t _ _ W (hr.below hb) ha)
 have HB:=hid (fun W (hb:Below w.heap.size w W)=>isZero_f _ _ W (hi.below hb) hb0)
 have HC:=hid (fun W (hb:Below w.heap.size w W)=>common_any _ _ _ _ _ _ W (hra.below hb) (hib.below hb) (ht.below hb) hg0 sa sb sg (hT.below hb))
 rw [h1] at HC
 have h0:0 < n'':=by rw [hnn]; exact Nat.pos_of_ne_zero fun e=>by have:=wl_eq_zero.1 e; omega
 have h0':¬ n'' = 0:=oM
 have HR:=hid hr
 have HI:=hid hi
 have HS:=hid hs
 have HD:=hid hd
 clear hr hi hs ht hra hib hl hnn h1 ha hd sa sb sd sg hg0 hT hb0
 generalize decide (a < 0) = p at *
 generalize decide (b < 0) = p' at *
 go_enter Tryz.func158,Tryz.ntmps158
 go_wp2_with fail
 refine (HO.out _ bel).mono ?_
 rintro e W2 ⟨rfl,rfl⟩
 go_wp2_with fail
 refine (HA.out _ bel).mono ?_
 rintro e W2 ⟨rfl,hb2⟩
 obtain ⟨hc2,hf2,hz2⟩:=bcells hb2 (w.heap.size + 3) sP
 go_wp2_with fail
 refine (HB.out _ bel).mono ?_
 rintro e W3 ⟨rfl,hb3⟩
 obtain ⟨hc3,hf3,hz3⟩:=bcells hb3 (w.heap.size + 3) oM
 go_wp2_with fail
 refine (HC.out _ bel).mono ?_
 rintro e W4 ⟨rg,rfl,hrg,hb4⟩
 obtain ⟨hc4,hf4,hz4⟩:=bcells hb4 (w.heap.size + 3) oM
 obtain ⟨A5,n5,c5,rfl,-⟩:=hrg.ex
 go_wp2_with fail
 refine (isOne_t _ _ _ hrg rfl).mono ?_
 rintro e W5 ⟨rfl,rfl⟩
 go_wp2_with fail
 have B4:Below w.heap.size w W4:=bel
 refine (HO.out _ B4).mono ?_
 rintro e W5 ⟨rfl,rfl⟩
 go_wp2
 have NB:=NumBox.of hc4 oM (NumBox.of hc3 oM (NumBox.of hc2 (g:=w.heap.size + 1 + 1) oM (.nil sG sG sG sG sG)))
 refine bodyPost_ret (v:=.agg #[.slice A n c,.bool p,.slice A' n' c',.bool p',.slice A'' n'' c'']) (by simp [results,Tryz.results158]; exact run_load5 NB _ _ _ _ _) rfl ?_
 exact RetNum.box B4 oM NB (.mk HL.out (HR.out.below B4) (HI.out.below B4) (by rw [dn_of_gt HD.out]; exact HS.out.below B4)) _ _ _ _ _
theorem reduced_n (r i s t:Value) (a b:Int) (d g k:Nat) (x:Cx) (w:World) (hr:IsInt w r a) (hi:IsInt w i b) (hs:IsNat w s d) (ht:IsNat w t g) (hd:1 < d) (hg0:0 < g)
  (ha:a ≠ 0) (hl:Low x (a / (k:Int)) (b / (k:Int)) (d / k)) (h1:Nat.gcd (Nat.gcd g a.natAbs) b.natAbs = k) (hk:1 < k) (ka:(k:Int) ∣ a) (kb:(k:Int) ∣ b) (kd:k ∣ d) (sk:wl k < 549755813888) (hdk:d / k = 1)
  (sa:wl a.natAbs < 549755813888) (sb:wl b.natAbs < 549755813888) (sd:wl d < 549755813888) (sg:wl g < 549755813888) (hT:Tab w) :
  Calls Tryz.prog 158 #[r,i,s,t] w (RetNum w x):=by
 obtain ⟨A,n,c,rfl,-,hra⟩:=hr.parts
 obtain ⟨A',n',c',rfl,-,hib⟩:=hi.parts
 obtain ⟨A'',n'',c'',rfl,hnn⟩:=hs.ex
 obtain ⟨A3,n3,c3,rfl,-⟩:=ht.ex
 have HL:=hid hl
 have HO:=hid (fun W (hb:Below w.heap.size w W)=>isOne_f _ _ W (hs.below hb) oM)
 have HA:=hid (fun W (hb:Below w.heap.size w W)=>isZero_f _ _ W (hr.below hb) ha)
 have HC:=hid (fun W (hb:Below w.heap.size w W)=>common_any _ _ _ _ _ _ W (hra.below hb) (hib.below hb) (ht.below hb) hg0 sa sb sg (hT.below hb))
 rw [h1] at HC
 have HEa:=hid (fun W u (hb:Below w.heap.size w W) (hu:IsNat W u k)=>exactI_any _ u _ k W (hr.below hb) hu oM ka sa sk (hT.below hb))
 have HEb:=hid (fun W u (hb:Below w.heap.size w W) (hu:IsNat W u k)=>exactI_any _ u _ k W (hi.below hb) hu oM kb sb sk (hT.below hb))
 have HEd:=hid (fun W u (hb:Below w.heap.size w W) (hu:IsNat W u k)=>exact_any _ u _ k W (hs.below hb) hu oM sd sk (hT.below hb))
 have h0:0 < n'':=by rw [hnn]; exact Nat.pos_of_ne_zero fun e=>by have:=wl_eq_zero.1 e; omega
 have h0':¬ n'' = 0:=oM
 have HR:=hid hr
 have HI:=hid hi
 have HS:=hid hs
 have HD:=hid hd
 have HK:=hid hk
 have HDK:=hid hdk
 clear hr hi hs ht hra hib hl hnn h1 ha hd sa sb sd sg hg0 hT hk ka kb kd sk hdk
 generalize decide (a < 0) = p at *
 generalize decide (b < 0) = p' at *
 go_enter Tryz.func158,Tryz.ntmps158
 go_wp2_with fail
 refine (HO.out _ bel).mono ?_
 rintro e W2 ⟨rfl,rfl⟩
 go_wp2_with fail
 refine (HA.out _ bel).mono ?_
 rintro e W2 ⟨rfl,hb2⟩
 obtain ⟨hc2,hf2,hz2⟩:=bcells hb2 (w.heap.size + 3) sP
 go_wp2_with fail
 refine (HC.out _ bel).mono ?_
 rintro e W4 ⟨rg,rfl,hrg,hb4⟩
 obtain ⟨hc4,hf4,hz4⟩:=bcells hb4 (w.heap.size + 3) oM
 obtain ⟨A5,n5,c5,rfl,-⟩:=hrg.ex
 go_wp2_with fail
 refine (isOne_f _ _ _ hrg (by have:=HK.out; omega)).mono ?_
 rintro e W5 ⟨rfl,rfl⟩
 go_wp2_with fail
 have NB:=NumBox.of hc4 oM (NumBox.of hc2 (g:=w.heap.size + 1 + 1) oM (.nil sG sG sG sG sG))
 have f00:W4.cell? ⟨w.heap.size,0,none⟩ = some (.slice A n c):=(hc4 _ _ oM).trans ((hc2 _ _ oM).trans sG)
 have g00:W4.frozen? ⟨w.heap.size,0,none⟩ = false:=(hf4 _ _ oM).trans ((hf2 _ _ oM).trans sG)
 have f01:W4.cell? ⟨w.heap.size,1,none⟩ = some (.bool p):=(hc4 _ _ oM).trans ((hc2 _ _ oM).trans sG)
 have g01:W4.frozen? ⟨w.heap.size,1,none⟩ = false:=(hf4 _ _ oM).trans ((hf2 _ _ oM).trans sG)
 have f10:W4.cell? ⟨w.heap.size + 1,0,none⟩ = some (.slice A' n' c'):=(hc4 _ _ oM).trans ((hc2 _ _ oM).trans sG)
 have g10:W4.frozen? ⟨w.heap.size + 1,0,none⟩ = false:=(hf4 _ _ oM).trans ((hf2 _ _ oM).trans sG)
 have f11:W4.cell? ⟨w.heap.size + 1,1,none⟩ = some (.bool p'):=(hc4 _ _ oM).trans ((hc2 _ _ oM).trans sG)
 have g11:W4.frozen? ⟨w.heap.size + 1,1,none⟩ = false:=(hf4 _ _ oM).trans ((hf2 _ _ oM).trans sG)
 have z0:W4.cell? ⟨w.heap.size + 1 + 1,0,none⟩ = some (.slice none 0 0):=(hc4 _ _ oM).trans ((hc2 _ _ oM).trans sG)
 have y0:W4.frozen? ⟨w.heap.size + 1 + 1,0,none⟩ = false:=(hf4 _ _ oM).trans ((hf2 _ _ oM).trans sG)
 have z1:W4.cell? ⟨w.heap.size + 1 + 1,1,none⟩ = some (.bool false):=(hc4 _ _ oM).trans ((hc2 _ _ oM).trans sG)
 have y1:W4.frozen? ⟨w.heap.size + 1 + 1,1,none⟩ = false:=(hf4 _ _ oM).trans ((hf2 _ _ oM).trans sG)
 have z2:W4.cell? ⟨w.heap.size + 1 + 1,2,none⟩ = some (.slice none 0 0):=(hc4 _ _ oM).trans ((hc2 _ _ oM).trans sG)
 have y2:W4.frozen? ⟨w.heap.size + 1 + 1,2,none⟩ = false:=(hf4 _ _ oM).trans ((hf2 _ _ oM).trans sG)
 have z3:W4.cell? ⟨w.heap.size + 1 + 1,3,none⟩ = some (.bool false):=(hc4 _ _ oM).trans ((hc2 _ _ oM).trans sG)
 have y3:W4.frozen? ⟨w.heap.size + 1 + 1,3,none⟩ = false:=(hf4 _ _ oM).trans ((hf2 _ _ oM).trans sG)
 have z4:W4.cell? ⟨w.heap.size + 1 + 1,4,none⟩ = some (.slice none 0 0):=(hc4 _ _ oM).trans ((hc2 _ _ oM).trans sG)
 have y4:W4.frozen? ⟨w.heap.size + 1 + 1,4,none⟩ = false:=(hf4 _ _ oM).trans ((hf2 _ _ oM).trans sG)
 have B4:Below w.heap.size w W4:=bel
 clear hc2 hf2 hc4 hf4
 go_region_with (first | (go_at_call 189; (first | ((with_reducible refine (HEa.out _ _ ?_ ?_).mono ?_); (exact bel); (exact hrg.below bel); (rintro e W6 ⟨r6,rfl,hr6,hb6⟩; obtain ⟨A6,n6,c6,rfl,-,-⟩:=hr6.parts; generalize decide (a / (k:Int) < 0) = q at *; have kb6:Below W4.heap.size W4 W6:=bel; clear hb6; obtain ⟨hc6,hf6,hz6⟩:=bcells kb6 (w.heap.size + 3) oM)) | ((with_reducible refine (HEb.out _ _ ?_ ?_).mono ?_); (exact bel); (exact hrg.below bel); (rintro e W7 ⟨r7,rfl,hr7,hb7⟩; obtain ⟨A7,n7,c7,rfl,-,-⟩:=hr7.parts; generalize decide (b / (k:Int) < 0) = q' at *; have kb7:Below W6.heap.size W6 W7:=bel; clear hb7; obtain ⟨hc7,hf7,hz7⟩:=bcells kb7 (w.heap.size + 3) oM)))) | (go_at_call 190; ((with_reducible refine (HEd.out _ _ ?_ ?_).mono ?_); (exact bel); (exact hrg.below bel); (rintro e W8 ⟨r8,rfl,hr8,hb8⟩; obtain ⟨A8,n8,c8,rfl,hnn8⟩:=hr8.ex; have HN:=hid hnn8; clear hnn8; have kb8:Below W7.heap.size W7 W8:=bel; clear hb8; obtain ⟨hc8,hf8,hz8⟩:=bcells kb8 (w.heap.size + 3) oM))))
 all_goals
  go_wp2_with fail
  have B7:=bT kb7 kb8
  have B8:=bT kb6 B7
  obtain ⟨hc9,hf9,hz9⟩:=bcells B8 (w.heap.size + 3) oM
  have I0:IntBox W8 w.heap.size:=IntBox.of hc9 oM (.mk f00 f01)
  have I1:IntBox W8 (w.heap.size + 1):=IntBox.of hc9 oM (.mk f10 f11)
  have N2:=(NumBox.of hc9 oM NB)
  have I1':=I1.set2 (g:=w.heap.size) oM (.slice A6 n6 c6) (.bool q)
  have N2':=(N2.set2 (g:=w.heap.size) oM (.slice A6 n6 c6) (.bool q)).set2 (g:=w.heap.size + 1) oM (.slice A7 n7 c7) (.bool q')
  have H8:=(hr8.box2 I0 (.slice A6 n6 c6) (.bool q)).box2 I1' (.slice A7 n7 c7) (.bool q')
  have H7:=((hr7.below kb8).box2 I0 (.slice A6 n6 c6) (.bool q)).box2 I1' (.slice A7 n7 c7) (.bool q')
  have H6:=((hr6.below B7).box2 I0 (.slice A6 n6 c6) (.bool q)).box2 I1' (.slice A7 n7 c7) (.bool q')
  have B9:=bT B4 B8
  have B9':=(((B9.setCell (p:=⟨w.heap.size,0,none⟩) sP (.slice A6 n6 c6)).setCell (p:=⟨w.heap.size,1,none⟩) sP (.bool q)).setCell (p:=⟨w.heap.size + 1,0,none⟩) sP (.slice A7 n7 c7)).setCell (p:=⟨w.heap.size + 1,1,none⟩) sP (.bool q')
  refine (isOne_t _ _ _ H8 HDK.out).mono ?_
  rintro e W9 ⟨rfl,rfl⟩
  have k00:=(hc9 w.heap.size 0 oM).trans f00
  have k01:=(hc9 w.heap.size 1 oM).trans f01
  have k10:=(hc9 (w.heap.size + 1) 0 oM).trans f10
  have k11:=(hc9 (w.heap.size + 1) 1 oM).trans f11
  have z0':=(hc9 (w.heap.size + 1 + 1) 0 oM).trans z0
  have z1':=(hc9 (w.heap.size + 1 + 1) 1 oM).trans z1
  have z2':=(hc9 (w.heap.size + 1 + 1) 2 oM).trans z2
  have z3':=(hc9 (w.heap.size + 1 + 1) 3 oM).trans z3
  have z4':=(hc9 (w.heap.size + 1 + 1) 4 oM).trans z4
  have y0':=(hf9 (w.heap.size + 1 + 1) 0 oM).trans y0
  have y1':=(hf9 (w.heap.size + 1 + 1) 1 oM).trans y1
  have y2':=(hf9 (w.heap.size + 1 + 1) 2 oM).trans y2
  have y3':=(hf9 (w.heap.size + 1 + 1) 3 oM).trans y3
  have y4':=(hf9 (w.heap.size + 1 + 1) 4 oM).trans y4
  clear z0 z1 z2 z3 z4 y0 y1 y2 y3 y4 hc6 hc7 hc8 hf6 hf7 hf8 hc9 hf9 f00 f01 f10 f11
  go_wp2
  refine bodyPost_ret (v:=.agg #[.slice A6 n6 c6,.bool q,.slice A7 n7 c7,.bool q',.slice none 0 0]) (by simp [results,Tryz.results158]; exact run_load5 N2' _ _ _ _ _) rfl ?_
  exact RetNum.box B9' oM N2' (.mk HL.out H6 H7 (by rw [HDK.out]; exact IsNat.zero _ _ _)) _ _ _ _ _
theorem reduced_nz (r i s t:Value) (a b:Int) (d g k:Nat) (x:Cx) (w:World) (hr:IsInt w r a) (hi:IsInt w i b) (hs:IsNat w s d) (ht:IsNat w t g) (hd:1 < d) (hg0:0 < g)
  (ha:a = 0) (hb0:b ≠ 0) (hl:Low x (a / (k:Int)) (b / (k:Int)) (d / k)) (h1:Nat.gcd (Nat.gcd g a.natAbs) b.natAbs = k) (hk:1 < k) (ka:(k:Int) ∣ a) (kb:(k:Int) ∣ b) (kd:k ∣ d) (sk:wl k < 549755813888) (hdk:d / k = 1)
  (sa:wl a.natAbs < 549755813888) (sb:wl b.natAbs < 549755813888) (sd:wl d < 549755813888) (sg:wl g < 549755813888) (hT:Tab w) :
  Calls Tryz.prog 158 #[r,i,s,t] w (RetNum w x):=by
 obtain ⟨A,n,c,rfl,-,hra⟩:=hr.parts
 obtain ⟨A',n',c',rfl,-,hib⟩:=hi.parts
 obtain ⟨A'',n'',c'',rfl,hnn⟩:=hs.ex
 obtain ⟨A3,n3,c3,rfl,-⟩:=ht.ex
 have HL:=hid hl
 have HO:=hid (fun W (hb:Below w.heap.size w W)=>isOne_f _ _ W (hs.below hb) oM)
 have HA:=hid (fun W (hb:Below w.heap.size w W)=>isZero_t _ _ W (hr.below hb) ha)
 have HB:=hid (fun W (hb:Below w.heap.size w W)=>isZero_f _ _ W (hi.below hb) hb0)
 have HC:=hid (fun W (hb:Below w.heap.size w W)=>common_any _ _ _ _ _ _ W (hra.below hb) (hib.below hb) (ht.below hb) hg0 sa sb sg (hT.below hb))
 rw [h1] at HC
 have HEa:=hid (fun W u (hb:Below w.heap.size w W) (hu:IsNat W u k)=>exactI_any _ u _ k W (hr.below hb) hu oM ka sa sk (hT.below hb))
 have HEb:=hid (fun W u (hb:Below w.heap.size w W) (hu:IsNat W u k)=>exactI_any _ u _ k W (hi.below hb) hu oM kb sb sk (hT.below hb))
 have HEd:=hid (fun W u (hb:Below w.heap.size w W) (hu:IsNat W u k)=>exact_any _ u _ k W (hs.below hb) hu oM sd sk (hT.below hb))
 have h0:0 < n'':=by rw [hnn]; exact Nat.pos_of_ne_zero fun e=>by have:=wl_eq_zero.1 e; omega
 have h0':¬ n'' = 0:=oM
 have HR:=hid hr
 have HI:=hid hi
 have HS:=hid hs
 have HD:=hid hd
 have HK:=hid hk
 have HDK:=hid hdk
 clear hr hi hs ht hra hib hl hnn h1 ha hd sa sb sd sg hg0 hT hb0 hk ka kb kd sk hdk
 generalize decide (a < 0) = p at *
 generalize decide (b < 0) = p' at *
 go_enter Tryz.func158,Tryz.ntmps158
 go_wp2_with fail
 refine (HO.out _ bel).mono ?_
 rintro e W2 ⟨rfl,rfl⟩
 go_wp2_with fail
 refine (HA.out _ bel).mono ?_
 rintro e W2 ⟨rfl,hb2⟩
 obtain ⟨hc2,hf2,hz2⟩:=bcells hb2 (w.heap.size + 3) sP
 go_wp2_with fail
 refine (HB.out _ bel).mono ?_
 rintro e W3 ⟨rfl,hb3⟩
 obtain ⟨hc3,hf3,hz3⟩:=bcells hb3 (w.heap.size + 3) oM
 go_wp2_with fail
 refine (HC.out _ bel).mono ?_
 rintro e W4 ⟨rg,rfl,hrg,hb4⟩
 obtain ⟨hc4,hf4,hz4⟩:=bcells hb4 (w.heap.size + 3) oM
 obtain ⟨A5,n5,c5,rfl,-⟩:=hrg.ex
 go_wp2_with fail
 refine (isOne_f _ _ _ hrg (by have:=HK.out; omega)).mono ?_
 rintro e W5 ⟨rfl,rfl⟩
 go_wp2_with fail
 have NB:=NumBox.of hc4 oM (NumBox.of hc3 oM (NumBox.of hc2 (g:=w.heap.size + 1 + 1) oM (.nil sG sG sG sG sG)))
 have f00:W4.cell? ⟨w.heap.size,0,none⟩ = some (.slice A n c):=(hc4 _ _ oM).trans ((hc3 _ _ oM).trans ((hc2 _ _ oM).trans sG))
 have g00:W4.frozen? ⟨w.heap.size,0,none⟩ = false:=(hf4 _ _ oM).trans ((hf3 _ _ oM).trans ((hf2 _ _ oM).trans sG))
 have f01:W4.cell? ⟨w.heap.size,1,none⟩ = some (.bool p):=(hc4 _ _ oM).trans ((hc3 _ _ oM).trans ((hc2 _ _ oM).trans sG))
 have g01:W4.frozen? ⟨w.heap.size,1,none⟩ = false:=(hf4 _ _ oM).trans ((hf3 _ _ oM).trans ((hf2 _ _ oM).trans sG))
 have f10:W4.cell? ⟨w.heap.size + 1,0,none⟩ = some (.slice A' n' c'):=(hc4 _ _ oM).trans ((hc3 _ _ oM).trans ((hc2 _ _ oM).trans sG))
 have g10:W4.frozen? ⟨w.heap.size + 1,0,none⟩ = false:=(hf4 _ _ oM).trans ((hf3 _ _ oM).trans ((hf2 _ _ oM).trans sG))
 have f11:W4.cell? ⟨w.heap.size + 1,1,none⟩ = some (.bool p'):=(hc4 _ _ oM).trans ((hc3 _ _ oM).trans ((hc2 _ _ oM).trans sG))
 have g11:W4.frozen? ⟨w.heap.size + 1,1,none⟩ = false:=(hf4 _ _ oM).trans ((hf3 _ _ oM).trans ((hf2 _ _ oM).trans sG))
 have z0:W4.cell? ⟨w.heap.size + 1 + 1,0,none⟩ = some (.slice none 0 0):=(hc4 _ _ oM).trans ((hc3 _ _ oM).trans ((hc2 _ _ oM).trans sG))
 have y0:W4.frozen? ⟨w.heap.size + 1 + 1,0,none⟩ = false:=(hf4 _ _ oM).trans ((hf3 _ _ oM).trans ((hf2 _ _ oM).trans sG))
 have z1:W4.cell? ⟨w.heap.size + 1 + 1,1,none⟩ = some (.bool false):=(hc4 _ _ oM).trans ((hc3 _ _ oM).trans ((hc2 _ _ oM).trans sG))
 have y1:W4.frozen? ⟨w.heap.size + 1 + 1,1,none⟩ = false:=(hf4 _ _ oM).trans ((hf3 _ _ oM).trans ((hf2 _ _ oM).trans sG))
 have z2:W4.cell? ⟨w.heap.size + 1 + 1,2,none⟩ = some (.slice none 0 0):=(hc4 _ _ oM).trans ((hc3 _ _ oM).trans ((hc2 _ _ oM).trans sG))
 have y2:W4.frozen? ⟨w.heap.size + 1 + 1,2,none⟩ = false:=(hf4 _ _ oM).trans ((hf3 _ _ oM).trans ((hf2 _ _ oM).trans sG))
 have z3:W4.cell? ⟨w.heap.size + 1 + 1,3,none⟩ = some (.bool false):=(hc4 _ _ oM).trans ((hc3 _ _ oM).trans ((hc2 _ _ oM).trans sG))
 have y3:W4.frozen? ⟨w.heap.size + 1 + 1,3,none⟩ = false:=(hf4 _ _ oM).trans ((hf3 _ _ oM).trans ((hf2 _ _ oM).trans sG))
 have z4:W4.cell? ⟨w.heap.size + 1 + 1,4,none⟩ = some (.slice none 0 0):=(hc4 _ _ oM).trans ((hc3 _ _ oM).trans ((hc2 _ _ oM).trans sG))
 have y4:W4.frozen? ⟨w.heap.size + 1 + 1,4,none⟩ = false:=(hf4 _ _ oM).trans ((hf3 _ _ oM).trans ((hf2 _ _ oM).trans sG))
 have B4:Below w.heap.size w W4:=bel
 clear hc2 hf2 hc4 hf4 hc3 hf3
 go_region_with (first | (go_at_call 189; (first | ((with_reducible refine (HEa.out _ _ ?_ ?_).mono ?_); (exact bel); (exact hrg.below bel); (rintro e W6 ⟨r6,rfl,hr6,hb6⟩; obtain ⟨A6,n6,c6,rfl,-,-⟩:=hr6.parts; generalize decide (a / (k:Int) < 0) = q at *; have kb6:Below W4.heap.size W4 W6:=bel; clear hb6; obtain ⟨hc6,hf6,hz6⟩:=bcells kb6 (w.heap.size + 3) oM)) | ((with_reducible refine (HEb.out _ _ ?_ ?_).mono ?_); (exact bel); (exact hrg.below bel); (rintro e W7 ⟨r7,rfl,hr7,hb7⟩; obtain ⟨A7,n7,c7,rfl,-,-⟩:=hr7.parts; generalize decide (b / (k:Int) < 0) = q' at *; have kb7:Below W6.heap.size W6 W7:=bel; clear hb7; obtain ⟨hc7,hf7,hz7⟩:=bcells kb7 (w.heap.size + 3) oM)))) | (go_at_call 190; ((with_reducible refine (HEd.out _ _ ?_ ?_).mono ?_); (exact bel); (exact hrg.below bel); (rintro e W8 ⟨r8,rfl,hr8,hb8⟩; obtain ⟨A8,n8,c8,rfl,hnn8⟩:=hr8.ex; have HN:=hid hnn8; clear hnn8; have kb8:Below W7.heap.size W7 W8:=bel; clear hb8; obtain ⟨hc8,hf8,hz8⟩:=bcells kb8 (w.heap.size + 3) oM))))
 all_goals
  go_wp2_with fail
  have B7:=bT kb7 kb8
  have B8:=bT kb6 B7
  obtain ⟨hc9,hf9,hz9⟩:=bcells B8 (w.heap.size + 3) oM
  have I0:IntBox W8 w.heap.size:=IntBox.of hc9 oM (.mk f00 f01)
  have I1:IntBox W8 (w.heap.size + 1):=IntBox.of hc9 oM (.mk f10 f11)
  have N2:=(NumBox.of hc9 oM NB)
  have I1':=I1.set2 (g:=w.heap.size) oM (.slice A6 n6 c6) (.bool q)
  have N2':=(N2.set2 (g:=w.heap.size) oM (.slice A6 n6 c6) (.bool q)).set2 (g:=w.heap.size + 1) oM (.slice A7 n7 c7) (.bool q')
  have H8:=(hr8.box2 I0 (.slice A6 n6 c6) (.bool q)).box2 I1' (.slice A7 n7 c7) (.bool q')
  have H7:=((hr7.below kb8).box2 I0 (.slice A6 n6 c6) (.bool q)).box2 I1' (.slice A7 n7 c7) (.bool q')
  have H6:=((hr6.below B7).box2 I0 (.slice A6 n6 c6) (.bool q)).box2 I1' (.slice A7 n7 c7) (.bool q')
  have B9:=bT B4 B8
  have B9':=(((B9.setCell (p:=⟨w.heap.size,0,none⟩) sP (.slice A6 n6 c6)).setCell (p:=⟨w.heap.size,1,none⟩) sP (.bool q)).setCell (p:=⟨w.heap.size + 1,0,none⟩) sP (.slice A7 n7 c7)).setCell (p:=⟨w.heap.size + 1,1,none⟩) sP (.bool q')
  refine (isOne_t _ _ _ H8 HDK.out).mono ?_
  rintro e W9 ⟨rfl,rfl⟩
  have k00:=(hc9 w.heap.size 0 oM).trans f00
  have k01:=(hc9 w.heap.size 1 oM).trans f01
  have k10:=(hc9 (w.heap.size + 1) 0 oM).trans f10
  have k11:=(hc9 (w.heap.size + 1) 1 oM).trans f11
  have z0':=(hc9 (w.heap.size + 1 + 1) 0 oM).trans z0
  have z1':=(hc9 (w.heap.size + 1 + 1) 1 oM).trans z1
  have z2':=(hc9 (w.heap.size + 1 + 1) 2 oM).trans z2
  have z3':=(hc9 (w.heap.size + 1 + 1) 3 oM).trans z3
  have z4':=(hc9 (w.heap.size + 1 + 1) 4 oM).trans z4
  have y0':=(hf9 (w.heap.size + 1 + 1) 0 oM).trans y0
  have y1':=(hf9 (w.heap.size + 1 + 1) 1 oM).trans y1
  have y2':=(hf9 (w.heap.size + 1 + 1) 2 oM).trans y2
  have y3':=(hf9 (w.heap.size + 1 + 1) 3 oM).trans y3
  have y4':=(hf9 (w.heap.size + 1 + 1) 4 oM).trans y4
  clear z0 z1 z2 z3 z4 y0 y1 y2 y3 y4 hc6 hc7 hc8 hf6 hf7 hf8 hc9 hf9 f00 f01 f10 f11
  go_wp2
  refine bodyPost_ret (v:=.agg #[.slice A6 n6 c6,.bool q,.slice A7 n7 c7,.bool q',.slice none 0 0]) (by simp [results,Tryz.results158]; exact run_load5 N2' _ _ _ _ _) rfl ?_
  exact RetNum.box B9' oM N2' (.mk HL.out H6 H7 (by rw [HDK.out]; exact IsNat.zero _ _ _)) _ _ _ _ _
theorem reduced_d (r i s t:Value) (a b:Int) (d g k:Nat) (x:Cx) (w:World) (hr:IsInt w r a) (hi:IsInt w i b) (hs:IsNat w s d) (ht:IsNat w t g) (hd:1 < d) (hg0:0 < g)
  (ha:a ≠ 0) (hl:Low x (a / (k:Int)) (b / (k:Int)) (d / k)) (h1:Nat.gcd (Nat.gcd g a.natAbs) b.natAbs = k) (hk:1 < k) (ka:(k:Int) ∣ a) (kb:(k:Int) ∣ b) (kd:k ∣ d) (sk:wl k < 549755813888) (hdk:d / k ≠ 1)
  (sa:wl a.natAbs < 549755813888) (sb:wl b.natAbs < 549755813888) (sd:wl d < 549755813888) (sg:wl g < 549755813888) (hT:Tab w) :
  Calls Tryz.prog 158 #[r,i,s,t] w (RetNum w x):=by
 obtain ⟨A,n,c,rfl,-,hra⟩:=hr.parts
 obtain ⟨A',n',c',rfl,-,hib⟩:=hi.parts
 obtain ⟨A'',n'',c'',rfl,hnn⟩:=hs.ex
 obtain ⟨A3,n3,c3,rfl,-⟩:=ht.ex
 have HL:=hid hl
 have HO:=hid (fun W (hb:Below w.heap.size w W)=>isOne_f _ _ W (hs.below hb) oM)
 have HA:=hid (fun W (hb:Below w.heap.size w W)=>isZero_f _ _ W (hr.below hb) ha)
 have HC:=hid (fun W (hb:Below w.heap.size w W)=>common_any _ _ _ _ _ _ W (hra.below hb) (hib.below hb) (ht.below hb) hg0 sa sb sg (hT.below hb))
 rw [h1] at HC
 have HEa:=hid (fun W u (hb:Below w.heap.size w W) (hu:IsNat W u k)=>exactI_any _ u _ k W (hr.below hb) hu oM ka sa sk (hT.below hb))
 have HEb:=hid (fun W u (hb:Below w.heap.size w W) (hu:IsNat W u k)=>exactI_any _ u _ k W (hi.below hb) hu oM kb sb sk (hT.below hb))
 have HEd:=hid (fun W u (hb:Below w.heap.size w W) (hu:IsNat W u k)=>exact_any _ u _ k W (hs.below hb) hu oM sd sk (hT.below hb))
 have h0:0 < n'':=by rw [hnn]; exact Nat.pos_of_ne_zero fun e=>by have:=wl_eq_zero.1 e; omega
 have h0':¬ n'' = 0:=oM
 have HR:=hid hr
 have HI:=hid hi
 have HS:=hid hs
 have HD:=hid hd
 have HK:=hid hk
 have HDK:=hid hdk
 clear hr hi hs ht hra hib hl hnn h1 ha hd sa sb sd sg hg0 hT hk ka kb kd sk hdk
 generalize decide (a < 0) = p at *
 generalize decide (b < 0) = p' at *
 go_enter Tryz.func158,Tryz.ntmps158
 go_wp2_with fail
 refine (HO.out _ bel).mono ?_
 rintro e W2 ⟨rfl,rfl⟩
 go_wp2_with fail
 refine (HA.out _ bel).mono ?_
 rintro e W2 ⟨rfl,hb2⟩
 obtain ⟨hc2,hf2,hz2⟩:=bcells hb2 (w.heap.size + 3) sP
 go_wp2_with fail
 refine (HC.out _ bel).mono ?_
 rintro e W4 ⟨rg,rfl,hrg,hb4⟩
 obtain ⟨hc4,hf4,hz4⟩:=bcells hb4 (w.heap.size + 3) oM
 obtain ⟨A5,n5,c5,rfl,-⟩:=hrg.ex
 go_wp2_with fail
 refine (isOne_f _ _ _ hrg (by have:=HK.out; omega)).mono ?_
 rintro e W5 ⟨rfl,rfl⟩
 go_wp2_with fail
 have NB:=NumBox.of hc4 oM (NumBox.of hc2 (g:=w.heap.size + 1 + 1) oM (.nil sG sG sG sG sG))
 have f00:W4.cell? ⟨w.heap.size,0,none⟩ = some (.slice A n c):=(hc4 _ _ oM).trans ((hc2 _ _ oM).trans sG)
 have g00:W4.frozen? ⟨w.heap.size,0,none⟩ = false:=(hf4 _ _ oM).trans ((hf2 _ _ oM).trans sG)
 have f01:W4.cell? ⟨w.heap.size,1,none⟩ = some (.bool p):=(hc4 _ _ oM).trans ((hc2 _ _ oM).trans sG)
 have g01:W4.frozen? ⟨w.heap.size,1,none⟩ = false:=(hf4 _ _ oM).trans ((hf2 _ _ oM).trans sG)
 have f10:W4.cell? ⟨w.heap.size + 1,0,none⟩ = some (.slice A' n' c'):=(hc4 _ _ oM).trans ((hc2 _ _ oM).trans sG)
 have g10:W4.frozen? ⟨w.heap.size + 1,0,none⟩ = false:=(hf4 _ _ oM).trans ((hf2 _ _ oM).trans sG)
 have f11:W4.cell? ⟨w.heap.size + 1,1,none⟩ = some (.bool p'):=(hc4 _ _ oM).trans ((hc2 _ _ oM).trans sG)
 have g11:W4.frozen? ⟨w.heap.size + 1,1,none⟩ = false:=(hf4 _ _ oM).trans ((hf2 _ _ oM).trans sG)
 have z0:W4.cell? ⟨w.heap.size + 1 + 1,0,none⟩ = some (.slice none 0 0):=(hc4 _ _ oM).trans ((hc2 _ _ oM).trans sG)
 have y0:W4.frozen? ⟨w.heap.size + 1 + 1,0,none⟩ = false:=(hf4 _ _ oM).trans ((hf2 _ _ oM).trans sG)
 have z1:W4.cell? ⟨w.heap.size + 1 + 1,1,none⟩ = some (.bool false):=(hc4 _ _ oM).trans ((hc2 _ _ oM).trans sG)
 have y1:W4.frozen? ⟨w.heap.size + 1 + 1,1,none⟩ = false:=(hf4 _ _ oM).trans ((hf2 _ _ oM).trans sG)
 have z2:W4.cell? ⟨w.heap.size + 1 + 1,2,none⟩ = some (.slice none 0 0):=(hc4 _ _ oM).trans ((hc2 _ _ oM).trans sG)
 have y2:W4.frozen? ⟨w.heap.size + 1 + 1,2,none⟩ = false:=(hf4 _ _ oM).trans ((hf2 _ _ oM).trans sG)
 have z3:W4.cell? ⟨w.heap.size + 1 + 1,3,none⟩ = some (.bool false):=(hc4 _ _ oM).trans ((hc2 _ _ oM).trans sG)
 have y3:W4.frozen? ⟨w.heap.size + 1 + 1,3,none⟩ = false:=(hf4 _ _ oM).trans ((hf2 _ _ oM).trans sG)
 have z4:W4.cell? ⟨w.heap.size + 1 + 1,4,none⟩ = some (.slice none 0 0):=(hc4 _ _ oM).trans ((hc2 _ _ oM).trans sG)
 have y4:W4.frozen? ⟨w.heap.size + 1 + 1,4,none⟩ = false:=(hf4 _ _ oM).trans ((hf2 _ _ oM).trans sG)
 have B4:Below w.heap.size w W4:=bel
 clear hc2 hf2 hc4 hf4
 go_region_with (first | (go_at_call 189; (first | ((with_reducible refine (HEa.out _ _ ?_ ?_).mono ?_); (exact bel); (exact hrg.below bel); (rintro e W6 ⟨r6,rfl,hr6,hb6⟩; obtain ⟨A6,n6,c6,rfl,-,-⟩:=hr6.parts; generalize decide (a / (k:Int) < 0) = q at *; have kb6:Below W4.heap.size W4 W6:=bel; clear hb6; obtain ⟨hc6,hf6,hz6⟩:=bcells kb6 (w.heap.size + 3) oM)) | ((with_reducible refine (HEb.out _ _ ?_ ?_).mono ?_); (exact bel); (exact hrg.below bel); (rintro e W7 ⟨r7,rfl,hr7,hb7⟩; obtain ⟨A7,n7,c7,rfl,-,-⟩:=hr7.parts; generalize decide (b / (k:Int) < 0) = q' at *; have kb7:Below W6.heap.size W6 W7:=bel; clear hb7; obtain ⟨hc7,hf7,hz7⟩:=bcells kb7 (w.heap.size + 3) oM)))) | (go_at_call 190; ((with_reducible refine (HEd.out _ _ ?_ ?_).mono ?_); (exact bel); (exact hrg.below bel); (rintro e W8 ⟨r8,rfl,hr8,hb8⟩; obtain ⟨A8,n8,c8,rfl,hnn8⟩:=hr8.ex; have HN:=hid hnn8; clear hnn8; have kb8:Below W7.heap.size W7 W8:=bel; clear hb8; obtain ⟨hc8,hf8,hz8⟩:=bcells kb8 (w.heap.size + 3) oM))))
 all_goals
  go_wp2_with fail
  have B7:=bT kb7 kb8
  have B8:=bT kb6 B7
  obtain ⟨hc9,hf9,hz9⟩:=bcells B8 (w.heap.size + 3) oM
  have I0:IntBox W8 w.heap.size:=IntBox.of hc9 oM (.mk f00 f01)
  have I1:IntBox W8 (w.heap.size + 1):=IntBox.of hc9 oM (.mk f10 f11)
  have N2:=(NumBox.of hc9 oM NB)
  have I1':=I1.set2 (g:=w.heap.size) oM (.slice A6 n6 c6) (.bool q)
  have N2':=(N2.set2 (g:=w.heap.size) oM (.slice A6 n6 c6) (.bool q)).set2 (g:=w.heap.size + 1) oM (.slice A7 n7 c7) (.bool q')
  have H8:=(hr8.box2 I0 (.slice A6 n6 c6) (.bool q)).box2 I1' (.slice A7 n7 c7) (.bool q')
  have H7:=((hr7.below kb8).box2 I0 (.slice A6 n6 c6) (.bool q)).box2 I1' (.slice A7 n7 c7) (.bool q')
  have H6:=((hr6.below B7).box2 I0 (.slice A6 n6 c6) (.bool q)).box2 I1' (.slice A7 n7 c7) (.bool q')
  have B9:=bT B4 B8
  have B9':=(((B9.setCell (p:=⟨w.heap.size,0,none⟩) sP (.slice A6 n6 c6)).setCell (p:=⟨w.heap.size,1,none⟩) sP (.bool q)).setCell (p:=⟨w.heap.size + 1,0,none⟩) sP (.slice A7 n7 c7)).setCell (p:=⟨w.heap.size + 1,1,none⟩) sP (.bool q')
  refine (isOne_f _ _ _ H8 HDK.out).mono ?_
  rintro e W9 ⟨rfl,rfl⟩
  have k00:=(hc9 w.heap.size 0 oM).trans f00
  have k01:=(hc9 w.heap.size 1 oM).trans f01
  have k10:=(hc9 (w.heap.size + 1) 0 oM).trans f10
  have k11:=(hc9 (w.heap.size + 1) 1 oM).trans f11
  have z0':=(hc9 (w.heap.size + 1 + 1) 0 oM).trans z0
  have z1':=(hc9 (w.heap.size + 1 + 1) 1 oM).trans z1
  have z2':=(hc9 (w.heap.size + 1 + 1) 2 oM).trans z2
  have z3':=(hc9 (w.heap.size + 1 + 1) 3 oM).trans z3
  have z4':=(hc9 (w.heap.size + 1 + 1) 4 oM).trans z4
  have y0':=(hf9 (w.heap.size + 1 + 1) 0 oM).trans y0
  have y1':=(hf9 (w.heap.size + 1 + 1) 1 oM).trans y1
  have y2':=(hf9 (w.heap.size + 1 + 1) 2 oM).trans y2
  have y3':=(hf9 (w.heap.size + 1 + 1) 3 oM).trans y3
  have y4':=(hf9 (w.heap.size + 1 + 1) 4 oM).trans y4
  clear z0 z1 z2 z3 z4 y0 y1 y2 y3 y4 hc6 hc7 hc8 hf6 hf7 hf8 hc9 hf9 f00 f01 f10 f11
  go_wp2
  refine bodyPost_ret (v:=.agg #[.slice A6 n6 c6,.bool q,.slice A7 n7 c7,.bool q',.slice A8 n8 c8]) (by simp [results,Tryz.results158]; exact run_load5 N2' _ _ _ _ _) rfl ?_
  exact RetNum.box B9' oM N2' (.mk HL.out H6 H7 (by rw [dn,if_neg HDK.out]; exact H8)) _ _ _ _ _
theorem reduced_dz (r i s t:Value) (a b:Int) (d g k:Nat) (x:Cx) (w:World) (hr:IsInt w r a) (hi:IsInt w i b) (hs:IsNat w s d) (ht:IsNat w t g) (hd:1 < d) (hg0:0 < g)
  (ha:a = 0) (hb0:b ≠ 0) (hl:Low x (a / (k:Int)) (b / (k:Int)) (d / k)) (h1:Nat.gcd (Nat.gcd g a.natAbs) b.natAbs = k) (hk:1 < k) (ka:(k:Int) ∣ a) (kb:(k:Int) ∣ b) (kd:k ∣ d) (sk:wl k < 549755813888) (hdk:d / k ≠ 1)
  (sa:wl a.natAbs < 549755813888) (sb:wl b.natAbs < 549755813888) (sd:wl d < 549755813888) (sg:wl g < 549755813888) (hT:Tab w) :
  Calls Tryz.prog 158 #[r,i,s,t] w (RetNum w x):=by
 obtain ⟨A,n,c,rfl,-,hra⟩:=hr.parts
 obtain ⟨A',n',c',rfl,-,hib⟩:=hi.parts
 obtain ⟨A'',n'',c'',rfl,hnn⟩:=hs.ex
 obtain ⟨A3,n3,c3,rfl,-⟩:=ht.ex
 have HL:=hid hl
 have HO:=hid (fun W (hb:Below w.heap.size w W)=>isOne_f _ _ W (hs.below hb) oM)
 have HA:=hid (fun W (hb:Below w.heap.size w W)=>isZero_t _ _ W (hr.below hb) ha)
 have HB:=hid (fun W (hb:Below w.heap.size w W)=>isZero_f _ _ W (hi.below hb) hb0)
 have HC:=hid (fun W (hb:Below w.heap.size w W)=>common_any _ _ _ _ _ _ W (hra.below hb) (hib.below hb) (ht.below hb) hg0 sa sb sg (hT.below hb))
 rw [h1] at HC
 have HEa:=hid (fun W u (hb:Below w.heap.size w W) (hu:IsNat W u k)=>exactI_any _ u _ k W (hr.below hb) hu oM ka sa sk (hT.below hb))
 have HEb:=hid (fun W u (hb:Below w.heap.size w W) (hu:IsNat W u k)=>exactI_any _ u _ k W (hi.below hb) hu oM kb sb sk (hT.below hb))
 have HEd:=hid (fun W u (hb:Below w.heap.size w W) (hu:IsNat W u k)=>exact_any _ u _ k W (hs.below hb) hu oM sd sk (hT.below hb))
 have h0:0 < n'':=by rw [hnn]; exact Nat.pos_of_ne_zero fun e=>by have:=wl_eq_zero.1 e; omega
 have h0':¬ n'' = 0:=oM
 have HR:=hid hr
 have HI:=hid hi
 have HS:=hid hs
 have HD:=hid hd
 have HK:=hid hk
 have HDK:=hid hdk
 clear hr hi hs ht hra hib hl hnn h1 ha hd sa sb sd sg hg0 hT hb0 hk ka kb kd sk hdk
 generalize decide (a < 0) = p at *
 generalize decide (b < 0) = p' at *
 go_enter Tryz.func158,Tryz.ntmps158
 go_wp2_with fail
 refine (HO.out _ bel).mono ?_
 rintro e W2 ⟨rfl,rfl⟩
 go_wp2_with fail
 refine (HA.out _ bel).mono ?_
 rintro e W2 ⟨rfl,hb2⟩
 obtain ⟨hc2,hf2,hz2⟩:=bcells hb2 (w.heap.size + 3) sP
 go_wp2_with fail
 refine (HB.out _ bel).mono ?_
 rintro e W3 ⟨rfl,hb3⟩
 obtain ⟨hc3,hf3,hz3⟩:=bcells hb3 (w.heap.size + 3) oM
 go_wp2_with fail
 refine (HC.out _ bel).mono ?_
 rintro e W4 ⟨rg,rfl,hrg,hb4⟩
 obtain ⟨hc4,hf4,hz4⟩:=bcells hb4 (w.heap.size + 3) oM
 obtain ⟨A5,n5,c5,rfl,-⟩:=hrg.ex
 go_wp2_with fail
 refine (isOne_f _ _ _ hrg (by have:=HK.out; omega)).mono ?_
 rintro e W5 ⟨rfl,rfl⟩
 go_wp2_with fail
 have NB:=NumBox.of hc4 oM (NumBox.of hc3 oM (NumBox.of hc2 (g:=w.heap.size + 1 + 1) oM (.nil sG sG sG sG sG)))
 have f00:W4.cell? ⟨w.heap.size,0,none⟩ = some (.slice A n c):=(hc4 _ _ oM).trans ((hc3 _ _ oM).trans ((hc2 _ _ oM).trans sG))
 have g00:W4.frozen? ⟨w.heap.size,0,none⟩ = false:=(hf4 _ _ oM).trans ((hf3 _ _ oM).trans ((hf2 _ _ oM).trans sG))
 have f01:W4.cell? ⟨w.heap.size,1,none⟩ = some (.bool p):=(hc4 _ _ oM).trans ((hc3 _ _ oM).trans ((hc2 _ _ oM).trans sG))
 have g01:W4.frozen? ⟨w.heap.size,1,none⟩ = false:=(hf4 _ _ oM).trans ((hf3 _ _ oM).trans ((hf2 _ _ oM).trans sG))
 have f10:W4.cell? ⟨w.heap.size + 1,0,none⟩ = some (.slice A' n' c'):=(hc4 _ _ oM).trans ((hc3 _ _ oM).trans ((hc2 _ _ oM).trans sG))
 have g10:W4.frozen? ⟨w.heap.size + 1,0,none⟩ = false:=(hf4 _ _ oM).trans ((hf3 _ _ oM).trans ((hf2 _ _ oM).trans sG))
 have f11:W4.cell? ⟨w.heap.size + 1,1,none⟩ = some (.bool p'):=(hc4 _ _ oM).trans ((hc3 _ _ oM).trans ((hc2 _ _ oM).trans sG))
 have g11:W4.frozen? ⟨w.heap.size + 1,1,none⟩ = false:=(hf4 _ _ oM).trans ((hf3 _ _ oM).trans ((hf2 _ _ oM).trans sG))
 have z0:W4.cell? ⟨w.heap.size + 1 + 1,0,none⟩ = some (.slice none 0 0):=(hc4 _ _ oM).trans ((hc3 _ _ oM).trans ((hc2 _ _ oM).trans sG))
 have y0:W4.frozen? ⟨w.heap.size + 1 + 1,0,none⟩ = false:=(hf4 _ _ oM).trans ((hf3 _ _ oM).trans ((hf2 _ _ oM).trans sG))
 have z1:W4.cell? ⟨w.heap.size + 1 + 1,1,none⟩ = some (.bool false):=(hc4 _ _ oM).trans ((hc3 _ _ oM).trans ((hc2 _ _ oM).trans sG))
 have y1:W4.frozen? ⟨w.heap.size + 1 + 1,1,none⟩ = false:=(hf4 _ _ oM).trans ((hf3 _ _ oM).trans ((hf2 _ _ oM).trans sG))
 have z2:W4.cell? ⟨w.heap.size + 1 + 1,2,none⟩ = some (.slice none 0 0):=(hc4 _ _ oM).trans ((hc3 _ _ oM).trans ((hc2 _ _ oM).trans sG))
 have y2:W4.frozen? ⟨w.heap.size + 1 + 1,2,none⟩ = false:=(hf4 _ _ oM).trans ((hf3 _ _ oM).trans ((hf2 _ _ oM).trans sG))
 have z3:W4.cell? ⟨w.heap.size + 1 + 1,3,none⟩ = some (.bool false):=(hc4 _ _ oM).trans ((hc3 _ _ oM).trans ((hc2 _ _ oM).trans sG))
 have y3:W4.frozen? ⟨w.heap.size + 1 + 1,3,none⟩ = false:=(hf4 _ _ oM).trans ((hf3 _ _ oM).trans ((hf2 _ _ oM).trans sG))
 have z4:W4.cell? ⟨w.heap.size + 1 + 1,4,none⟩ = some (.slice none 0 0):=(hc4 _ _ oM).trans ((hc3 _ _ oM).trans ((hc2 _ _ oM).trans sG))
 have y4:W4.frozen? ⟨w.heap.size + 1 + 1,4,none⟩ = false:=(hf4 _ _ oM).trans ((hf3 _ _ oM).trans ((hf2 _ _ oM).trans sG))
 have B4:Below w.heap.size w W4:=bel
 clear hc2 hf2 hc4 hf4 hc3 hf3
 go_region_with (first | (go_at_call 189; (first | ((with_reducible refine (HEa.out _ _ ?_ ?_).mono ?_); (exact bel); (exact hrg.below bel); (rintro e W6 ⟨r6,rfl,hr6,hb6⟩; obtain ⟨A6,n6,c6,rfl,-,-⟩:=hr6.parts; generalize decide (a / (k:Int) < 0) = q at *; have kb6:Below W4.heap.size W4 W6:=bel; clear hb6; obtain ⟨hc6,hf6,hz6⟩:=bcells kb6 (w.heap.size + 3) oM)) | ((with_reducible refine (HEb.out _ _ ?_ ?_).mono ?_); (exact bel); (exact hrg.below bel); (rintro e W7 ⟨r7,rfl,hr7,hb7⟩; obtain ⟨A7,n7,c7,rfl,-,-⟩:=hr7.parts; generalize decide (b / (k:Int) < 0) = q' at *; have kb7:Below W6.heap.size W6 W7:=bel; clear hb7; obtain ⟨hc7,hf7,hz7⟩:=bcells kb7 (w.heap.size + 3) oM)))) | (go_at_call 190; ((with_reducible refine (HEd.out _ _ ?_ ?_).mono ?_); (exact bel); (exact hrg.below bel); (rintro e W8 ⟨r8,rfl,hr8,hb8⟩; obtain ⟨A8,n8,c8,rfl,hnn8⟩:=hr8.ex; have HN:=hid hnn8; clear hnn8; have kb8:Below W7.heap.size W7 W8:=bel; clear hb8; obtain ⟨hc8,hf8,hz8⟩:=bcells kb8 (w.heap.size + 3) oM))))
 all_goals
  go_wp2_with fail
  have B7:=bT kb7 kb8
  have B8:=bT kb6 B7
  obtain ⟨hc9,hf9,hz9⟩:=bcells B8 (w.heap.size + 3) oM
  have I0:IntBox W8 w.heap.size:=IntBox.of hc9 oM (.mk f00 f01)
  have I1:IntBox W8 (w.heap.size + 1):=IntBox.of hc9 oM (.mk f10 f11)
  have N2:=(NumBox.of hc9 oM NB)
  have I1':=I1.set2 (g:=w.heap.size) oM (.slice A6 n6 c6) (.bool q)
  have N2':=(N2.set2 (g:=w.heap.size) oM (.slice A6 n6 c6) (.bool q)).set2 (g:=w.heap.size + 1) oM (.slice A7 n7 c7) (.bool q')
  have H8:=(hr8.box2 I0 (.slice A6 n6 c6) (.bool q)).box2 I1' (.slice A7 n7 c7) (.bool q')
  have H7:=((hr7.below kb8).box2 I0 (.slice A6 n6 c6) (.bool q)).box2 I1' (.slice A7 n7 c7) (.bool q')
  have H6:=((hr6.below B7).box2 I0 (.slice A6 n6 c6) (.bool q)).box2 I1' (.slice A7 n7 c7) (.bool q')
  have B9:=bT B4 B8
  have B9':=(((B9.setCell (p:=⟨w.heap.size,0,none⟩) sP (.slice A6 n6 c6)).setCell (p:=⟨w.heap.size,1,none⟩) sP (.bool q)).setCell (p:=⟨w.heap.size + 1,0,none⟩) sP (.slice A7 n7 c7)).setCell (p:=⟨w.heap.size + 1,1,none⟩) sP (.bool q')
  refine (isOne_f _ _ _ H8 HDK.out).mono ?_
  rintro e W9 ⟨rfl,rfl⟩
  have k00:=(hc9 w.heap.size 0 oM).trans f00
  have k01:=(hc9 w.heap.size 1 oM).trans f01
  have k10:=(hc9 (w.heap.size + 1) 0 oM).trans f10
  have k11:=(hc9 (w.heap.size + 1) 1 oM).trans f11
  have z0':=(hc9 (w.heap.size + 1 + 1) 0 oM).trans z0
  have z1':=(hc9 (w.heap.size + 1 + 1) 1 oM).trans z1
  have z2':=(hc9 (w.heap.size + 1 + 1) 2 oM).trans z2
  have z3':=(hc9 (w.heap.size + 1 + 1) 3 oM).trans z3
  have z4':=(hc9 (w.heap.size + 1 + 1) 4 oM).trans z4
  have y0':=(hf9 (w.heap.size + 1 + 1) 0 oM).trans y0
  have y1':=(hf9 (w.heap.size + 1 + 1) 1 oM).trans y1
  have y2':=(hf9 (w.heap.size + 1 + 1) 2 oM).trans y2
  have y3':=(hf9 (w.heap.size + 1 + 1) 3 oM).trans y3
  have y4':=(hf9 (w.heap.size + 1 + 1) 4 oM).trans y4
  clear z0 z1 z2 z3 z4 y0 y1 y2 y3 y4 hc6 hc7 hc8 hf6 hf7 hf8 hc9 hf9 f00 f01 f10 f11
  go_wp2
  refine bodyPost_ret (v:=.agg #[.slice A6 n6 c6,.bool q,.slice A7 n7 c7,.bool q',.slice A8 n8 c8]) (by simp [results,Tryz.results158]; exact run_load5 N2' _ _ _ _ _) rfl ?_
  exact RetNum.box B9' oM N2' (.mk HL.out H6 H7 (by rw [dn,if_neg HDK.out]; exact H8)) _ _ _ _ _
theorem low_of_one {x:Cx} {a b:Int} (h1:x.re * ((1:Nat):Rat) = (a:Rat)) (h2:x.im * ((1:Nat):Rat) = (b:Rat)):Low x a b 1 :=
 ⟨oM,sP,h1,h2⟩
theorem reduced_any (r i s t:Value) (a b:Int) (d e g:Nat) (x:Cx) (w:World) (hr:IsInt w r a) (hi:IsInt w i b) (hs:IsNat w s e) (ht:IsNat w t g) (hd:Den d e)
  (hg:1 < d -> g ∣ d /\ gcd3 a b d ∣ g) (h1:x.re * (d:Rat) = (a:Rat)) (h2:x.im * (d:Rat) = (b:Rat))
  (sa:wl a.natAbs < 549755813888) (sb:wl b.natAbs < 549755813888) (sd:wl d < 549755813888) (hT:Tab w) :
  Calls Tryz.prog 158 #[r,i,s,t] w (RetNum w x):=by
 obtain ⟨hd0,rfl | ⟨rfl,rfl⟩⟩:=hd
 ·by_cases he1:e = 1
  ·subst he1
   exact reduced_e1 r i s t a b g x w hr hi hs ht (low_of_one h1 h2)
  ·have hd1:1 < e:=oM
   obtain ⟨hge,hgg⟩:=hg hd1
   have hg0:0 < g:=Nat.pos_of_dvd_of_pos hge hd0
   have sg:wl g < 549755813888:=Nat.lt_of_le_of_lt (wl_mono (Nat.le_of_dvd hd0 hge)) sd
   have hq:=gcd_bound hge hgg
   have hl:=Low.of hd0 h1 h2
   obtain ⟨kd,ka,kb⟩:=gcd3_dvd a b e
   have hk0:=gcd3_pos (a:=a) (b:=b) hd0
   by_cases ha:a = 0
   ·by_cases hb:b = 0
    ·subst ha; subst hb
     have hz:gcd3 0 0 e = e:=by simp [gcd3]
     rw [hz] at hl
     have:Low x 0 0 1:=by
      have e1:e / e = 1:=Nat.div_self hd0
      rw [e1] at hl
      simpa using hl
     exact reduced_z r i s t e g x w hr hi hs ht hd1 this
    ·by_cases hk:gcd3 a b e = 1
     ·rw [hk] at hl hq
      exact reduced_1z r i s t a b e g x w hr hi hs ht hd1 hg0 ha hb (by simpa using hl) hq sa sb sd sg hT
     ·have sk:wl (gcd3 a b e) < 549755813888:=Nat.lt_of_le_of_lt (wl_mono (Nat.le_of_dvd hd0 kd)) sd
      by_cases hn:e / gcd3 a b e = 1
      ·exact reduced_nz r i s t a b e g _ x w hr hi hs ht hd1 hg0 ha hb hl hq oM ka kb kd sk hn sa sb sd sg hT
      ·exact reduced_dz r i s t a b e g _ x w hr hi hs ht hd1 hg0 ha hb hl hq oM ka kb kd sk hn sa sb sd sg hT
   ·by_cases hk:gcd3 a b e = 1
    ·rw [hk] at hl hq
     exact reduced_1 r i s t a b e g x w hr hi hs ht hd1 hg0 ha (by simpa using hl) hq sa sb sd sg hT
    ·have sk:wl (gcd3 a b e) < 549755813888:=Nat.lt_of_le_of_lt (wl_mono (Nat.le_of_dvd hd0 kd)) sd
     by_cases hn:e / gcd3 a b e = 1
     ·exact reduced_n r i s t a b e g _ x w hr hi hs ht hd1 hg0 ha hl hq oM ka kb kd sk hn sa sb sd sg hT
     ·exact reduced_d r i s t a b e g _ x w hr hi hs ht hd1 hg0 ha hl hq oM ka kb kd sk hn sa sb sd sg hT
 ·exact reduced_e0 r i s t a b g x w hr hi hs ht (low_of_one h1 h2)
theorem lowest_any (r i s:Value) (a b:Int) (d e:Nat) (x:Cx) (w:World) (hr:IsInt w r a) (hi:IsInt w i b) (hs:IsNat w s e) (hd:Den d e)
  (h1:x.re * (d:Rat) = (a:Rat)) (h2:x.im * (d:Rat) = (b:Rat))
  (sa:wl a.natAbs < 549755813888) (sb:wl b.natAbs < 549755813888) (sd:wl d < 549755813888) (hT:Tab w) :
  Calls Tryz.prog 117 #[r,i,s] w (RetNum w x):=by
 have HC:=hid (fun W (hb:Below w.heap.size w W)=>reduced_any r i s s a b d e e x W (hr.below hb) (hi.below hb) (hs.below hb) (hs.below hb) hd
  (fun h=>by
   obtain ⟨h0,rfl | ⟨rfl,rfl⟩⟩:=hd
   ·exact ⟨Nat.dvd_refl _,(gcd3_dvd a b e).1⟩
   ·omega) h1 h2 sa sb sd (hT.below hb))
 obtain ⟨A1,n1,c1,rfl,-,-⟩:=hr.parts
 obtain ⟨A2,n2,c2,rfl,-,-⟩:=hi.parts
 obtain ⟨A3,n3,c3,rfl,-⟩:=hs.ex
 clear hr hi hs hd h1 h2 sa sb sd hT
 generalize decide (a < 0) = p1 at *
 generalize decide (b < 0) = p2 at *
 go_enter Tryz.func117,Tryz.ntmps117
 go_wp2_with fail
 refine (HC.out _ bel).mono ?_
 rintro e W5 ⟨v,rfl,hr5,hb5⟩
 obtain ⟨hc5,hf5,hz5⟩:=bcells hb5 (w.heap.size + 3) sP
 obtain ⟨A4,n4,c4,p4,A5,n5,c5,p5,A6,n6,c6,a',b',d',rfl,-⟩:=hr5.parts
 go_wp2
 have NB:NumBox W5 (w.heap.size + 1 + 1):=NumBox.of hc5 oM (.nil sG sG sG sG sG)
 refine bodyPost_ret (v:=.agg #[.slice A4 n4 c4,.bool p4,.slice A5 n5 c5,.bool p5,.slice A6 n6 c6]) (by simp [results,Tryz.results117]; exact run_load5 NB _ _ _ _ _) rfl ?_
 exact RetNum.box bel oM NB hr5 _ _ _ _ _
end Go.Proofs.YtjodlmanheeajaaGreatDoor
