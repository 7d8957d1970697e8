import Derived.Test.YtjodlmanheeajaaGreatDoorR37
import Derived.Test.YtjodlmanheeajaaGreatDoorR41
import Derived.Test.YtjodlmanheeajaaGreatDoorR02
set_option linter.unusedVariables false
set_option linter.unusedSimpArgs false
set_option maxRecDepth 100000
set_option maxHeartbeats 8000000
namespace Go.Proofs.YtjodlmanheeajaaGreatDoor
open Go.RowKit
theorem boxBelow_0 (a b c d p q r s:Nat) (t:Bool) (HX:Hid (Gv 11 #[.agg #[.int .u64 (a:Int),.int .u64 (b:Int)]] (.tuple #[.agg #[.float .f64 p,.float .f64 q],.agg #[.float .f64 p,.float .f64 q],.bool false]))) (HY:Hid (Gv 11 #[.agg #[.int .u64 (c:Int),.int .u64 (d:Int)]] (.tuple #[.agg #[.float .f64 r,.float .f64 s],.agg #[.float .f64 r,.float .f64 s],.bool t]))) (w:World) (hT:Tab w) (hT6:Tab64 w):Calls Tryz.prog 3 #[.agg #[.int .u64 (a:Int),.int .u64 (b:Int)],.agg #[.int .u64 (c:Int),.int .u64 (d:Int)]] w fun e w'=>e = .returned (.bool true) /\ Below w.heap.size w w':=by
 have hfb:=floatbits_run
 have hsf:=store_float
 have HT:=hid hT
 have HT6:=hid hT6
 clear hT hT6
 go_enter Tryz.func3,Tryz.ntmps3
 go_wp2_with fail
 obtain ⟨W1,hW1⟩:∃ W:World,W = (w.alloc (.cells #[.int .u64 (a:Int),.int .u64 (b:Int)] 24)).alloc (.cells #[.int .u64 (c:Int),.int .u64 (d:Int)] 24):=⟨_,rfl⟩
 rw [<- hW1]
 have A0:HAt W1 (w.heap.size) #[.int .u64 (a:Int),.int .u64 (b:Int)] 24:=by rw [hW1]; exact (HAt.new sP).up
 have A1:HAt W1 (w.heap.size + 1) #[.int .u64 (c:Int),.int .u64 (d:Int)] 24:=by rw [hW1]; exact (HAt.new sP)
 have B:Below w.heap.size w W1:=by rw [hW1]; exact (bT (bT (Below.refl w.heap.size w) (below_alloc _ _)) (below_alloc _ _))
 clear hW1
 refine (awake2K_1 _ (HT.out.below B) (HT6.out.below B)).mono ?_
 rintro e W2 ⟨rfl,hb2⟩
 replace A0:=A0.on hb2
 replace A1:=A1.on hb2
 replace B:=bT B hb2
 clear hb2
 obtain ⟨f0_0,f0_1,y0_0,y0_1⟩:=bx2 A0.x
 obtain ⟨f1_0,f1_1,y1_0,y1_1⟩:=bx2 A1.x
 go_wp2_with fail
 refine (HX.out _).mono ?_
 rintro e W3 ⟨rfl,hb3⟩
 replace A0:=A0.on hb3
 replace A1:=A1.on hb3
 replace B:=bT B hb3
 clear hb3
 clear f0_0 f0_1 y0_0 y0_1 f1_0 f1_1 y1_0 y1_1
 obtain ⟨f0_0,f0_1,y0_0,y0_1⟩:=bx2 A0.x
 obtain ⟨f1_0,f1_1,y1_0,y1_1⟩:=bx2 A1.x
 go_upto_region 4 with fail
 clear A0
 obtain ⟨W4,hW4⟩:∃ W:World,W = (W3.alloc (.cells #[.float .f64 p,.float .f64 q] 28)).alloc (.cells #[.float .f64 p,.float .f64 q] 30):=⟨_,rfl⟩
 rw [<- hW4]
 replace A1:HAt W4 (w.heap.size + 1) #[.int .u64 (c:Int),.int .u64 (d:Int)] 24:=by rw [hW4]; exact A1.up.up
 replace B:Below w.heap.size w W4:=by rw [hW4]; exact (bT (bT B (below_alloc _ _)) (below_alloc _ _))
 clear hW4
 clear f0_0 f0_1 y0_0 y0_1 f1_0 f1_1 y1_0 y1_1
 obtain ⟨f1_0,f1_1,y1_0,y1_1⟩:=bx2 A1.x
 go_wp2_with fail
 refine (HY.out _).mono ?_
 rintro e W5 ⟨rfl,hb5⟩
 replace A1:=A1.on hb5
 replace B:=bT B hb5
 clear hb5
 clear f1_0 f1_1 y1_0 y1_1
 obtain ⟨f1_0,f1_1,y1_0,y1_1⟩:=bx2 A1.x
 go_wp2
 go_ret
 exact ⟨rfl,(bT (bT B (below_alloc _ _)) (below_alloc _ _))⟩
theorem boxBelow_1 (a b c d p q r s:Nat) (HX:Hid (Gv 11 #[.agg #[.int .u64 (a:Int),.int .u64 (b:Int)]] (.tuple #[.agg #[.float .f64 p,.float .f64 q],.agg #[.float .f64 p,.float .f64 q],.bool true]))) (HY:Hid (Gv 11 #[.agg #[.int .u64 (c:Int),.int .u64 (d:Int)]] (.tuple #[.agg #[.float .f64 r,.float .f64 s],.agg #[.float .f64 r,.float .f64 s],.bool false]))) (w:World) (hT:Tab w) (hT6:Tab64 w):Calls Tryz.prog 3 #[.agg #[.int .u64 (a:Int),.int .u64 (b:Int)],.agg #[.int .u64 (c:Int),.int .u64 (d:Int)]] w fun e w'=>e = .returned (.bool true) /\ Below w.heap.size w w':=by
 have hfb:=floatbits_run
 have hsf:=store_float
 have HT:=hid hT
 have HT6:=hid hT6
 clear hT hT6
 go_enter Tryz.func3,Tryz.ntmps3
 go_wp2_with fail
 obtain ⟨W1,hW1⟩:∃ W:World,W = (w.alloc (.cells #[.int .u64 (a:Int),.int .u64 (b:Int)] 24)).alloc (.cells #[.int .u64 (c:Int),.int .u64 (d:Int)] 24):=⟨_,rfl⟩
 rw [<- hW1]
 have A0:HAt W1 (w.heap.size) #[.int .u64 (a:Int),.int .u64 (b:Int)] 24:=by rw [hW1]; exact (HAt.new sP).up
 have A1:HAt W1 (w.heap.size + 1) #[.int .u64 (c:Int),.int .u64 (d:Int)] 24:=by rw [hW1]; exact (HAt.new sP)
 have B:Below w.heap.size w W1:=by rw [hW1]; exact (bT (bT (Below.refl w.heap.size w) (below_alloc _ _)) (below_alloc _ _))
 clear hW1
 refine (awake2K_1 _ (HT.out.below B) (HT6.out.below B)).mono ?_
 rintro e W2 ⟨rfl,hb2⟩
 replace A0:=A0.on hb2
 replace A1:=A1.on hb2
 replace B:=bT B hb2
 clear hb2
 obtain ⟨f0_0,f0_1,y0_0,y0_1⟩:=bx2 A0.x
 obtain ⟨f1_0,f1_1,y1_0,y1_1⟩:=bx2 A1.x
 go_wp2_with fail
 refine (HX.out _).mono ?_
 rintro e W3 ⟨rfl,hb3⟩
 replace A0:=A0.on hb3
 replace A1:=A1.on hb3
 replace B:=bT B hb3
 clear hb3
 clear f0_0 f0_1 y0_0 y0_1 f1_0 f1_1 y1_0 y1_1
 obtain ⟨f0_0,f0_1,y0_0,y0_1⟩:=bx2 A0.x
 obtain ⟨f1_0,f1_1,y1_0,y1_1⟩:=bx2 A1.x
 go_upto_region 4 with fail
 clear A0
 obtain ⟨W4,hW4⟩:∃ W:World,W = (W3.alloc (.cells #[.float .f64 p,.float .f64 q] 28)).alloc (.cells #[.float .f64 p,.float .f64 q] 30):=⟨_,rfl⟩
 rw [<- hW4]
 replace A1:HAt W4 (w.heap.size + 1) #[.int .u64 (c:Int),.int .u64 (d:Int)] 24:=by rw [hW4]; exact A1.up.up
 replace B:Below w.heap.size w W4:=by rw [hW4]; exact (bT (bT B (below_alloc _ _)) (below_alloc _ _))
 clear hW4
 clear f0_0 f0_1 y0_0 y0_1 f1_0 f1_1 y1_0 y1_1
 obtain ⟨f1_0,f1_1,y1_0,y1_1⟩:=bx2 A1.x
 go_wp2_with fail
 refine (HY.out _).mono ?_
 rintro e W5 ⟨rfl,hb5⟩
 replace A1:=A1.on hb5
 replace B:=bT B hb5
 clear hb5
 clear f1_0 f1_1 y1_0 y1_1
 obtain ⟨f1_0,f1_1,y1_0,y1_1⟩:=bx2 A1.x
 go_wp2
 go_ret
 exact ⟨rfl,(bT (bT B (below_alloc _ _)) (below_alloc _ _))⟩
theorem boxBelow_yes (a b c d p q r s:Nat) (i:Bool) (HX:Hid (Gv 11 #[.agg #[.int .u64 (a:Int),.int .u64 (b:Int)]] (.tuple #[.agg #[.float .f64 p,.float .f64 q],.agg #[.float .f64 p,.float .f64 q],.bool true]))) (HY:Hid (Gv 11 #[.agg #[.int .u64 (c:Int),.int .u64 (d:Int)]] (.tuple #[.agg #[.float .f64 r,.float .f64 s],.agg #[.float .f64 r,.float .f64 s],.bool true]))) (HB1:Hid (Gv 12 #[.agg #[.float .f64 p,.float .f64 q],.agg #[.float .f64 r,.float .f64 s]] (.int .i64 1))) (HB2:Hid (Gv 12 #[.agg #[.float .f64 r,.float .f64 s],.agg #[.float .f64 p,.float .f64 q]] (.int .i64 2))) (HR1:Hid (Gv 13 #[.agg #[.float .f64 p,.float .f64 q],.agg #[.float .f64 r,.float .f64 s]] (.int .i64 1))) (HR2:Hid (Gv 13 #[.agg #[.float .f64 r,.float .f64 s],.agg #[.float .f64 p,.float .f64 q]] (.int .i64 2))) (HI:Hid (Gv 14 #[.agg #[.float .f64 p,.float .f64 q],.agg #[.float .f64 r,.float .f64 s]] (.bool i))) (HJ:Hid (Gv 15 #[.agg #[.float .f64 p,.float .f64 q],.agg #[.float .f64 r,.float .f64 s]] (.bool i))) (HS:Hid (Gv 14 #[.agg #[.float .f64 p,.float .f64 q],.agg #[.float .f64 p,.float .f64 q]] (.bool true))) (w:World) (hT:Tab w) (hT6:Tab64 w):Calls Tryz.prog 3 #[.agg #[.int .u64 (a:Int),.int .u64 (b:Int)],.agg #[.int .u64 (c:Int),.int .u64 (d:Int)]] w fun e w'=>e = .returned (.bool true) /\ Below w.heap.size w w':=by
 have hfb:=floatbits_run
 have hsf:=store_float
 have HT:=hid hT
 have HT6:=hid hT6
 clear hT hT6
 go_enter Tryz.func3,Tryz.ntmps3
 go_wp2_with fail
 obtain ⟨W1,hW1⟩:∃ W:World,W = (w.alloc (.cells #[.int .u64 (a:Int),.int .u64 (b:Int)] 24)).alloc (.cells #[.int .u64 (c:Int),.int .u64 (d:Int)] 24):=⟨_,rfl⟩
 rw [<- hW1]
 have A0:HAt W1 (w.heap.size) #[.int .u64 (a:Int),.int .u64 (b:Int)] 24:=by rw [hW1]; exact (HAt.new sP).up
 have A1:HAt W1 (w.heap.size + 1) #[.int .u64 (c:Int),.int .u64 (d:Int)] 24:=by rw [hW1]; exact (HAt.new sP)
 have B:Below w.heap.size w W1:=by rw [hW1]; exact (bT (bT (Below.refl w.heap.size w) (below_alloc _ _)) (below_alloc _ _))
 clear hW1
 refine (awake2K_1 _ (HT.out.below B) (HT6.out.below B)).mono ?_
 rintro e W2 ⟨rfl,hb2⟩
 replace A0:=A0.on hb2
 replace A1:=A1.on hb2
 replace B:=bT B hb2
 clear hb2
 obtain ⟨f0_0,f0_1,y0_0,y0_1⟩:=bx2 A0.x
 obtain ⟨f1_0,f1_1,y1_0,y1_1⟩:=bx2 A1.x
 go_wp2_with fail
 refine (HX.out _).mono ?_
 rintro e W3 ⟨rfl,hb3⟩
 replace A0:=A0.on hb3
 replace A1:=A1.on hb3
 replace B:=bT B hb3
 clear hb3
 clear f0_0 f0_1 y0_0 y0_1 f1_0 f1_1 y1_0 y1_1
 obtain ⟨f0_0,f0_1,y0_0,y0_1⟩:=bx2 A0.x
 obtain ⟨f1_0,f1_1,y1_0,y1_1⟩:=bx2 A1.x
 go_upto_region 4 with fail
 clear A0
 obtain ⟨W4,hW4⟩:∃ W:World,W = (W3.alloc (.cells #[.float .f64 p,.float .f64 q] 28)).alloc (.cells #[.float .f64 p,.float .f64 q] 30):=⟨_,rfl⟩
 rw [<- hW4]
 replace A1:HAt W4 (w.heap.size + 1) #[.int .u64 (c:Int),.int .u64 (d:Int)] 24:=by rw [hW4]; exact A1.up.up
 have A2:HAt W4 (W3.heap.size) #[.float .f64 p,.float .f64 q] 28:=by rw [hW4]; exact (HAt.new sP).up
 have A3:HAt W4 (W3.heap.size + 1) #[.float .f64 p,.float .f64 q] 30:=by rw [hW4]; exact (HAt.new sP)
 replace B:Below w.heap.size w W4:=by rw [hW4]; exact (bT (bT B (below_alloc _ _)) (below_alloc _ _))
 clear hW4
 clear f0_0 f0_1 y0_0 y0_1 f1_0 f1_1 y1_0 y1_1
 obtain ⟨f1_0,f1_1,y1_0,y1_1⟩:=bx2 A1.x
 obtain ⟨f2_0,f2_1,y2_0,y2_1⟩:=bx2 A2.x
 obtain ⟨f3_0,f3_1,y3_0,y3_1⟩:=bx2 A3.x
 go_wp2_with fail
 refine (HY.out _).mono ?_
 rintro e W5 ⟨rfl,hb5⟩
 replace A1:=A1.on hb5
 replace A2:=A2.on hb5
 replace A3:=A3.on hb5
 replace B:=bT B hb5
 clear hb5
 clear f1_0 f1_1 y1_0 y1_1 f2_0 f2_1 y2_0 y2_1 f3_0 f3_1 y3_0 y3_1
 obtain ⟨f1_0,f1_1,y1_0,y1_1⟩:=bx2 A1.x
 obtain ⟨f2_0,f2_1,y2_0,y2_1⟩:=bx2 A2.x
 obtain ⟨f3_0,f3_1,y3_0,y3_1⟩:=bx2 A3.x
 go_upto_region 7 with fail
 clear A1
 obtain ⟨W6,hW6⟩:∃ W:World,W = (W5.alloc (.cells #[.float .f64 r,.float .f64 s] 28)).alloc (.cells #[.float .f64 r,.float .f64 s] 30):=⟨_,rfl⟩
 rw [<- hW6]
 replace A2:HAt W6 (W3.heap.size) #[.float .f64 p,.float .f64 q] 28:=by rw [hW6]; exact A2.up.up
 replace A3:HAt W6 (W3.heap.size + 1) #[.float .f64 p,.float .f64 q] 30:=by rw [hW6]; exact A3.up.up
 have A4:HAt W6 (W5.heap.size) #[.float .f64 r,.float .f64 s] 28:=by rw [hW6]; exact (HAt.new sP).up
 have A5:HAt W6 (W5.heap.size + 1) #[.float .f64 r,.float .f64 s] 30:=by rw [hW6]; exact (HAt.new sP)
 replace B:Below w.heap.size w W6:=by rw [hW6]; exact (bT (bT B (below_alloc _ _)) (below_alloc _ _))
 clear hW6
 clear f1_0 f1_1 y1_0 y1_1 f2_0 f2_1 y2_0 y2_1 f3_0 f3_1 y3_0 y3_1
 refine region_litA [.val (kIs (.agg #[.float .f64 p,.float .f64 q])),.val (kIs (.agg #[.float .f64 r,.float .f64 s])),.val (kIs (.int .i64 1)),.val (kIs (.agg #[.float .f64 r,.float .f64 s])),.val (kIs (.agg #[.float .f64 p,.float .f64 q])),.val (kIs (.int .i64 2)),.val (kIs (.int .i64 1)),.val (kIs (.int .i64 2))]
  ?fl1 ?hfl1 kR kR kR kR kR ⟨si,si,si,si,si,si,si,si,trivial⟩ sP ⟨obN (uLr rfl .fr (fun W hb=>A2.ld hb) Tryz.underlying28),obN (uLr rfl .fr (fun W hb=>A4.ld hb) Tryz.underlying28),obN (uC2 rfl (.is 0) (.is 1) (fun _ W hb _=>cIs (HB1.out W))),obN (uLr rfl .fr (fun W hb=>A4.ld hb) Tryz.underlying28),obN (uLr rfl .fr (fun W hb=>A2.ld hb) Tryz.underlying28),obN (uC2 rfl (.is 3) (.is 4) (fun _ W hb _=>cIs (HB2.out W))),obN (uAs 2),obN (uAs 5),trivial⟩ ?_
 case hfl1=>intro ts; simp only [fillT,zA,Nat.reduceAdd,sA,sB,sC]; rfl
 intro ts W7 hb7 hh hap
 have e6:=held_is (hh 6 sP) rfl
 have e7:=held_is (hh 7 sP) rfl
 simp only [e6,e7]
 clear hh hap e6 e7
 replace A2:=A2.on hb7
 replace A3:=A3.on hb7
 replace A4:=A4.on hb7
 replace A5:=A5.on hb7
 replace B:=bT B hb7
 clear hb7
 obtain ⟨f2_0,f2_1,y2_0,y2_1⟩:=bx2 A2.x
 obtain ⟨f3_0,f3_1,y3_0,y3_1⟩:=bx2 A3.x
 obtain ⟨f4_0,f4_1,y4_0,y4_1⟩:=bx2 A4.x
 obtain ⟨f5_0,f5_1,y5_0,y5_1⟩:=bx2 A5.x
 go_upto_region 8 with fail
 clear f2_0 f2_1 y2_0 y2_1 f3_0 f3_1 y3_0 y3_1 f4_0 f4_1 y4_0 y4_1 f5_0 f5_1 y5_0 y5_1
 refine region_litA (.val (kIs (.int .i64 1)) :: .val (kIs (.agg #[.float .f64 p,.float .f64 q])) :: .val (kIs (.agg #[.float .f64 r,.float .f64 s])) :: .val (kIs (.int .i64 1)) :: .val (kIs (.bool true)) :: .val (kIs (.bool true)) :: .val (kIs (.int .i64 2)) :: .val (kIs (.agg #[.float .f64 r,.float .f64 s])) :: .val (kIs (.agg #[.float .f64 p,.float .f64 q])) :: .val (kIs (.int .i64 2)) :: .val (kIs (.bool true)) :: .val (kIs (.bool true)) :: .val (kIs (.bool true)) :: .val (kIs (.int .i64 1)) :: .val (kIs (.bool true)) :: .val (kIs (.bool true)) :: .val (kIs (.int .i64 2)) :: .val (kIs (.bool false)) :: .val (kIs (.bool false)) :: .val (kIs (.bool true)) :: .val (kIs (.bool true)) :: .val (kIs (.bool true)) :: .val (kIs (.int .i64 1)) :: .val (kIs (.bool false)) :: .val (kIs (.bool false)) :: .val (kIs (.int .i64 2)) :: .val (kIs (.bool true)) :: .val (kIs (.bool true)) :: .val (kIs (.bool true)) :: .val (kIs (.bool true)) :: .val (kIs (.agg #[.float .f64 p,.float .f64 q])) :: .val (kIs (.agg #[.float .f64 r,.float .f64 s])) :: .val (kIs (.bool i)) :: .val (kIs (.agg #[.float .f64 p,.float .f64 q])) :: .val (kIs (.agg #[.float .f64 r,.float .f64 s])) :: .val (kIs (.bool i)) :: .val (kIs (.bool true)) :: .val (kIs (.bool true)) :: .val (kIs (.bool true)) :: .val (kIs (.agg #[.float .f64 p,.float .f64 q])) :: .val (kIs (.agg #[.float .f64 p,.float .f64 q])) :: .val (kIs (.bool true)) :: .val (kIs (.bool true)) :: .val (kIs (.bool true)) :: [])
  ?fl2 ?hfl2 kR kR kR kR kR ⟨si,si,si,si,si,si,si,si,si,si,si,si,si,si,si,si,si,si,si,si,si,si,si,si,si,si,si,si,si,si,si,si,si,si,si,si,si,si,si,si,si,si,si,si,trivial⟩ sP ⟨obN (uMf rfl .fr),obN (uLr rfl .fr (fun W hb=>A3.ld hb) Tryz.underlying30),obN (uLr rfl .fr (fun W hb=>A5.ld hb) Tryz.underlying30),obN (uC2 rfl (.is 1) (.is 2) (fun _ W hb _=>cIs (HR1.out W))),obN (uBn rfl (.is 0) (.is 3) (fun w=>sG)),obN (uMv 4),obG 5 (uMf rfl .fr),obG 5 (uLr rfl .fr (fun W hb=>A5.ld hb) Tryz.underlying30),obG 5 (uLr rfl .fr (fun W hb=>A3.ld hb) Tryz.underlying30),obG 5 (uC2 rfl (.is 7) (.is 8) (fun _ W hb _=>cIs (HR2.out W))),obG 5 (uBn rfl (.is 6) (.is 9) (fun w=>sG)),obN (uPt rfl (.is 5) (.is 10)),obN (uMv 11),obG 12 (uMf rfl .fr),obG 12 (uBn rfl (.is 13) .k (fun w=>sG)),obG 12 (uMv 14),obG 15 (uMf rfl .fr),obG 15 (uBn rfl (.is 16) .k (fun w=>sG)),obG 12 (uPt rfl (.is 15) (.is 17)),obG 12 (uN1 rfl (.is 18)),obN (uPt rfl (.is 12) (.is 19)),obN (uMv 20),obG 21 (uMf rfl .fr),obG 21 (uBn rfl (.is 22) .k (fun w=>sG)),obG 21 (uMv 23),obG 24 (uMf rfl .fr),obG 24 (uBn rfl (.is 25) .k (fun w=>sG)),obG 21 (uPf rfl (.is 24) (.is 26)),obN (uPt rfl (.is 21) (.is 27)),obN (uMv 28),obG 29 (uLr rfl .fr (fun W hb=>A2.ld hb) Tryz.underlying28),obG 29 (uLr rfl .fr (fun W hb=>A4.ld hb) Tryz.underlying28),obG 29 (uC2 rfl (.is 30) (.is 31) (fun _ W hb _=>cIs (HI.out W))),obG 29 (uLr rfl .fr (fun W hb=>A3.ld hb) Tryz.underlying30),obG 29 (uLr rfl .fr (fun W hb=>A5.ld hb) Tryz.underlying30),obG 29 (uC2 rfl (.is 33) (.is 34) (fun _ W hb _=>cIs (HJ.out W))),obG 29 (uBn rfl (.is 32) (.is 35) (fun w=>sG)),obN (uPt rfl (.is 29) (.is 36)),obN (uMv 37),obG 38 (uLr rfl .fr (fun W hb=>A2.ld hb) Tryz.underlying28),obG 38 (uLr rfl .fr (fun W hb=>A2.ld hb) Tryz.underlying28),obG 38 (uC2 rfl (.is 39) (.is 40) (fun _ W hb _=>cIs (HS.out W))),obN (uPt rfl (.is 38) (.is 41)),obN (uAs 42),trivial⟩ ?_
 case hfl2=>intro ts; simp only [fillT,zA,Nat.reduceAdd,sA,sB,sC]; rfl
 intro ts W8 hb8 hh hap
 have e43:=held_is (hh 43 sP) rfl
 simp only [e43]
 clear hh hap e43
 clear A2 A3 A4 A5
 replace B:=bT B hb8
 clear hb8
 go_wp2
 go_ret
 exact ⟨rfl,B⟩
theorem boxBelow_no (a b c d p q r s:Nat) (ka kb:Int) (i:Bool) (hka:ka ≠ 1) (HX:Hid (Gv 11 #[.agg #[.int .u64 (a:Int),.int .u64 (b:Int)]] (.tuple #[.agg #[.float .f64 p,.float .f64 q],.agg #[.float .f64 p,.float .f64 q],.bool true]))) (HY:Hid (Gv 11 #[.agg #[.int .u64 (c:Int),.int .u64 (d:Int)]] (.tuple #[.agg #[.float .f64 r,.float .f64 s],.agg #[.float .f64 r,.float .f64 s],.bool true]))) (HB1:Hid (Gv 12 #[.agg #[.float .f64 p,.float .f64 q],.agg #[.float .f64 r,.float .f64 s]] (.int .i64 ka))) (HB2:Hid (Gv 12 #[.agg #[.float .f64 r,.float .f64 s],.agg #[.float .f64 p,.float .f64 q]] (.int .i64 kb))) (HR1:Hid (Gv 13 #[.agg #[.float .f64 p,.float .f64 q],.agg #[.float .f64 r,.float .f64 s]] (.int .i64 ka))) (HR2:Hid (Gv 13 #[.agg #[.float .f64 r,.float .f64 s],.agg #[.float .f64 p,.float .f64 q]] (.int .i64 kb))) (HI:Hid (Gv 14 #[.agg #[.float .f64 p,.float .f64 q],.agg #[.float .f64 r,.float .f64 s]] (.bool i))) (HJ:Hid (Gv 15 #[.agg #[.float .f64 p,.float .f64 q],.agg #[.float .f64 r,.float .f64 s]] (.bool i))) (HS:Hid (Gv 14 #[.agg #[.float .f64 p,.float .f64 q],.agg #[.float .f64 p,.float .f64 q]] (.bool true))) (w:World) (hT:Tab w) (hT6:Tab64 w):Calls Tryz.prog 3 #[.agg #[.int .u64 (a:Int),.int .u64 (b:Int)],.agg #[.int .u64 (c:Int),.int .u64 (d:Int)]] w fun e w'=>e = .returned (.bool true) /\ Below w.heap.size w w':=by
 have hfb:=floatbits_run
 have hsf:=store_float
 have HT:=hid hT
 have HT6:=hid hT6
 clear hT hT6
 go_enter Tryz.func3,Tryz.ntmps3
 go_wp2_with fail
 obtain ⟨W1,hW1⟩:∃ W:World,W = (w.alloc (.cells #[.int .u64 (a:Int),.int .u64 (b:Int)] 24)).alloc (.cells #[.int .u64 (c:Int),.int .u64 (d:Int)] 24):=⟨_,rfl⟩
 rw [<- hW1]
 have A0:HAt W1 (w.heap.size) #[.int .u64 (a:Int),.int .u64 (b:Int)] 24:=by rw [hW1]; exact (HAt.new sP).up
 have A1:HAt W1 (w.heap.size + 1) #[.int .u64 (c:Int),.int .u64 (d:Int)] 24:=by rw [hW1]; exact (HAt.new sP)
 have B:Below w.heap.size w W1:=by rw [hW1]; exact (bT (bT (Below.refl w.heap.size w) (below_alloc _ _)) (below_alloc _ _))
 clear hW1
 refine (awake2K_1 _ (HT.out.below B) (HT6.out.below B)).mono ?_
 rintro e W2 ⟨rfl,hb2⟩
 replace A0:=A0.on hb2
 replace A1:=A1.on hb2
 replace B:=bT B hb2
 clear hb2
 obtain ⟨f0_0,f0_1,y0_0,y0_1⟩:=bx2 A0.x
 obtain ⟨f1_0,f1_1,y1_0,y1_1⟩:=bx2 A1.x
 go_wp2_with fail
 refine (HX.out _).mono ?_
 rintro e W3 ⟨rfl,hb3⟩
 replace A0:=A0.on hb3
 replace A1:=A1.on hb3
 replace B:=bT B hb3
 clear hb3
 clear f0_0 f0_1 y0_0 y0_1 f1_0 f1_1 y1_0 y1_1
 obtain ⟨f0_0,f0_1,y0_0,y0_1⟩:=bx2 A0.x
 obtain ⟨f1_0,f1_1,y1_0,y1_1⟩:=bx2 A1.x
 go_upto_region 4 with fail
 clear A0
 obtain ⟨W4,hW4⟩:∃ W:World,W = (W3.alloc (.cells #[.float .f64 p,.float .f64 q] 28)).alloc (.cells #[.float .f64 p,.float .f64 q] 30):=⟨_,rfl⟩
 rw [<- hW4]
 replace A1:HAt W4 (w.heap.size + 1) #[.int .u64 (c:Int),.int .u64 (d:Int)] 24:=by rw [hW4]; exact A1.up.up
 have A2:HAt W4 (W3.heap.size) #[.float .f64 p,.float .f64 q] 28:=by rw [hW4]; exact (HAt.new sP).up
 have A3:HAt W4 (W3.heap.size + 1) #[.float .f64 p,.float .f64 q] 30:=by rw [hW4]; exact (HAt.new sP)
 replace B:Below w.heap.size w W4:=by rw [hW4]; exact (bT (bT B (below_alloc _ _)) (below_alloc _ _))
 clear hW4
 clear f0_0 f0_1 y0_0 y0_1 f1_0 f1_1 y1_0 y1_1
 obtain ⟨f1_0,f1_1,y1_0,y1_1⟩:=bx2 A1.x
 obtain ⟨f2_0,f2_1,y2_0,y2_1⟩:=bx2 A2.x
 obtain ⟨f3_0,f3_1,y3_0,y3_1⟩:=bx2 A3.x
 go_wp2_with fail
 refine (HY.out _).mono ?_
 rintro e W5 ⟨rfl,hb5⟩
 replace A1:=A1.on hb5
 replace A2:=A2.on hb5
 replace A3:=A3.on hb5
 replace B:=bT B hb5
 clear hb5
 clear f1_0 f1_1 y1_0 y1_1 f2_0 f2_1 y2_0 y2_1 f3_0 f3_1 y3_0 y3_1
 obtain ⟨f1_0,f1_1,y1_0,y1_1⟩:=bx2 A1.x
 obtain ⟨f2_0,f2_1,y2_0,y2_1⟩:=bx2 A2.x
 obtain ⟨f3_0,f3_1,y3_0,y3_1⟩:=bx2 A3.x
 go_upto_region 7 with fail
 clear A1
 obtain ⟨W6,hW6⟩:∃ W:World,W = (W5.alloc (.cells #[.float .f64 r,.float .f64 s] 28)).alloc (.cells #[.float .f64 r,.float .f64 s] 30):=⟨_,rfl⟩
 rw [<- hW6]
 replace A2:HAt W6 (W3.heap.size) #[.float .f64 p,.float .f64 q] 28:=by rw [hW6]; exact A2.up.up
 replace A3:HAt W6 (W3.heap.size + 1) #[.float .f64 p,.float .f64 q] 30:=by rw [hW6]; exact A3.up.up
 have A4:HAt W6 (W5.heap.size) #[.float .f64 r,.float .f64 s] 28:=by rw [hW6]; exact (HAt.new sP).up
 have A5:HAt W6 (W5.heap.size + 1) #[.float .f64 r,.float .f64 s] 30:=by rw [hW6]; exact (HAt.new sP)
 replace B:Below w.heap.size w W6:=by rw [hW6]; exact (bT (bT B (below_alloc _ _)) (below_alloc _ _))
 clear hW6
 clear f1_0 f1_1 y1_0 y1_1 f2_0 f2_1 y2_0 y2_1 f3_0 f3_1 y3_0 y3_1
 refine region_litA [.val (kIs (.agg #[.float .f64 p,.float .f64 q])),.val (kIs (.agg #[.float .f64 r,.float .f64 s])),.val (kIs (.int .i64 ka)),.val (kIs (.agg #[.float .f64 r,.float .f64 s])),.val (kIs (.agg #[.float .f64 p,.float .f64 q])),.val (kIs (.int .i64 kb)),.val (kIs (.int .i64 ka)),.val (kIs (.int .i64 kb))]
  ?fl3 ?hfl3 kR kR kR kR kR ⟨si,si,si,si,si,si,si,si,trivial⟩ sP ⟨obN (uLr rfl .fr (fun W hb=>A2.ld hb) Tryz.underlying28),obN (uLr rfl .fr (fun W hb=>A4.ld hb) Tryz.underlying28),obN (uC2 rfl (.is 0) (.is 1) (fun _ W hb _=>cIs (HB1.out W))),obN (uLr rfl .fr (fun W hb=>A4.ld hb) Tryz.underlying28),obN (uLr rfl .fr (fun W hb=>A2.ld hb) Tryz.underlying28),obN (uC2 rfl (.is 3) (.is 4) (fun _ W hb _=>cIs (HB2.out W))),obN (uAs 2),obN (uAs 5),trivial⟩ ?_
 case hfl3=>intro ts; simp only [fillT,zA,Nat.reduceAdd,sA,sB,sC]; rfl
 intro ts W7 hb7 hh hap
 have e6:=held_is (hh 6 sP) rfl
 have e7:=held_is (hh 7 sP) rfl
 simp only [e6,e7]
 clear hh hap e6 e7
 replace A2:=A2.on hb7
 replace A3:=A3.on hb7
 replace A4:=A4.on hb7
 replace A5:=A5.on hb7
 replace B:=bT B hb7
 clear hb7
 obtain ⟨f2_0,f2_1,y2_0,y2_1⟩:=bx2 A2.x
 obtain ⟨f3_0,f3_1,y3_0,y3_1⟩:=bx2 A3.x
 obtain ⟨f4_0,f4_1,y4_0,y4_1⟩:=bx2 A4.x
 obtain ⟨f5_0,f5_1,y5_0,y5_1⟩:=bx2 A5.x
 go_upto_region 8 with fail
 clear f2_0 f2_1 y2_0 y2_1 f3_0 f3_1 y3_0 y3_1 f4_0 f4_1 y4_0 y4_1 f5_0 f5_1 y5_0 y5_1
 refine region_litA (.val (kIs (.int .i64 ka)) :: .val (kIs (.agg #[.float .f64 p,.float .f64 q])) :: .val (kIs (.agg #[.float .f64 r,.float .f64 s])) :: .val (kIs (.int .i64 ka)) :: .val (kIs (.bool true)) :: .val (kIs (.bool true)) :: .val (kIs (.int .i64 kb)) :: .val (kIs (.agg #[.float .f64 r,.float .f64 s])) :: .val (kIs (.agg #[.float .f64 p,.float .f64 q])) :: .val (kIs (.int .i64 kb)) :: .val (kIs (.bool true)) :: .val (kIs (.bool true)) :: .val (kIs (.bool true)) :: .val (kIs (.int .i64 ka)) :: .val (kIs (.bool false)) :: .val (kIs (.bool false)) :: .val (kIs (undef)) :: .val (kIs (undef)) :: .val (kIs (.bool false)) :: .val (kIs (.bool true)) :: .val (kIs (.bool true)) :: .val (kIs (.bool true)) :: .val (kIs (.int .i64 ka)) :: .val (kIs (.bool true)) :: .val (kIs (.bool true)) :: .val (kIs (undef)) :: .val (kIs (undef)) :: .val (kIs (.bool true)) :: .val (kIs (.bool true)) :: .val (kIs (.bool true)) :: .val (kIs (.agg #[.float .f64 p,.float .f64 q])) :: .val (kIs (.agg #[.float .f64 r,.float .f64 s])) :: .val (kIs (.bool i)) :: .val (kIs (.agg #[.float .f64 p,.float .f64 q])) :: .val (kIs (.agg #[.float .f64 r,.float .f64 s])) :: .val (kIs (.bool i)) :: .val (kIs (.bool true)) :: .val (kIs (.bool true)) :: .val (kIs (.bool true)) :: .val (kIs (.agg #[.float .f64 p,.float .f64 q])) :: .val (kIs (.agg #[.float .f64 p,.float .f64 q])) :: .val (kIs (.bool true)) :: .val (kIs (.bool true)) :: .val (kIs (.bool true)) :: [])
  ?fl4 ?hfl4 kR kR kR kR kR ⟨si,si,si,si,si,si,si,si,si,si,si,si,si,si,si,si,si,si,si,si,si,si,si,si,si,si,si,si,si,si,si,si,si,si,si,si,si,si,si,si,si,si,si,si,trivial⟩ sP ⟨obN (uMf rfl .fr),obN (uLr rfl .fr (fun W hb=>A3.ld hb) Tryz.underlying30),obN (uLr rfl .fr (fun W hb=>A5.ld hb) Tryz.underlying30),obN (uC2 rfl (.is 1) (.is 2) (fun _ W hb _=>cIs (HR1.out W))),obN (uBn rfl (.is 0) (.is 3) (fun w=>sG)),obN (uMv 4),obG 5 (uMf rfl .fr),obG 5 (uLr rfl .fr (fun W hb=>A5.ld hb) Tryz.underlying30),obG 5 (uLr rfl .fr (fun W hb=>A3.ld hb) Tryz.underlying30),obG 5 (uC2 rfl (.is 7) (.is 8) (fun _ W hb _=>cIs (HR2.out W))),obG 5 (uBn rfl (.is 6) (.is 9) (fun w=>sG)),obN (uPt rfl (.is 5) (.is 10)),obN (uMv 11),obG 12 (uMf rfl .fr),obG 12 (uBn rfl (.is 13) .k (fun w=>by simp [go_sem,hka])),obG 12 (uMv 14),obZ 15,obZ 15,obG 12 (uPf rfl (.is 15) .k),obG 12 (uN1 rfl (.is 18)),obN (uPt rfl (.is 12) (.is 19)),obN (uMv 20),obG 21 (uMf rfl .fr),obG 21 (uBn rfl (.is 22) .k (fun w=>by simp [go_sem,hka])),obG 21 (uMv 23),obZ 24,obZ 24,obG 21 (uPt rfl (.is 24) .k),obN (uPt rfl (.is 21) (.is 27)),obN (uMv 28),obG 29 (uLr rfl .fr (fun W hb=>A2.ld hb) Tryz.underlying28),obG 29 (uLr rfl .fr (fun W hb=>A4.ld hb) Tryz.underlying28),obG 29 (uC2 rfl (.is 30) (.is 31) (fun _ W hb _=>cIs (HI.out W))),obG 29 (uLr rfl .fr (fun W hb=>A3.ld hb) Tryz.underlying30),obG 29 (uLr rfl .fr (fun W hb=>A5.ld hb) Tryz.underlying30),obG 29 (uC2 rfl (.is 33) (.is 34) (fun _ W hb _=>cIs (HJ.out W))),obG 29 (uBn rfl (.is 32) (.is 35) (fun w=>sG)),obN (uPt rfl (.is 29) (.is 36)),obN (uMv 37),obG 38 (uLr rfl .fr (fun W hb=>A2.ld hb) Tryz.underlying28),obG 38 (uLr rfl .fr (fun W hb=>A2.ld hb) Tryz.underlying28),obG 38 (uC2 rfl (.is 39) (.is 40) (fun _ W hb _=>cIs (HS.out W))),obN (uPt rfl (.is 38) (.is 41)),obN (uAs 42),trivial⟩ ?_
 case hfl4=>intro ts; simp only [fillT,zA,Nat.reduceAdd,sA,sB,sC]; rfl
 intro ts W8 hb8 hh hap
 have e43:=held_is (hh 43 sP) rfl
 simp only [e43]
 clear hh hap e43
 clear A2 A3 A4 A5
 replace B:=bT B hb8
 clear hb8
 go_wp2
 go_ret
 exact ⟨rfl,B⟩
theorem boxBelow_walk (w:World) (a b c d:Nat) (ha:a < 18446744073709551616) (hb:b < 18446744073709551616) (hc:c < 18446744073709551616) (hd:d < 18446744073709551616) (hT:Tab w) (hT6:Tab64 w) :
  Calls Tryz.prog 3 #[.agg #[.int .u64 (a:Int),.int .u64 (b:Int)],.agg #[.int .u64 (c:Int),.int .u64 (d:Int)]] w fun e w'=>e = .returned (.bool true) /\ Below w.heap.size w w':=by
 have HX:=fun W=>span_any a b W
 have HY:=fun W=>span_any c d W
 cases h1:spB a b
 ·rw [h1] at HX
  exact boxBelow_0 a b c d _ _ _ _ _ (hid HX) (hid HY) w hT hT6
 ·rw [h1] at HX
  cases h2:spB c d
  ·rw [h2] at HY
   exact boxBelow_1 a b c d _ _ _ _ (hid HX) (hid HY) w hT hT6
  ·rw [h2] at HY
   have hs:=sp_ok ha hb h1
   have ht:=sp_ok hc hd h2
   generalize spOf a b = s at *
   generalize spOf c d = t at *
   obtain ⟨p,q⟩:=s
   obtain ⟨r,s⟩:=t
   have hp:FB p:=hs.lo
   have hq:FB q:=hs.hi
   have hr:FB r:=ht.lo
   have hs':FB s:=ht.hi
   have l1:rk64 p <= rk64 q:=hs.le
   have l2:rk64 r <= rk64 s:=ht.le
   have e1:blR p q r s = blK p q r s:=by unfold blR blK; rw [hp.geb hs',hs'.leb hp]
   have e2:blR r s p q = blK r s p q:=by unfold blR blK; rw [hr.geb hq,hq.leb hr]
   have HB1:=fun W=>below_any p q r s W
   have HB2:=fun W=>below_any r s p q W
   have HR1:=fun W=>rbelow_any p q r s W
   have HR2:=fun W=>rbelow_any r s p q W
   have HI:=fun W=>in_any p q r s W
   have HJ:=fun W=>rin_any p q r s W
   have HS:=fun W=>in_any p q p q W
   have e3:(leb p p && leb q q) = true:=by rw [hp.leb hp,hq.leb hq]; simp
   rw [e1] at HR1
   rw [e2] at HR2
   rw [e3] at HS
   by_cases h:rk64 q < rk64 r
   ·have k1:blK p q r s = 1:=by unfold blK; rw [hq.ltb hr,decide_eq_true h]; rfl
    have k2:blK r s p q = 2:=by
     unfold blK
     rw [hs'.ltb hp,hq.leb hr,decide_eq_false oM,decide_eq_true oM]
     rfl
    rw [k1] at HB1 HR1
    rw [k2] at HB2 HR2
    exact boxBelow_yes a b c d p q r s _ (hid HX) (hid HY) (hid HB1) (hid HB2) (hid HR1) (hid HR2) (hid HI) (hid HJ) (hid HS) w hT hT6
   ·have k1:blK p q r s ≠ 1:=by
     unfold blK
     rw [hq.ltb hr,decide_eq_false h]
     simp only [Bool.false_eq_true,if_false]
     split <;> decide
    exact boxBelow_no a b c d p q r s _ _ _ k1 (hid HX) (hid HY) (hid HB1) (hid HB2) (hid HR1) (hid HR2) (hid HI) (hid HJ) (hid HS) w hT hT6
end Go.Proofs.YtjodlmanheeajaaGreatDoor
