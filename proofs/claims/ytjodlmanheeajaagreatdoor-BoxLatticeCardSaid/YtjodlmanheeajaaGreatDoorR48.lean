import Derived.Test.YtjodlmanheeajaaGreatDoorR37
import Derived.Test.YtjodlmanheeajaaGreatDoorR41
import Derived.Test.YtjodlmanheeajaaGreatDoorR44
import Derived.Test.YtjodlmanheeajaaGreatDoorR02
set_option linter.unusedVariables false
set_option linter.unusedSimpArgs false
set_option maxRecDepth 100000
set_option maxHeartbeats 8000000
namespace Go.Proofs.YtjodlmanheeajaaGreatDoor
open Go.RowKit
theorem boxLattice_0 (a0 a1 a2 a3 b0 b1 b2 b3 c0 c1 c2 c3:Nat) (x y z:Bx) (t u:Bool) (HX:Hid (Gv 23 #[.agg #[.int .u64 (a0:Int),.int .u64 (a1:Int),.int .u64 (a2:Int),.int .u64 (a3:Int)]] (.tuple #[.agg #[.float .f64 x.re.lo,.float .f64 x.re.hi,.float .f64 x.im.lo,.float .f64 x.im.hi],.agg #[.float .f64 x.re.lo,.float .f64 x.re.hi,.float .f64 x.im.lo,.float .f64 x.im.hi],.bool false]))) (HY:Hid (Gv 23 #[.agg #[.int .u64 (b0:Int),.int .u64 (b1:Int),.int .u64 (b2:Int),.int .u64 (b3:Int)]] (.tuple #[.agg #[.float .f64 y.re.lo,.float .f64 y.re.hi,.float .f64 y.im.lo,.float .f64 y.im.hi],.agg #[.float .f64 y.re.lo,.float .f64 y.re.hi,.float .f64 y.im.lo,.float .f64 y.im.hi],.bool t]))) (HZ:Hid (Gv 23 #[.agg #[.int .u64 (c0:Int),.int .u64 (c1:Int),.int .u64 (c2:Int),.int .u64 (c3:Int)]] (.tuple #[.agg #[.float .f64 z.re.lo,.float .f64 z.re.hi,.float .f64 z.im.lo,.float .f64 z.im.hi],.agg #[.float .f64 z.re.lo,.float .f64 z.re.hi,.float .f64 z.im.lo,.float .f64 z.im.hi],.bool u]))) (w:World) (hT:Tab w) (hT6:Tab64 w):Calls Tryz.prog 9 #[.agg #[.int .u64 (a0:Int),.int .u64 (a1:Int),.int .u64 (a2:Int),.int .u64 (a3:Int)],.agg #[.int .u64 (b0:Int),.int .u64 (b1:Int),.int .u64 (b2:Int),.int .u64 (b3:Int)],.agg #[.int .u64 (c0:Int),.int .u64 (c1:Int),.int .u64 (c2:Int),.int .u64 (c3:Int)]] w fun e w'=>e = .returned (.bool true) /\ Below w.heap.size w w':=by
 have hfb:=floatbits_run
 have hsf:=store_float
 have HT:=hid hT
 have HT6:=hid hT6
 clear hT hT6
 go_enter Tryz.func9,Tryz.ntmps9
 go_wp2_with fail
 obtain ⟨W1,hW1⟩:∃ W:World,W = ((w.alloc (.cells #[.int .u64 (a0:Int),.int .u64 (a1:Int),.int .u64 (a2:Int),.int .u64 (a3:Int)] 63)).alloc (.cells #[.int .u64 (b0:Int),.int .u64 (b1:Int),.int .u64 (b2:Int),.int .u64 (b3:Int)] 63)).alloc (.cells #[.int .u64 (c0:Int),.int .u64 (c1:Int),.int .u64 (c2:Int),.int .u64 (c3:Int)] 63):=⟨_,rfl⟩
 rw [<- hW1]
 have A0:HAt W1 (w.heap.size) #[.int .u64 (a0:Int),.int .u64 (a1:Int),.int .u64 (a2:Int),.int .u64 (a3:Int)] 63:=by rw [hW1]; exact (HAt.new sP).up.up
 have A1:HAt W1 (w.heap.size + 1) #[.int .u64 (b0:Int),.int .u64 (b1:Int),.int .u64 (b2:Int),.int .u64 (b3:Int)] 63:=by rw [hW1]; exact (HAt.new sP).up
 have A2:HAt W1 (w.heap.size + 2) #[.int .u64 (c0:Int),.int .u64 (c1:Int),.int .u64 (c2:Int),.int .u64 (c3:Int)] 63:=by rw [hW1]; exact (HAt.new sP)
 have B:Below w.heap.size w W1:=by rw [hW1]; exact (bT (bT (bT (Below.refl w.heap.size w) (below_alloc _ _)) (below_alloc _ _)) (below_alloc _ _))
 clear hW1
 refine (awake2K_1 _ (HT.out.below B) (HT6.out.below B)).mono ?_
 rintro e W2 ⟨rfl,hb2⟩
 replace A0:=A0.on hb2
 replace A1:=A1.on hb2
 replace A2:=A2.on hb2
 replace B:=bT B hb2
 clear hb2
 obtain ⟨f0_0,f0_1,f0_2,f0_3,y0_0,y0_1,y0_2,y0_3⟩:=bx4 A0.x
 obtain ⟨f1_0,f1_1,f1_2,f1_3,y1_0,y1_1,y1_2,y1_3⟩:=bx4 A1.x
 obtain ⟨f2_0,f2_1,f2_2,f2_3,y2_0,y2_1,y2_2,y2_3⟩:=bx4 A2.x
 go_wp2_with fail
 refine (HX.out _).mono ?_
 rintro e W3 ⟨rfl,hb3⟩
 replace A0:=A0.on hb3
 replace A1:=A1.on hb3
 replace A2:=A2.on hb3
 replace B:=bT B hb3
 clear hb3
 clear f0_0 f0_1 f0_2 f0_3 y0_0 y0_1 y0_2 y0_3 f1_0 f1_1 f1_2 f1_3 y1_0 y1_1 y1_2 y1_3 f2_0 f2_1 f2_2 f2_3 y2_0 y2_1 y2_2 y2_3
 obtain ⟨f0_0,f0_1,f0_2,f0_3,y0_0,y0_1,y0_2,y0_3⟩:=bx4 A0.x
 obtain ⟨f1_0,f1_1,f1_2,f1_3,y1_0,y1_1,y1_2,y1_3⟩:=bx4 A1.x
 obtain ⟨f2_0,f2_1,f2_2,f2_3,y2_0,y2_1,y2_2,y2_3⟩:=bx4 A2.x
 go_upto_region 4 with fail
 clear A0
 obtain ⟨W4,hW4⟩:∃ W:World,W = (W3.alloc (.cells #[.float .f64 x.re.lo,.float .f64 x.re.hi,.float .f64 x.im.lo,.float .f64 x.im.hi] 65)).alloc (.cells #[.float .f64 x.re.lo,.float .f64 x.re.hi,.float .f64 x.im.lo,.float .f64 x.im.hi] 67):=⟨_,rfl⟩
 rw [<- hW4]
 replace A1:HAt W4 (w.heap.size + 1) #[.int .u64 (b0:Int),.int .u64 (b1:Int),.int .u64 (b2:Int),.int .u64 (b3:Int)] 63:=by rw [hW4]; exact A1.up.up
 replace A2:HAt W4 (w.heap.size + 2) #[.int .u64 (c0:Int),.int .u64 (c1:Int),.int .u64 (c2:Int),.int .u64 (c3:Int)] 63:=by rw [hW4]; exact A2.up.up
 replace B:Below w.heap.size w W4:=by rw [hW4]; exact (bT (bT B (below_alloc _ _)) (below_alloc _ _))
 clear hW4
 clear f0_0 f0_1 f0_2 f0_3 y0_0 y0_1 y0_2 y0_3 f1_0 f1_1 f1_2 f1_3 y1_0 y1_1 y1_2 y1_3 f2_0 f2_1 f2_2 f2_3 y2_0 y2_1 y2_2 y2_3
 obtain ⟨f1_0,f1_1,f1_2,f1_3,y1_0,y1_1,y1_2,y1_3⟩:=bx4 A1.x
 obtain ⟨f2_0,f2_1,f2_2,f2_3,y2_0,y2_1,y2_2,y2_3⟩:=bx4 A2.x
 go_wp2_with fail
 refine (HY.out _).mono ?_
 rintro e W5 ⟨rfl,hb5⟩
 replace A1:=A1.on hb5
 replace A2:=A2.on hb5
 replace B:=bT B hb5
 clear hb5
 clear f1_0 f1_1 f1_2 f1_3 y1_0 y1_1 y1_2 y1_3 f2_0 f2_1 f2_2 f2_3 y2_0 y2_1 y2_2 y2_3
 obtain ⟨f1_0,f1_1,f1_2,f1_3,y1_0,y1_1,y1_2,y1_3⟩:=bx4 A1.x
 obtain ⟨f2_0,f2_1,f2_2,f2_3,y2_0,y2_1,y2_2,y2_3⟩:=bx4 A2.x
 go_upto_region 5 with fail
 clear A1
 obtain ⟨W6,hW6⟩:∃ W:World,W = (W5.alloc (.cells #[.float .f64 y.re.lo,.float .f64 y.re.hi,.float .f64 y.im.lo,.float .f64 y.im.hi] 65)).alloc (.cells #[.float .f64 y.re.lo,.float .f64 y.re.hi,.float .f64 y.im.lo,.float .f64 y.im.hi] 67):=⟨_,rfl⟩
 rw [<- hW6]
 replace A2:HAt W6 (w.heap.size + 2) #[.int .u64 (c0:Int),.int .u64 (c1:Int),.int .u64 (c2:Int),.int .u64 (c3:Int)] 63:=by rw [hW6]; exact A2.up.up
 replace B:Below w.heap.size w W6:=by rw [hW6]; exact (bT (bT B (below_alloc _ _)) (below_alloc _ _))
 clear hW6
 clear f1_0 f1_1 f1_2 f1_3 y1_0 y1_1 y1_2 y1_3 f2_0 f2_1 f2_2 f2_3 y2_0 y2_1 y2_2 y2_3
 obtain ⟨f2_0,f2_1,f2_2,f2_3,y2_0,y2_1,y2_2,y2_3⟩:=bx4 A2.x
 go_wp2_with fail
 refine (HZ.out _).mono ?_
 rintro e W7 ⟨rfl,hb7⟩
 replace A2:=A2.on hb7
 replace B:=bT B hb7
 clear hb7
 clear f2_0 f2_1 f2_2 f2_3 y2_0 y2_1 y2_2 y2_3
 obtain ⟨f2_0,f2_1,f2_2,f2_3,y2_0,y2_1,y2_2,y2_3⟩:=bx4 A2.x
 go_wp2
 go_ret
 exact ⟨rfl,(bT (bT B (below_alloc _ _)) (below_alloc _ _))⟩
theorem boxLattice_1 (a0 a1 a2 a3 b0 b1 b2 b3 c0 c1 c2 c3:Nat) (x y z:Bx) (u:Bool) (HX:Hid (Gv 23 #[.agg #[.int .u64 (a0:Int),.int .u64 (a1:Int),.int .u64 (a2:Int),.int .u64 (a3:Int)]] (.tuple #[.agg #[.float .f64 x.re.lo,.float .f64 x.re.hi,.float .f64 x.im.lo,.float .f64 x.im.hi],.agg #[.float .f64 x.re.lo,.float .f64 x.re.hi,.float .f64 x.im.lo,.float .f64 x.im.hi],.bool true]))) (HY:Hid (Gv 23 #[.agg #[.int .u64 (b0:Int),.int .u64 (b1:Int),.int .u64 (b2:Int),.int .u64 (b3:Int)]] (.tuple #[.agg #[.float .f64 y.re.lo,.float .f64 y.re.hi,.float .f64 y.im.lo,.float .f64 y.im.hi],.agg #[.float .f64 y.re.lo,.float .f64 y.re.hi,.float .f64 y.im.lo,.float .f64 y.im.hi],.bool false]))) (HZ:Hid (Gv 23 #[.agg #[.int .u64 (c0:Int),.int .u64 (c1:Int),.int .u64 (c2:Int),.int .u64 (c3:Int)]] (.tuple #[.agg #[.float .f64 z.re.lo,.float .f64 z.re.hi,.float .f64 z.im.lo,.float .f64 z.im.hi],.agg #[.float .f64 z.re.lo,.float .f64 z.re.hi,.float .f64 z.im.lo,.float .f64 z.im.hi],.bool u]))) (w:World) (hT:Tab w) (hT6:Tab64 w):Calls Tryz.prog 9 #[.agg #[.int .u64 (a0:Int),.int .u64 (a1:Int),.int .u64 (a2:Int),.int .u64 (a3:Int)],.agg #[.int .u64 (b0:Int),.int .u64 (b1:Int),.int .u64 (b2:Int),.int .u64 (b3:Int)],.agg #[.int .u64 (c0:Int),.int .u64 (c1:Int),.int .u64 (c2:Int),.int .u64 (c3:Int)]] w fun e w'=>e = .returned (.bool true) /\ Below w.heap.size w w':=by
 have hfb:=floatbits_run
 have hsf:=store_float
 have HT:=hid hT
 have HT6:=hid hT6
 clear hT hT6
 go_enter Tryz.func9,Tryz.ntmps9
 go_wp2_with fail
 obtain ⟨W1,hW1⟩:∃ W:World,W = ((w.alloc (.cells #[.int .u64 (a0:Int),.int .u64 (a1:Int),.int .u64 (a2:Int),.int .u64 (a3:Int)] 63)).alloc (.cells #[.int .u64 (b0:Int),.int .u64 (b1:Int),.int .u64 (b2:Int),.int .u64 (b3:Int)] 63)).alloc (.cells #[.int .u64 (c0:Int),.int .u64 (c1:Int),.int .u64 (c2:Int),.int .u64 (c3:Int)] 63):=⟨_,rfl⟩
 rw [<- hW1]
 have A0:HAt W1 (w.heap.size) #[.int .u64 (a0:Int),.int .u64 (a1:Int),.int .u64 (a2:Int),.int .u64 (a3:Int)] 63:=by rw [hW1]; exact (HAt.new sP).up.up
 have A1:HAt W1 (w.heap.size + 1) #[.int .u64 (b0:Int),.int .u64 (b1:Int),.int .u64 (b2:Int),.int .u64 (b3:Int)] 63:=by rw [hW1]; exact (HAt.new sP).up
 have A2:HAt W1 (w.heap.size + 2) #[.int .u64 (c0:Int),.int .u64 (c1:Int),.int .u64 (c2:Int),.int .u64 (c3:Int)] 63:=by rw [hW1]; exact (HAt.new sP)
 have B:Below w.heap.size w W1:=by rw [hW1]; exact (bT (bT (bT (Below.refl w.heap.size w) (below_alloc _ _)) (below_alloc _ _)) (below_alloc _ _))
 clear hW1
 refine (awake2K_1 _ (HT.out.below B) (HT6.out.below B)).mono ?_
 rintro e W2 ⟨rfl,hb2⟩
 replace A0:=A0.on hb2
 replace A1:=A1.on hb2
 replace A2:=A2.on hb2
 replace B:=bT B hb2
 clear hb2
 obtain ⟨f0_0,f0_1,f0_2,f0_3,y0_0,y0_1,y0_2,y0_3⟩:=bx4 A0.x
 obtain ⟨f1_0,f1_1,f1_2,f1_3,y1_0,y1_1,y1_2,y1_3⟩:=bx4 A1.x
 obtain ⟨f2_0,f2_1,f2_2,f2_3,y2_0,y2_1,y2_2,y2_3⟩:=bx4 A2.x
 go_wp2_with fail
 refine (HX.out _).mono ?_
 rintro e W3 ⟨rfl,hb3⟩
 replace A0:=A0.on hb3
 replace A1:=A1.on hb3
 replace A2:=A2.on hb3
 replace B:=bT B hb3
 clear hb3
 clear f0_0 f0_1 f0_2 f0_3 y0_0 y0_1 y0_2 y0_3 f1_0 f1_1 f1_2 f1_3 y1_0 y1_1 y1_2 y1_3 f2_0 f2_1 f2_2 f2_3 y2_0 y2_1 y2_2 y2_3
 obtain ⟨f0_0,f0_1,f0_2,f0_3,y0_0,y0_1,y0_2,y0_3⟩:=bx4 A0.x
 obtain ⟨f1_0,f1_1,f1_2,f1_3,y1_0,y1_1,y1_2,y1_3⟩:=bx4 A1.x
 obtain ⟨f2_0,f2_1,f2_2,f2_3,y2_0,y2_1,y2_2,y2_3⟩:=bx4 A2.x
 go_upto_region 4 with fail
 clear A0
 obtain ⟨W4,hW4⟩:∃ W:World,W = (W3.alloc (.cells #[.float .f64 x.re.lo,.float .f64 x.re.hi,.float .f64 x.im.lo,.float .f64 x.im.hi] 65)).alloc (.cells #[.float .f64 x.re.lo,.float .f64 x.re.hi,.float .f64 x.im.lo,.float .f64 x.im.hi] 67):=⟨_,rfl⟩
 rw [<- hW4]
 replace A1:HAt W4 (w.heap.size + 1) #[.int .u64 (b0:Int),.int .u64 (b1:Int),.int .u64 (b2:Int),.int .u64 (b3:Int)] 63:=by rw [hW4]; exact A1.up.up
 replace A2:HAt W4 (w.heap.size + 2) #[.int .u64 (c0:Int),.int .u64 (c1:Int),.int .u64 (c2:Int),.int .u64 (c3:Int)] 63:=by rw [hW4]; exact A2.up.up
 replace B:Below w.heap.size w W4:=by rw [hW4]; exact (bT (bT B (below_alloc _ _)) (below_alloc _ _))
 clear hW4
 clear f0_0 f0_1 f0_2 f0_3 y0_0 y0_1 y0_2 y0_3 f1_0 f1_1 f1_2 f1_3 y1_0 y1_1 y1_2 y1_3 f2_0 f2_1 f2_2 f2_3 y2_0 y2_1 y2_2 y2_3
 obtain ⟨f1_0,f1_1,f1_2,f1_3,y1_0,y1_1,y1_2,y1_3⟩:=bx4 A1.x
 obtain ⟨f2_0,f2_1,f2_2,f2_3,y2_0,y2_1,y2_2,y2_3⟩:=bx4 A2.x
 go_wp2_with fail
 refine (HY.out _).mono ?_
 rintro e W5 ⟨rfl,hb5⟩
 replace A1:=A1.on hb5
 replace A2:=A2.on hb5
 replace B:=bT B hb5
 clear hb5
 clear f1_0 f1_1 f1_2 f1_3 y1_0 y1_1 y1_2 y1_3 f2_0 f2_1 f2_2 f2_3 y2_0 y2_1 y2_2 y2_3
 obtain ⟨f1_0,f1_1,f1_2,f1_3,y1_0,y1_1,y1_2,y1_3⟩:=bx4 A1.x
 obtain ⟨f2_0,f2_1,f2_2,f2_3,y2_0,y2_1,y2_2,y2_3⟩:=bx4 A2.x
 go_upto_region 5 with fail
 clear A1
 obtain ⟨W6,hW6⟩:∃ W:World,W = (W5.alloc (.cells #[.float .f64 y.re.lo,.float .f64 y.re.hi,.float .f64 y.im.lo,.float .f64 y.im.hi] 65)).alloc (.cells #[.float .f64 y.re.lo,.float .f64 y.re.hi,.float .f64 y.im.lo,.float .f64 y.im.hi] 67):=⟨_,rfl⟩
 rw [<- hW6]
 replace A2:HAt W6 (w.heap.size + 2) #[.int .u64 (c0:Int),.int .u64 (c1:Int),.int .u64 (c2:Int),.int .u64 (c3:Int)] 63:=by rw [hW6]; exact A2.up.up
 replace B:Below w.heap.size w W6:=by rw [hW6]; exact (bT (bT B (below_alloc _ _)) (below_alloc _ _))
 clear hW6
 clear f1_0 f1_1 f1_2 f1_3 y1_0 y1_1 y1_2 y1_3 f2_0 f2_1 f2_2 f2_3 y2_0 y2_1 y2_2 y2_3
 obtain ⟨f2_0,f2_1,f2_2,f2_3,y2_0,y2_1,y2_2,y2_3⟩:=bx4 A2.x
 go_wp2_with fail
 refine (HZ.out _).mono ?_
 rintro e W7 ⟨rfl,hb7⟩
 replace A2:=A2.on hb7
 replace B:=bT B hb7
 clear hb7
 clear f2_0 f2_1 f2_2 f2_3 y2_0 y2_1 y2_2 y2_3
 obtain ⟨f2_0,f2_1,f2_2,f2_3,y2_0,y2_1,y2_2,y2_3⟩:=bx4 A2.x
 go_wp2
 go_ret
 exact ⟨rfl,(bT (bT B (below_alloc _ _)) (below_alloc _ _))⟩
theorem boxLattice_2 (a0 a1 a2 a3 b0 b1 b2 b3 c0 c1 c2 c3:Nat) (x y z:Bx) (HX:Hid (Gv 23 #[.agg #[.int .u64 (a0:Int),.int .u64 (a1:Int),.int .u64 (a2:Int),.int .u64 (a3:Int)]] (.tuple #[.agg #[.float .f64 x.re.lo,.float .f64 x.re.hi,.float .f64 x.im.lo,.float .f64 x.im.hi],.agg #[.float .f64 x.re.lo,.float .f64 x.re.hi,.float .f64 x.im.lo,.float .f64 x.im.hi],.bool true]))) (HY:Hid (Gv 23 #[.agg #[.int .u64 (b0:Int),.int .u64 (b1:Int),.int .u64 (b2:Int),.int .u64 (b3:Int)]] (.tuple #[.agg #[.float .f64 y.re.lo,.float .f64 y.re.hi,.float .f64 y.im.lo,.float .f64 y.im.hi],.agg #[.float .f64 y.re.lo,.float .f64 y.re.hi,.float .f64 y.im.lo,.float .f64 y.im.hi],.bool true]))) (HZ:Hid (Gv 23 #[.agg #[.int .u64 (c0:Int),.int .u64 (c1:Int),.int .u64 (c2:Int),.int .u64 (c3:Int)]] (.tuple #[.agg #[.float .f64 z.re.lo,.float .f64 z.re.hi,.float .f64 z.im.lo,.float .f64 z.im.hi],.agg #[.float .f64 z.re.lo,.float .f64 z.re.hi,.float .f64 z.im.lo,.float .f64 z.im.hi],.bool false]))) (w:World) (hT:Tab w) (hT6:Tab64 w):Calls Tryz.prog 9 #[.agg #[.int .u64 (a0:Int),.int .u64 (a1:Int),.int .u64 (a2:Int),.int .u64 (a3:Int)],.agg #[.int .u64 (b0:Int),.int .u64 (b1:Int),.int .u64 (b2:Int),.int .u64 (b3:Int)],.agg #[.int .u64 (c0:Int),.int .u64 (c1:Int),.int .u64 (c2:Int),.int .u64 (c3:Int)]] w fun e w'=>e = .returned (.bool true) /\ Below w.heap.size w w':=by
 have hfb:=floatbits_run
 have hsf:=store_float
 have HT:=hid hT
 have HT6:=hid hT6
 clear hT hT6
 go_enter Tryz.func9,Tryz.ntmps9
 go_wp2_with fail
 obtain ⟨W1,hW1⟩:∃ W:World,W = ((w.alloc (.cells #[.int .u64 (a0:Int),.int .u64 (a1:Int),.int .u64 (a2:Int),.int .u64 (a3:Int)] 63)).alloc (.cells #[.int .u64 (b0:Int),.int .u64 (b1:Int),.int .u64 (b2:Int),.int .u64 (b3:Int)] 63)).alloc (.cells #[.int .u64 (c0:Int),.int .u64 (c1:Int),.int .u64 (c2:Int),.int .u64 (c3:Int)] 63):=⟨_,rfl⟩
 rw [<- hW1]
 have A0:HAt W1 (w.heap.size) #[.int .u64 (a0:Int),.int .u64 (a1:Int),.int .u64 (a2:Int),.int .u64 (a3:Int)] 63:=by rw [hW1]; exact (HAt.new sP).up.up
 have A1:HAt W1 (w.heap.size + 1) #[.int .u64 (b0:Int),.int .u64 (b1:Int),.int .u64 (b2:Int),.int .u64 (b3:Int)] 63:=by rw [hW1]; exact (HAt.new sP).up
 have A2:HAt W1 (w.heap.size + 2) #[.int .u64 (c0:Int),.int .u64 (c1:Int),.int .u64 (c2:Int),.int .u64 (c3:Int)] 63:=by rw [hW1]; exact (HAt.new sP)
 have B:Below w.heap.size w W1:=by rw [hW1]; exact (bT (bT (bT (Below.refl w.heap.size w) (below_alloc _ _)) (below_alloc _ _)) (below_alloc _ _))
 clear hW1
 refine (awake2K_1 _ (HT.out.below B) (HT6.out.below B)).mono ?_
 rintro e W2 ⟨rfl,hb2⟩
 replace A0:=A0.on hb2
 replace A1:=A1.on hb2
 replace A2:=A2.on hb2
 replace B:=bT B hb2
 clear hb2
 obtain ⟨f0_0,f0_1,f0_2,f0_3,y0_0,y0_1,y0_2,y0_3⟩:=bx4 A0.x
 obtain ⟨f1_0,f1_1,f1_2,f1_3,y1_0,y1_1,y1_2,y1_3⟩:=bx4 A1.x
 obtain ⟨f2_0,f2_1,f2_2,f2_3,y2_0,y2_1,y2_2,y2_3⟩:=bx4 A2.x
 go_wp2_with fail
 refine (HX.out _).mono ?_
 rintro e W3 ⟨rfl,hb3⟩
 replace A0:=A0.on hb3
 replace A1:=A1.on hb3
 replace A2:=A2.on hb3
 replace B:=bT B hb3
 clear hb3
 clear f0_0 f0_1 f0_2 f0_3 y0_0 y0_1 y0_2 y0_3 f1_0 f1_1 f1_2 f1_3 y1_0 y1_1 y1_2 y1_3 f2_0 f2_1 f2_2 f2_3 y2_0 y2_1 y2_2 y2_3
 obtain ⟨f0_0,f0_1,f0_2,f0_3,y0_0,y0_1,y0_2,y0_3⟩:=bx4 A0.x
 obtain ⟨f1_0,f1_1,f1_2,f1_3,y1_0,y1_1,y1_2,y1_3⟩:=bx4 A1.x
 obtain ⟨f2_0,f2_1,f2_2,f2_3,y2_0,y2_1,y2_2,y2_3⟩:=bx4 A2.x
 go_upto_region 4 with fail
 clear A0
 obtain ⟨W4,hW4⟩:∃ W:World,W = (W3.alloc (.cells #[.float .f64 x.re.lo,.float .f64 x.re.hi,.float .f64 x.im.lo,.float .f64 x.im.hi] 65)).alloc (.cells #[.float .f64 x.re.lo,.float .f64 x.re.hi,.float .f64 x.im.lo,.float .f64 x.im.hi] 67):=⟨_,rfl⟩
 rw [<- hW4]
 replace A1:HAt W4 (w.heap.size + 1) #[.int .u64 (b0:Int),.int .u64 (b1:Int),.int .u64 (b2:Int),.int .u64 (b3:Int)] 63:=by rw [hW4]; exact A1.up.up
 replace A2:HAt W4 (w.heap.size + 2) #[.int .u64 (c0:Int),.int .u64 (c1:Int),.int .u64 (c2:Int),.int .u64 (c3:Int)] 63:=by rw [hW4]; exact A2.up.up
 replace B:Below w.heap.size w W4:=by rw [hW4]; exact (bT (bT B (below_alloc _ _)) (below_alloc _ _))
 clear hW4
 clear f0_0 f0_1 f0_2 f0_3 y0_0 y0_1 y0_2 y0_3 f1_0 f1_1 f1_2 f1_3 y1_0 y1_1 y1_2 y1_3 f2_0 f2_1 f2_2 f2_3 y2_0 y2_1 y2_2 y2_3
 obtain ⟨f1_0,f1_1,f1_2,f1_3,y1_0,y1_1,y1_2,y1_3⟩:=bx4 A1.x
 obtain ⟨f2_0,f2_1,f2_2,f2_3,y2_0,y2_1,y2_2,y2_3⟩:=bx4 A2.x
 go_wp2_with fail
 refine (HY.out _).mono ?_
 rintro e W5 ⟨rfl,hb5⟩
 replace A1:=A1.on hb5
 replace A2:=A2.on hb5
 replace B:=bT B hb5
 clear hb5
 clear f1_0 f1_1 f1_2 f1_3 y1_0 y1_1 y1_2 y1_3 f2_0 f2_1 f2_2 f2_3 y2_0 y2_1 y2_2 y2_3
 obtain ⟨f1_0,f1_1,f1_2,f1_3,y1_0,y1_1,y1_2,y1_3⟩:=bx4 A1.x
 obtain ⟨f2_0,f2_1,f2_2,f2_3,y2_0,y2_1,y2_2,y2_3⟩:=bx4 A2.x
 go_upto_region 5 with fail
 clear A1
 obtain ⟨W6,hW6⟩:∃ W:World,W = (W5.alloc (.cells #[.float .f64 y.re.lo,.float .f64 y.re.hi,.float .f64 y.im.lo,.float .f64 y.im.hi] 65)).alloc (.cells #[.float .f64 y.re.lo,.float .f64 y.re.hi,.float .f64 y.im.lo,.float .f64 y.im.hi] 67):=⟨_,rfl⟩
 rw [<- hW6]
 replace A2:HAt W6 (w.heap.size + 2) #[.int .u64 (c0:Int),.int .u64 (c1:Int),.int .u64 (c2:Int),.int .u64 (c3:Int)] 63:=by rw [hW6]; exact A2.up.up
 replace B:Below w.heap.size w W6:=by rw [hW6]; exact (bT (bT B (below_alloc _ _)) (below_alloc _ _))
 clear hW6
 clear f1_0 f1_1 f1_2 f1_3 y1_0 y1_1 y1_2 y1_3 f2_0 f2_1 f2_2 f2_3 y2_0 y2_1 y2_2 y2_3
 obtain ⟨f2_0,f2_1,f2_2,f2_3,y2_0,y2_1,y2_2,y2_3⟩:=bx4 A2.x
 go_wp2_with fail
 refine (HZ.out _).mono ?_
 rintro e W7 ⟨rfl,hb7⟩
 replace A2:=A2.on hb7
 replace B:=bT B hb7
 clear hb7
 clear f2_0 f2_1 f2_2 f2_3 y2_0 y2_1 y2_2 y2_3
 obtain ⟨f2_0,f2_1,f2_2,f2_3,y2_0,y2_1,y2_2,y2_3⟩:=bx4 A2.x
 go_wp2
 go_ret
 exact ⟨rfl,(bT (bT B (below_alloc _ _)) (below_alloc _ _))⟩
theorem boxLattice_core (a0 a1 a2 a3 b0 b1 b2 b3 c0 c1 c2 c3:Nat) (x y z h g hz yz xyz m n l bc r hm:Bx) (is left some right:Bool) (HX:Hid (Gv 23 #[.agg #[.int .u64 (a0:Int),.int .u64 (a1:Int),.int .u64 (a2:Int),.int .u64 (a3:Int)]] (.tuple #[.agg #[.float .f64 x.re.lo,.float .f64 x.re.hi,.float .f64 x.im.lo,.float .f64 x.im.hi],.agg #[.float .f64 x.re.lo,.float .f64 x.re.hi,.float .f64 x.im.lo,.float .f64 x.im.hi],.bool true]))) (HY:Hid (Gv 23 #[.agg #[.int .u64 (b0:Int),.int .u64 (b1:Int),.int .u64 (b2:Int),.int .u64 (b3:Int)]] (.tuple #[.agg #[.float .f64 y.re.lo,.float .f64 y.re.hi,.float .f64 y.im.lo,.float .f64 y.im.hi],.agg #[.float .f64 y.re.lo,.float .f64 y.re.hi,.float .f64 y.im.lo,.float .f64 y.im.hi],.bool true]))) (HZ:Hid (Gv 23 #[.agg #[.int .u64 (c0:Int),.int .u64 (c1:Int),.int .u64 (c2:Int),.int .u64 (c3:Int)]] (.tuple #[.agg #[.float .f64 z.re.lo,.float .f64 z.re.hi,.float .f64 z.im.lo,.float .f64 z.im.hi],.agg #[.float .f64 z.re.lo,.float .f64 z.re.hi,.float .f64 z.im.lo,.float .f64 z.im.hi],.bool true]))) (H1:Hid (Gv 33 #[.agg #[.float .f64 x.re.lo,.float .f64 x.re.hi,.float .f64 x.im.lo,.float .f64 x.im.hi],.agg #[.float .f64 y.re.lo,.float .f64 y.re.hi,.float .f64 y.im.lo,.float .f64 y.im.hi]] (.agg #[.float .f64 h.re.lo,.float .f64 h.re.hi,.float .f64 h.im.lo,.float .f64 h.im.hi]))) (H2:Hid (Gv 33 #[.agg #[.float .f64 y.re.lo,.float .f64 y.re.hi,.float .f64 y.im.lo,.float .f64 y.im.hi],.agg #[.float .f64 x.re.lo,.float .f64 x.re.hi,.float .f64 x.im.lo,.float .f64 x.im.hi]] (.agg #[.float .f64 g.re.lo,.float .f64 g.re.hi,.float .f64 g.im.lo,.float .f64 g.im.hi]))) (S1:Hid (Gv 35 #[.agg #[.float .f64 h.re.lo,.float .f64 h.re.hi,.float .f64 h.im.lo,.float .f64 h.im.hi],.agg #[.float .f64 g.re.lo,.float .f64 g.re.hi,.float .f64 g.im.lo,.float .f64 g.im.hi]] (.bool true))) (H3:Hid (Gv 33 #[.agg #[.float .f64 h.re.lo,.float .f64 h.re.hi,.float .f64 h.im.lo,.float .f64 h.im.hi],.agg #[.float .f64 z.re.lo,.float .f64 z.re.hi,.float .f64 z.im.lo,.float .f64 z.im.hi]] (.agg #[.float .f64 hz.re.lo,.float .f64 hz.re.hi,.float .f64 hz.im.lo,.float .f64 hz.im.hi]))) (H4:Hid (Gv 33 #[.agg #[.float .f64 y.re.lo,.float .f64 y.re.hi,.float .f64 y.im.lo,.float .f64 y.im.hi],.agg #[.float .f64 z.re.lo,.float .f64 z.re.hi,.float .f64 z.im.lo,.float .f64 z.im.hi]] (.agg #[.float .f64 yz.re.lo,.float .f64 yz.re.hi,.float .f64 yz.im.lo,.float .f64 yz.im.hi]))) (H5:Hid (Gv 33 #[.agg #[.float .f64 x.re.lo,.float .f64 x.re.hi,.float .f64 x.im.lo,.float .f64 x.im.hi],.agg #[.float .f64 yz.re.lo,.float .f64 yz.re.hi,.float .f64 yz.im.lo,.float .f64 yz.im.hi]] (.agg #[.float .f64 xyz.re.lo,.float .f64 xyz.re.hi,.float .f64 xyz.im.lo,.float .f64 xyz.im.hi]))) (S2:Hid (Gv 35 #[.agg #[.float .f64 hz.re.lo,.float .f64 hz.re.hi,.float .f64 hz.im.lo,.float .f64 hz.im.hi],.agg #[.float .f64 xyz.re.lo,.float .f64 xyz.re.hi,.float .f64 xyz.im.lo,.float .f64 xyz.im.hi]] (.bool true))) (I1:Hid (Gv 31 #[.agg #[.float .f64 x.re.lo,.float .f64 x.re.hi,.float .f64 x.im.lo,.float .f64 x.im.hi],.agg #[.float .f64 h.re.lo,.float .f64 h.re.hi,.float .f64 h.im.lo,.float .f64 h.im.hi]] (.bool true))) (I2:Hid (Gv 31 #[.agg #[.float .f64 y.re.lo,.float .f64 y.re.hi,.float .f64 y.im.lo,.float .f64 y.im.hi],.agg #[.float .f64 h.re.lo,.float .f64 h.re.hi,.float .f64 h.im.lo,.float .f64 h.im.hi]] (.bool true))) (M1:Hid (Gv 24 #[.agg #[.float .f64 x.re.lo,.float .f64 x.re.hi,.float .f64 x.im.lo,.float .f64 x.im.hi],.agg #[.float .f64 y.re.lo,.float .f64 y.re.hi,.float .f64 y.im.lo,.float .f64 y.im.hi]] (.tuple #[.agg #[.float .f64 m.re.lo,.float .f64 m.re.hi,.float .f64 m.im.lo,.float .f64 m.im.hi],.bool is]))) (M2:Hid (Gv 24 #[.agg #[.float .f64 y.re.lo,.float .f64 y.re.hi,.float .f64 y.im.lo,.float .f64 y.im.hi],.agg #[.float .f64 x.re.lo,.float .f64 x.re.hi,.float .f64 x.im.lo,.float .f64 x.im.hi]] (.tuple #[.agg #[.float .f64 n.re.lo,.float .f64 n.re.hi,.float .f64 n.im.lo,.float .f64 n.im.hi],.bool is]))) (S3:Hid (Gv 35 #[.agg #[.float .f64 m.re.lo,.float .f64 m.re.hi,.float .f64 m.im.lo,.float .f64 m.im.hi],.agg #[.float .f64 n.re.lo,.float .f64 n.re.hi,.float .f64 n.im.lo,.float .f64 n.im.hi]] (.bool true))) (M3:Hid (Gv 24 #[.agg #[.float .f64 m.re.lo,.float .f64 m.re.hi,.float .f64 m.im.lo,.float .f64 m.im.hi],.agg #[.float .f64 z.re.lo,.float .f64 z.re.hi,.float .f64 z.im.lo,.float .f64 z.im.hi]] (.tuple #[.agg #[.float .f64 l.re.lo,.float .f64 l.re.hi,.float .f64 l.im.lo,.float .f64 l.im.hi],.bool left]))) (M4:Hid (Gv 24 #[.agg #[.float .f64 y.re.lo,.float .f64 y.re.hi,.float .f64 y.im.lo,.float .f64 y.im.hi],.agg #[.float .f64 z.re.lo,.float .f64 z.re.hi,.float .f64 z.im.lo,.float .f64 z.im.hi]] (.tuple #[.agg #[.float .f64 bc.re.lo,.float .f64 bc.re.hi,.float .f64 bc.im.lo,.float .f64 bc.im.hi],.bool some]))) (M5:Hid (Gv 24 #[.agg #[.float .f64 x.re.lo,.float .f64 x.re.hi,.float .f64 x.im.lo,.float .f64 x.im.hi],.agg #[.float .f64 bc.re.lo,.float .f64 bc.re.hi,.float .f64 bc.im.lo,.float .f64 bc.im.hi]] (.tuple #[.agg #[.float .f64 r.re.lo,.float .f64 r.re.hi,.float .f64 r.im.lo,.float .f64 r.im.hi],.bool right]))) (H6:Hid (Gv 33 #[.agg #[.float .f64 x.re.lo,.float .f64 x.re.hi,.float .f64 x.im.lo,.float .f64 x.im.hi],.agg #[.float .f64 m.re.lo,.float .f64 m.re.hi,.float .f64 m.im.lo,.float .f64 m.im.hi]] (.agg #[.float .f64 hm.re.lo,.float .f64 hm.re.hi,.float .f64 hm.im.lo,.float .f64 hm.im.hi]))) (hyes:is = true -> Hid (Gv 31 #[.agg #[.float .f64 m.re.lo,.float .f64 m.re.hi,.float .f64 m.im.lo,.float .f64 m.im.hi],.agg #[.float .f64 x.re.lo,.float .f64 x.re.hi,.float .f64 x.im.lo,.float .f64 x.im.hi]] (.bool true)) /\ Hid (Gv 31 #[.agg #[.float .f64 m.re.lo,.float .f64 m.re.hi,.float .f64 m.im.lo,.float .f64 m.im.hi],.agg #[.float .f64 y.re.lo,.float .f64 y.re.hi,.float .f64 y.im.lo,.float .f64 y.im.hi]] (.bool true)) /\ Hid (Gv 35 #[.agg #[.float .f64 hm.re.lo,.float .f64 hm.re.hi,.float .f64 hm.im.lo,.float .f64 hm.im.hi],.agg #[.float .f64 x.re.lo,.float .f64 x.re.hi,.float .f64 x.im.lo,.float .f64 x.im.hi]] (.bool true)) /\ (left = true -> Hid (Gv 35 #[.agg #[.float .f64 l.re.lo,.float .f64 l.re.hi,.float .f64 l.im.lo,.float .f64 l.im.hi],.agg #[.float .f64 r.re.lo,.float .f64 r.re.hi,.float .f64 r.im.lo,.float .f64 r.im.hi]] (.bool true))) /\ left = (some && right)) (w:World) (hT:Tab w) (hT6:Tab64 w):Calls Tryz.prog 9 #[.agg #[.int .u64 (a0:Int),.int .u64 (a1:Int),.int .u64 (a2:Int),.int .u64 (a3:Int)],.agg #[.int .u64 (b0:Int),.int .u64 (b1:Int),.int .u64 (b2:Int),.int .u64 (b3:Int)],.agg #[.int .u64 (c0:Int),.int .u64 (c1:Int),.int .u64 (c2:Int),.int .u64 (c3:Int)]] w fun e w'=>e = .returned (.bool true) /\ Below w.heap.size w w':=by
 have hfb:=floatbits_run
 have hsf:=store_float
 have HT:=hid hT
 have HT6:=hid hT6
 clear hT hT6
 go_enter Tryz.func9,Tryz.ntmps9
 go_wp2_with fail
 obtain ⟨W1,hW1⟩:∃ W:World,W = ((w.alloc (.cells #[.int .u64 (a0:Int),.int .u64 (a1:Int),.int .u64 (a2:Int),.int .u64 (a3:Int)] 63)).alloc (.cells #[.int .u64 (b0:Int),.int .u64 (b1:Int),.int .u64 (b2:Int),.int .u64 (b3:Int)] 63)).alloc (.cells #[.int .u64 (c0:Int),.int .u64 (c1:Int),.int .u64 (c2:Int),.int .u64 (c3:Int)] 63):=⟨_,rfl⟩
 rw [<- hW1]
 have A0:HAt W1 (w.heap.size) #[.int .u64 (a0:Int),.int .u64 (a1:Int),.int .u64 (a2:Int),.int .u64 (a3:Int)] 63:=by rw [hW1]; exact (HAt.new sP).up.up
 have A1:HAt W1 (w.heap.size + 1) #[.int .u64 (b0:Int),.int .u64 (b1:Int),.int .u64 (b2:Int),.int .u64 (b3:Int)] 63:=by rw [hW1]; exact (HAt.new sP).up
 have A2:HAt W1 (w.heap.size + 2) #[.int .u64 (c0:Int),.int .u64 (c1:Int),.int .u64 (c2:Int),.int .u64 (c3:Int)] 63:=by rw [hW1]; exact (HAt.new sP)
 have B:Below w.heap.size w W1:=by rw [hW1]; exact (bT (bT (bT (Below.refl w.heap.size w) (below_alloc _ _)) (below_alloc _ _)) (below_alloc _ _))
 clear hW1
 refine (awake2K_1 _ (HT.out.below B) (HT6.out.below B)).mono ?_
 rintro e W2 ⟨rfl,hb2⟩
 replace A0:=A0.on hb2
 replace A1:=A1.on hb2
 replace A2:=A2.on hb2
 replace B:=bT B hb2
 clear hb2
 obtain ⟨f0_0,f0_1,f0_2,f0_3,y0_0,y0_1,y0_2,y0_3⟩:=bx4 A0.x
 obtain ⟨f1_0,f1_1,f1_2,f1_3,y1_0,y1_1,y1_2,y1_3⟩:=bx4 A1.x
 obtain ⟨f2_0,f2_1,f2_2,f2_3,y2_0,y2_1,y2_2,y2_3⟩:=bx4 A2.x
 go_wp2_with fail
 refine (HX.out _).mono ?_
 rintro e W3 ⟨rfl,hb3⟩
 replace A0:=A0.on hb3
 replace A1:=A1.on hb3
 replace A2:=A2.on hb3
 replace B:=bT B hb3
 clear hb3
 clear f0_0 f0_1 f0_2 f0_3 y0_0 y0_1 y0_2 y0_3 f1_0 f1_1 f1_2 f1_3 y1_0 y1_1 y1_2 y1_3 f2_0 f2_1 f2_2 f2_3 y2_0 y2_1 y2_2 y2_3
 obtain ⟨f0_0,f0_1,f0_2,f0_3,y0_0,y0_1,y0_2,y0_3⟩:=bx4 A0.x
 obtain ⟨f1_0,f1_1,f1_2,f1_3,y1_0,y1_1,y1_2,y1_3⟩:=bx4 A1.x
 obtain ⟨f2_0,f2_1,f2_2,f2_3,y2_0,y2_1,y2_2,y2_3⟩:=bx4 A2.x
 go_upto_region 4 with fail
 clear A0
 obtain ⟨W4,hW4⟩:∃ W:World,W = (W3.alloc (.cells #[.float .f64 x.re.lo,.float .f64 x.re.hi,.float .f64 x.im.lo,.float .f64 x.im.hi] 65)).alloc (.cells #[.float .f64 x.re.lo,.float .f64 x.re.hi,.float .f64 x.im.lo,.float .f64 x.im.hi] 67):=⟨_,rfl⟩
 rw [<- hW4]
 replace A1:HAt W4 (w.heap.size + 1) #[.int .u64 (b0:Int),.int .u64 (b1:Int),.int .u64 (b2:Int),.int .u64 (b3:Int)] 63:=by rw [hW4]; exact A1.up.up
 replace A2:HAt W4 (w.heap.size + 2) #[.int .u64 (c0:Int),.int .u64 (c1:Int),.int .u64 (c2:Int),.int .u64 (c3:Int)] 63:=by rw [hW4]; exact A2.up.up
 have A3:HAt W4 (W3.heap.size) #[.float .f64 x.re.lo,.float .f64 x.re.hi,.float .f64 x.im.lo,.float .f64 x.im.hi] 65:=by rw [hW4]; exact (HAt.new sP).up
 replace B:Below w.heap.size w W4:=by rw [hW4]; exact (bT (bT B (below_alloc _ _)) (below_alloc _ _))
 clear hW4
 clear f0_0 f0_1 f0_2 f0_3 y0_0 y0_1 y0_2 y0_3 f1_0 f1_1 f1_2 f1_3 y1_0 y1_1 y1_2 y1_3 f2_0 f2_1 f2_2 f2_3 y2_0 y2_1 y2_2 y2_3
 obtain ⟨f1_0,f1_1,f1_2,f1_3,y1_0,y1_1,y1_2,y1_3⟩:=bx4 A1.x
 obtain ⟨f2_0,f2_1,f2_2,f2_3,y2_0,y2_1,y2_2,y2_3⟩:=bx4 A2.x
 obtain ⟨f3_0,f3_1,f3_2,f3_3,y3_0,y3_1,y3_2,y3_3⟩:=bx4 A3.x
 go_wp2_with fail
 refine (HY.out _).mono ?_
 rintro e W5 ⟨rfl,hb5⟩
 replace A1:=A1.on hb5
 replace A2:=A2.on hb5
 replace A3:=A3.on hb5
 replace B:=bT B hb5
 clear hb5
 clear f1_0 f1_1 f1_2 f1_3 y1_0 y1_1 y1_2 y1_3 f2_0 f2_1 f2_2 f2_3 y2_0 y2_1 y2_2 y2_3 f3_0 f3_1 f3_2 f3_3 y3_0 y3_1 y3_2 y3_3
 obtain ⟨f1_0,f1_1,f1_2,f1_3,y1_0,y1_1,y1_2,y1_3⟩:=bx4 A1.x
 obtain ⟨f2_0,f2_1,f2_2,f2_3,y2_0,y2_1,y2_2,y2_3⟩:=bx4 A2.x
 obtain ⟨f3_0,f3_1,f3_2,f3_3,y3_0,y3_1,y3_2,y3_3⟩:=bx4 A3.x
 go_upto_region 5 with fail
 clear A1
 obtain ⟨W6,hW6⟩:∃ W:World,W = (W5.alloc (.cells #[.float .f64 y.re.lo,.float .f64 y.re.hi,.float .f64 y.im.lo,.float .f64 y.im.hi] 65)).alloc (.cells #[.float .f64 y.re.lo,.float .f64 y.re.hi,.float .f64 y.im.lo,.float .f64 y.im.hi] 67):=⟨_,rfl⟩
 rw [<- hW6]
 replace A2:HAt W6 (w.heap.size + 2) #[.int .u64 (c0:Int),.int .u64 (c1:Int),.int .u64 (c2:Int),.int .u64 (c3:Int)] 63:=by rw [hW6]; exact A2.up.up
 replace A3:HAt W6 (W3.heap.size) #[.float .f64 x.re.lo,.float .f64 x.re.hi,.float .f64 x.im.lo,.float .f64 x.im.hi] 65:=by rw [hW6]; exact A3.up.up
 have A5:HAt W6 (W5.heap.size) #[.float .f64 y.re.lo,.float .f64 y.re.hi,.float .f64 y.im.lo,.float .f64 y.im.hi] 65:=by rw [hW6]; exact (HAt.new sP).up
 replace B:Below w.heap.size w W6:=by rw [hW6]; exact (bT (bT B (below_alloc _ _)) (below_alloc _ _))
 clear hW6
 clear f1_0 f1_1 f1_2 f1_3 y1_0 y1_1 y1_2 y1_3 f2_0 f2_1 f2_2 f2_3 y2_0 y2_1 y2_2 y2_3 f3_0 f3_1 f3_2 f3_3 y3_0 y3_1 y3_2 y3_3
 obtain ⟨f2_0,f2_1,f2_2,f2_3,y2_0,y2_1,y2_2,y2_3⟩:=bx4 A2.x
 obtain ⟨f3_0,f3_1,f3_2,f3_3,y3_0,y3_1,y3_2,y3_3⟩:=bx4 A3.x
 obtain ⟨f5_0,f5_1,f5_2,f5_3,y5_0,y5_1,y5_2,y5_3⟩:=bx4 A5.x
 go_wp2_with fail
 refine (HZ.out _).mono ?_
 rintro e W7 ⟨rfl,hb7⟩
 replace A2:=A2.on hb7
 replace A3:=A3.on hb7
 replace A5:=A5.on hb7
 replace B:=bT B hb7
 clear hb7
 clear f2_0 f2_1 f2_2 f2_3 y2_0 y2_1 y2_2 y2_3 f3_0 f3_1 f3_2 f3_3 y3_0 y3_1 y3_2 y3_3 f5_0 f5_1 f5_2 f5_3 y5_0 y5_1 y5_2 y5_3
 obtain ⟨f2_0,f2_1,f2_2,f2_3,y2_0,y2_1,y2_2,y2_3⟩:=bx4 A2.x
 obtain ⟨f3_0,f3_1,f3_2,f3_3,y3_0,y3_1,y3_2,y3_3⟩:=bx4 A3.x
 obtain ⟨f5_0,f5_1,f5_2,f5_3,y5_0,y5_1,y5_2,y5_3⟩:=bx4 A5.x
 go_upto_region 8 with fail
 clear A2
 obtain ⟨W8,hW8⟩:∃ W:World,W = (W7.alloc (.cells #[.float .f64 z.re.lo,.float .f64 z.re.hi,.float .f64 z.im.lo,.float .f64 z.im.hi] 65)).alloc (.cells #[.float .f64 z.re.lo,.float .f64 z.re.hi,.float .f64 z.im.lo,.float .f64 z.im.hi] 67):=⟨_,rfl⟩
 rw [<- hW8]
 replace A3:HAt W8 (W3.heap.size) #[.float .f64 x.re.lo,.float .f64 x.re.hi,.float .f64 x.im.lo,.float .f64 x.im.hi] 65:=by rw [hW8]; exact A3.up.up
 replace A5:HAt W8 (W5.heap.size) #[.float .f64 y.re.lo,.float .f64 y.re.hi,.float .f64 y.im.lo,.float .f64 y.im.hi] 65:=by rw [hW8]; exact A5.up.up
 have A7:HAt W8 (W7.heap.size) #[.float .f64 z.re.lo,.float .f64 z.re.hi,.float .f64 z.im.lo,.float .f64 z.im.hi] 65:=by rw [hW8]; exact (HAt.new sP).up
 replace B:Below w.heap.size w W8:=by rw [hW8]; exact (bT (bT B (below_alloc _ _)) (below_alloc _ _))
 clear hW8
 clear f2_0 f2_1 f2_2 f2_3 y2_0 y2_1 y2_2 y2_3 f3_0 f3_1 f3_2 f3_3 y3_0 y3_1 y3_2 y3_3 f5_0 f5_1 f5_2 f5_3 y5_0 y5_1 y5_2 y5_3
 obtain ⟨f3_0,f3_1,f3_2,f3_3,y3_0,y3_1,y3_2,y3_3⟩:=bx4 A3.x
 obtain ⟨f5_0,f5_1,f5_2,f5_3,y5_0,y5_1,y5_2,y5_3⟩:=bx4 A5.x
 obtain ⟨f7_0,f7_1,f7_2,f7_3,y7_0,y7_1,y7_2,y7_3⟩:=bx4 A7.x
 go_wp2_with fail
 refine (H1.out _).mono ?_
 rintro e W9 ⟨rfl,hb9⟩
 replace A3:=A3.on hb9
 replace A5:=A5.on hb9
 replace A7:=A7.on hb9
 replace B:=bT B hb9
 clear hb9
 clear f3_0 f3_1 f3_2 f3_3 y3_0 y3_1 y3_2 y3_3 f5_0 f5_1 f5_2 f5_3 y5_0 y5_1 y5_2 y5_3 f7_0 f7_1 f7_2 f7_3 y7_0 y7_1 y7_2 y7_3
 obtain ⟨f3_0,f3_1,f3_2,f3_3,y3_0,y3_1,y3_2,y3_3⟩:=bx4 A3.x
 obtain ⟨f5_0,f5_1,f5_2,f5_3,y5_0,y5_1,y5_2,y5_3⟩:=bx4 A5.x
 obtain ⟨f7_0,f7_1,f7_2,f7_3,y7_0,y7_1,y7_2,y7_3⟩:=bx4 A7.x
 go_upto_region 9 with fail
 obtain ⟨W10,hW10⟩:∃ W:World,W = W9.alloc (.cells #[.float .f64 h.re.lo,.float .f64 h.re.hi,.float .f64 h.im.lo,.float .f64 h.im.hi] 65):=⟨_,rfl⟩
 rw [<- hW10]
 replace A3:HAt W10 (W3.heap.size) #[.float .f64 x.re.lo,.float .f64 x.re.hi,.float .f64 x.im.lo,.float .f64 x.im.hi] 65:=by rw [hW10]; exact A3.up
 replace A5:HAt W10 (W5.heap.size) #[.float .f64 y.re.lo,.float .f64 y.re.hi,.float .f64 y.im.lo,.float .f64 y.im.hi] 65:=by rw [hW10]; exact A5.up
 replace A7:HAt W10 (W7.heap.size) #[.float .f64 z.re.lo,.float .f64 z.re.hi,.float .f64 z.im.lo,.float .f64 z.im.hi] 65:=by rw [hW10]; exact A7.up
 have A9:HAt W10 (W9.heap.size) #[.float .f64 h.re.lo,.float .f64 h.re.hi,.float .f64 h.im.lo,.float .f64 h.im.hi] 65:=by rw [hW10]; exact (HAt.new sP)
 replace B:Below w.heap.size w W10:=by rw [hW10]; exact (bT B (below_alloc _ _))
 clear hW10
 clear f3_0 f3_1 f3_2 f3_3 y3_0 y3_1 y3_2 y3_3 f5_0 f5_1 f5_2 f5_3 y5_0 y5_1 y5_2 y5_3 f7_0 f7_1 f7_2 f7_3 y7_0 y7_1 y7_2 y7_3
 refine region_litA [.val (kIs (.agg #[.float .f64 h.re.lo,.float .f64 h.re.hi,.float .f64 h.im.lo,.float .f64 h.im.hi])),.val (kIs (.agg #[.float .f64 y.re.lo,.float .f64 y.re.hi,.float .f64 y.im.lo,.float .f64 y.im.hi])),.val (kIs (.agg #[.float .f64 x.re.lo,.float .f64 x.re.hi,.float .f64 x.im.lo,.float .f64 x.im.hi])),.val (kIs (.agg #[.float .f64 g.re.lo,.float .f64 g.re.hi,.float .f64 g.im.lo,.float .f64 g.im.hi])),.val (kIs (.bool true)),.val (kIs (.bool false)),.val (kIs (.bool false)),.val (kIs (.agg #[.float .f64 h.re.lo,.float .f64 h.re.hi,.float .f64 h.im.lo,.float .f64 h.im.hi])),.val (kIs (.agg #[.float .f64 z.re.lo,.float .f64 z.re.hi,.float .f64 z.im.lo,.float .f64 z.im.hi])),.val (kIs (.agg #[.float .f64 hz.re.lo,.float .f64 hz.re.hi,.float .f64 hz.im.lo,.float .f64 hz.im.hi])),.val (kIs (.agg #[.float .f64 x.re.lo,.float .f64 x.re.hi,.float .f64 x.im.lo,.float .f64 x.im.hi])),.val (kIs (.agg #[.float .f64 y.re.lo,.float .f64 y.re.hi,.float .f64 y.im.lo,.float .f64 y.im.hi])),.val (kIs (.agg #[.float .f64 z.re.lo,.float .f64 z.re.hi,.float .f64 z.im.lo,.float .f64 z.im.hi])),.val (kIs (.agg #[.float .f64 yz.re.lo,.float .f64 yz.re.hi,.float .f64 yz.im.lo,.float .f64 yz.im.hi])),.val (kIs (.agg #[.float .f64 xyz.re.lo,.float .f64 xyz.re.hi,.float .f64 xyz.im.lo,.float .f64 xyz.im.hi])),.val (kIs (.bool true)),.val (kIs (.bool false)),.val (kIs (.bool false)),.val (kIs (.bool false)),.val (kIs (.agg #[.float .f64 x.re.lo,.float .f64 x.re.hi,.float .f64 x.im.lo,.float .f64 x.im.hi])),.val (kIs (.agg #[.float .f64 h.re.lo,.float .f64 h.re.hi,.float .f64 h.im.lo,.float .f64 h.im.hi])),.val (kIs (.bool true)),.val (kIs (.bool false)),.val (kIs (.bool false)),.val (kIs (.bool false)),.val (kIs (.agg #[.float .f64 y.re.lo,.float .f64 y.re.hi,.float .f64 y.im.lo,.float .f64 y.im.hi])),.val (kIs (.agg #[.float .f64 h.re.lo,.float .f64 h.re.hi,.float .f64 h.im.lo,.float .f64 h.im.hi])),.val (kIs (.bool true)),.val (kIs (.bool false)),.val (kIs (.bool false))]
  ?fl1 ?hfl1 kR kR kR kR kR ⟨si,si,si,si,si,si,si,si,si,si,si,si,si,si,si,si,si,si,si,si,si,si,si,si,si,si,si,si,si,si,trivial⟩ sP ⟨obN (uLr rfl .fr (fun W hb=>A9.ld hb) Tryz.underlying65),obN (uLr rfl .fr (fun W hb=>A5.ld hb) Tryz.underlying65),obN (uLr rfl .fr (fun W hb=>A3.ld hb) Tryz.underlying65),obN (uC2 rfl (.is 1) (.is 2) (fun _ W hb _=>cIs (H2.out W))),obN (uC2 rfl (.is 0) (.is 3) (fun _ W hb _=>cIs (S1.out W))),obN (uN0 rfl (.is 4)),obN (uMv 5),obG 6 (uLr rfl .fr (fun W hb=>A9.ld hb) Tryz.underlying65),obG 6 (uLr rfl .fr (fun W hb=>A7.ld hb) Tryz.underlying65),obG 6 (uC2 rfl (.is 7) (.is 8) (fun _ W hb _=>cIs (H3.out W))),obG 6 (uLr rfl .fr (fun W hb=>A3.ld hb) Tryz.underlying65),obG 6 (uLr rfl .fr (fun W hb=>A5.ld hb) Tryz.underlying65),obG 6 (uLr rfl .fr (fun W hb=>A7.ld hb) Tryz.underlying65),obG 6 (uC2 rfl (.is 11) (.is 12) (fun _ W hb _=>cIs (H4.out W))),obG 6 (uC2 rfl (.is 10) (.is 13) (fun _ W hb _=>cIs (H5.out W))),obG 6 (uC2 rfl (.is 9) (.is 14) (fun _ W hb _=>cIs (S2.out W))),obG 6 (uN0 rfl (.is 15)),obN (uPf rfl (.is 6) (.is 16)),obN (uMv 17),obG 18 (uLr rfl .fr (fun W hb=>A3.ld hb) Tryz.underlying65),obG 18 (uLr rfl .fr (fun W hb=>A9.ld hb) Tryz.underlying65),obG 18 (uC2 rfl (.is 19) (.is 20) (fun _ W hb _=>cIs (I1.out W))),obG 18 (uN0 rfl (.is 21)),obN (uPf rfl (.is 18) (.is 22)),obN (uMv 23),obG 24 (uLr rfl .fr (fun W hb=>A5.ld hb) Tryz.underlying65),obG 24 (uLr rfl .fr (fun W hb=>A9.ld hb) Tryz.underlying65),obG 24 (uC2 rfl (.is 25) (.is 26) (fun _ W hb _=>cIs (I2.out W))),obG 24 (uN0 rfl (.is 27)),obN (uPf rfl (.is 24) (.is 28)),trivial⟩ ?_
 case hfl1=>intro ts; simp only [fillT,zA,Nat.reduceAdd,sA,sB,sC]; rfl
 intro ts W11 hb11 hh hap
 have e29:=held_is (hh 29 sP) rfl
 simp only [e29]
 clear hh hap e29
 clear A9
 replace A3:=A3.on hb11
 replace A5:=A5.on hb11
 replace A7:=A7.on hb11
 replace B:=bT B hb11
 clear hb11
 obtain ⟨f3_0,f3_1,f3_2,f3_3,y3_0,y3_1,y3_2,y3_3⟩:=bx4 A3.x
 obtain ⟨f5_0,f5_1,f5_2,f5_3,y5_0,y5_1,y5_2,y5_3⟩:=bx4 A5.x
 obtain ⟨f7_0,f7_1,f7_2,f7_3,y7_0,y7_1,y7_2,y7_3⟩:=bx4 A7.x
 cases is
 ·clear hyes
  go_wp2_with fail
  refine (M1.out _).mono ?_
  rintro e W12 ⟨rfl,hb12⟩
  clear A7
  replace A3:=A3.on hb12
  replace A5:=A5.on hb12
  replace B:=bT B hb12
  clear hb12
  clear f3_0 f3_1 f3_2 f3_3 y3_0 y3_1 y3_2 y3_3 f5_0 f5_1 f5_2 f5_3 y5_0 y5_1 y5_2 y5_3 f7_0 f7_1 f7_2 f7_3 y7_0 y7_1 y7_2 y7_3
  obtain ⟨f3_0,f3_1,f3_2,f3_3,y3_0,y3_1,y3_2,y3_3⟩:=bx4 A3.x
  obtain ⟨f5_0,f5_1,f5_2,f5_3,y5_0,y5_1,y5_2,y5_3⟩:=bx4 A5.x
  go_upto_region 12 with fail
  obtain ⟨W13,hW13⟩:∃ W:World,W = W12.alloc (.cells #[.float .f64 m.re.lo,.float .f64 m.re.hi,.float .f64 m.im.lo,.float .f64 m.im.hi] 65):=⟨_,rfl⟩
  rw [<- hW13]
  replace A3:HAt W13 (W3.heap.size) #[.float .f64 x.re.lo,.float .f64 x.re.hi,.float .f64 x.im.lo,.float .f64 x.im.hi] 65:=by rw [hW13]; exact A3.up
  replace A5:HAt W13 (W5.heap.size) #[.float .f64 y.re.lo,.float .f64 y.re.hi,.float .f64 y.im.lo,.float .f64 y.im.hi] 65:=by rw [hW13]; exact A5.up
  have A10:HAt W13 (W12.heap.size) #[.float .f64 m.re.lo,.float .f64 m.re.hi,.float .f64 m.im.lo,.float .f64 m.im.hi] 65:=by rw [hW13]; exact (HAt.new sP)
  replace B:Below w.heap.size w W13:=by rw [hW13]; exact (bT B (below_alloc _ _))
  clear hW13
  clear f3_0 f3_1 f3_2 f3_3 y3_0 y3_1 y3_2 y3_3 f5_0 f5_1 f5_2 f5_3 y5_0 y5_1 y5_2 y5_3
  obtain ⟨f3_0,f3_1,f3_2,f3_3,y3_0,y3_1,y3_2,y3_3⟩:=bx4 A3.x
  obtain ⟨f5_0,f5_1,f5_2,f5_3,y5_0,y5_1,y5_2,y5_3⟩:=bx4 A5.x
  obtain ⟨f10_0,f10_1,f10_2,f10_3,y10_0,y10_1,y10_2,y10_3⟩:=bx4 A10.x
  go_wp2_with fail
  refine (M2.out _).mono ?_
  rintro e W14 ⟨rfl,hb14⟩
  replace A3:=A3.on hb14
  replace A5:=A5.on hb14
  replace A10:=A10.on hb14
  replace B:=bT B hb14
  clear hb14
  clear f3_0 f3_1 f3_2 f3_3 y3_0 y3_1 y3_2 y3_3 f5_0 f5_1 f5_2 f5_3 y5_0 y5_1 y5_2 y5_3 f10_0 f10_1 f10_2 f10_3 y10_0 y10_1 y10_2 y10_3
  obtain ⟨f3_0,f3_1,f3_2,f3_3,y3_0,y3_1,y3_2,y3_3⟩:=bx4 A3.x
  obtain ⟨f5_0,f5_1,f5_2,f5_3,y5_0,y5_1,y5_2,y5_3⟩:=bx4 A5.x
  obtain ⟨f10_0,f10_1,f10_2,f10_3,y10_0,y10_1,y10_2,y10_3⟩:=bx4 A10.x
  go_upto_region 13 with fail
  clear A3 A5
  obtain ⟨W15,hW15⟩:∃ W:World,W = W14.alloc (.cells #[.float .f64 n.re.lo,.float .f64 n.re.hi,.float .f64 n.im.lo,.float .f64 n.im.hi] 65):=⟨_,rfl⟩
  rw [<- hW15]
  replace A10:HAt W15 (W12.heap.size) #[.float .f64 m.re.lo,.float .f64 m.re.hi,.float .f64 m.im.lo,.float .f64 m.im.hi] 65:=by rw [hW15]; exact A10.up
  have A11:HAt W15 (W14.heap.size) #[.float .f64 n.re.lo,.float .f64 n.re.hi,.float .f64 n.im.lo,.float .f64 n.im.hi] 65:=by rw [hW15]; exact (HAt.new sP)
  replace B:Below w.heap.size w W15:=by rw [hW15]; exact (bT B (below_alloc _ _))
  clear hW15
  clear f3_0 f3_1 f3_2 f3_3 y3_0 y3_1 y3_2 y3_3 f5_0 f5_1 f5_2 f5_3 y5_0 y5_1 y5_2 y5_3 f10_0 f10_1 f10_2 f10_3 y10_0 y10_1 y10_2 y10_3
  obtain ⟨f10_0,f10_1,f10_2,f10_3,y10_0,y10_1,y10_2,y10_3⟩:=bx4 A10.x
  obtain ⟨f11_0,f11_1,f11_2,f11_3,y11_0,y11_1,y11_2,y11_3⟩:=bx4 A11.x
  go_wp2_with fail
  refine (S3.out _).mono ?_
  rintro e W16 ⟨rfl,hb16⟩
  replace A10:=A10.on hb16
  replace A11:=A11.on hb16
  replace B:=bT B hb16
  clear hb16
  clear f10_0 f10_1 f10_2 f10_3 y10_0 y10_1 y10_2 y10_3 f11_0 f11_1 f11_2 f11_3 y11_0 y11_1 y11_2 y11_3
  obtain ⟨f10_0,f10_1,f10_2,f10_3,y10_0,y10_1,y10_2,y10_3⟩:=bx4 A10.x
  obtain ⟨f11_0,f11_1,f11_2,f11_3,y11_0,y11_1,y11_2,y11_3⟩:=bx4 A11.x
  go_wp2
  go_ret
  exact ⟨rfl,B⟩
 ·obtain ⟨J1,J2,J3,hJ,hlr⟩:=hyes rfl
  clear hyes
  go_wp2_with fail
  refine (M1.out _).mono ?_
  rintro e W12 ⟨rfl,hb12⟩
  replace A3:=A3.on hb12
  replace A5:=A5.on hb12
  replace A7:=A7.on hb12
  replace B:=bT B hb12
  clear hb12
  clear f3_0 f3_1 f3_2 f3_3 y3_0 y3_1 y3_2 y3_3 f5_0 f5_1 f5_2 f5_3 y5_0 y5_1 y5_2 y5_3 f7_0 f7_1 f7_2 f7_3 y7_0 y7_1 y7_2 y7_3
  obtain ⟨f3_0,f3_1,f3_2,f3_3,y3_0,y3_1,y3_2,y3_3⟩:=bx4 A3.x
  obtain ⟨f5_0,f5_1,f5_2,f5_3,y5_0,y5_1,y5_2,y5_3⟩:=bx4 A5.x
  obtain ⟨f7_0,f7_1,f7_2,f7_3,y7_0,y7_1,y7_2,y7_3⟩:=bx4 A7.x
  go_upto_region 12 with fail
  obtain ⟨W13,hW13⟩:∃ W:World,W = W12.alloc (.cells #[.float .f64 m.re.lo,.float .f64 m.re.hi,.float .f64 m.im.lo,.float .f64 m.im.hi] 65):=⟨_,rfl⟩
  rw [<- hW13]
  replace A3:HAt W13 (W3.heap.size) #[.float .f64 x.re.lo,.float .f64 x.re.hi,.float .f64 x.im.lo,.float .f64 x.im.hi] 65:=by rw [hW13]; exact A3.up
  replace A5:HAt W13 (W5.heap.size) #[.float .f64 y.re.lo,.float .f64 y.re.hi,.float .f64 y.im.lo,.float .f64 y.im.hi] 65:=by rw [hW13]; exact A5.up
  replace A7:HAt W13 (W7.heap.size) #[.float .f64 z.re.lo,.float .f64 z.re.hi,.float .f64 z.im.lo,.float .f64 z.im.hi] 65:=by rw [hW13]; exact A7.up
  have A10:HAt W13 (W12.heap.size) #[.float .f64 m.re.lo,.float .f64 m.re.hi,.float .f64 m.im.lo,.float .f64 m.im.hi] 65:=by rw [hW13]; exact (HAt.new sP)
  replace B:Below w.heap.size w W13:=by rw [hW13]; exact (bT B (below_alloc _ _))
  clear hW13
  clear f3_0 f3_1 f3_2 f3_3 y3_0 y3_1 y3_2 y3_3 f5_0 f5_1 f5_2 f5_3 y5_0 y5_1 y5_2 y5_3 f7_0 f7_1 f7_2 f7_3 y7_0 y7_1 y7_2 y7_3
  obtain ⟨f3_0,f3_1,f3_2,f3_3,y3_0,y3_1,y3_2,y3_3⟩:=bx4 A3.x
  obtain ⟨f5_0,f5_1,f5_2,f5_3,y5_0,y5_1,y5_2,y5_3⟩:=bx4 A5.x
  obtain ⟨f7_0,f7_1,f7_2,f7_3,y7_0,y7_1,y7_2,y7_3⟩:=bx4 A7.x
  obtain ⟨f10_0,f10_1,f10_2,f10_3,y10_0,y10_1,y10_2,y10_3⟩:=bx4 A10.x
  go_wp2_with fail
  refine (M2.out _).mono ?_
  rintro e W14 ⟨rfl,hb14⟩
  replace A3:=A3.on hb14
  replace A5:=A5.on hb14
  replace A7:=A7.on hb14
  replace A10:=A10.on hb14
  replace B:=bT B hb14
  clear hb14
  clear f3_0 f3_1 f3_2 f3_3 y3_0 y3_1 y3_2 y3_3 f5_0 f5_1 f5_2 f5_3 y5_0 y5_1 y5_2 y5_3 f7_0 f7_1 f7_2 f7_3 y7_0 y7_1 y7_2 y7_3 f10_0 f10_1 f10_2 f10_3 y10_0 y10_1 y10_2 y10_3
  obtain ⟨f3_0,f3_1,f3_2,f3_3,y3_0,y3_1,y3_2,y3_3⟩:=bx4 A3.x
  obtain ⟨f5_0,f5_1,f5_2,f5_3,y5_0,y5_1,y5_2,y5_3⟩:=bx4 A5.x
  obtain ⟨f7_0,f7_1,f7_2,f7_3,y7_0,y7_1,y7_2,y7_3⟩:=bx4 A7.x
  obtain ⟨f10_0,f10_1,f10_2,f10_3,y10_0,y10_1,y10_2,y10_3⟩:=bx4 A10.x
  go_upto_region 13 with fail
  obtain ⟨W15,hW15⟩:∃ W:World,W = W14.alloc (.cells #[.float .f64 n.re.lo,.float .f64 n.re.hi,.float .f64 n.im.lo,.float .f64 n.im.hi] 65):=⟨_,rfl⟩
  rw [<- hW15]
  replace A3:HAt W15 (W3.heap.size) #[.float .f64 x.re.lo,.float .f64 x.re.hi,.float .f64 x.im.lo,.float .f64 x.im.hi] 65:=by rw [hW15]; exact A3.up
  replace A5:HAt W15 (W5.heap.size) #[.float .f64 y.re.lo,.float .f64 y.re.hi,.float .f64 y.im.lo,.float .f64 y.im.hi] 65:=by rw [hW15]; exact A5.up
  replace A7:HAt W15 (W7.heap.size) #[.float .f64 z.re.lo,.float .f64 z.re.hi,.float .f64 z.im.lo,.float .f64 z.im.hi] 65:=by rw [hW15]; exact A7.up
  replace A10:HAt W15 (W12.heap.size) #[.float .f64 m.re.lo,.float .f64 m.re.hi,.float .f64 m.im.lo,.float .f64 m.im.hi] 65:=by rw [hW15]; exact A10.up
  have A11:HAt W15 (W14.heap.size) #[.float .f64 n.re.lo,.float .f64 n.re.hi,.float .f64 n.im.lo,.float .f64 n.im.hi] 65:=by rw [hW15]; exact (HAt.new sP)
  replace B:Below w.heap.size w W15:=by rw [hW15]; exact (bT B (below_alloc _ _))
  clear hW15
  clear f3_0 f3_1 f3_2 f3_3 y3_0 y3_1 y3_2 y3_3 f5_0 f5_1 f5_2 f5_3 y5_0 y5_1 y5_2 y5_3 f7_0 f7_1 f7_2 f7_3 y7_0 y7_1 y7_2 y7_3 f10_0 f10_1 f10_2 f10_3 y10_0 y10_1 y10_2 y10_3
  obtain ⟨f3_0,f3_1,f3_2,f3_3,y3_0,y3_1,y3_2,y3_3⟩:=bx4 A3.x
  obtain ⟨f5_0,f5_1,f5_2,f5_3,y5_0,y5_1,y5_2,y5_3⟩:=bx4 A5.x
  obtain ⟨f7_0,f7_1,f7_2,f7_3,y7_0,y7_1,y7_2,y7_3⟩:=bx4 A7.x
  obtain ⟨f10_0,f10_1,f10_2,f10_3,y10_0,y10_1,y10_2,y10_3⟩:=bx4 A10.x
  obtain ⟨f11_0,f11_1,f11_2,f11_3,y11_0,y11_1,y11_2,y11_3⟩:=bx4 A11.x
  go_wp2_with fail
  refine (S3.out _).mono ?_
  rintro e W16 ⟨rfl,hb16⟩
  replace A3:=A3.on hb16
  replace A5:=A5.on hb16
  replace A7:=A7.on hb16
  replace A10:=A10.on hb16
  replace A11:=A11.on hb16
  replace B:=bT B hb16
  clear hb16
  clear f3_0 f3_1 f3_2 f3_3 y3_0 y3_1 y3_2 y3_3 f5_0 f5_1 f5_2 f5_3 y5_0 y5_1 y5_2 y5_3 f7_0 f7_1 f7_2 f7_3 y7_0 y7_1 y7_2 y7_3 f10_0 f10_1 f10_2 f10_3 y10_0 y10_1 y10_2 y10_3 f11_0 f11_1 f11_2 f11_3 y11_0 y11_1 y11_2 y11_3
  obtain ⟨f3_0,f3_1,f3_2,f3_3,y3_0,y3_1,y3_2,y3_3⟩:=bx4 A3.x
  obtain ⟨f5_0,f5_1,f5_2,f5_3,y5_0,y5_1,y5_2,y5_3⟩:=bx4 A5.x
  obtain ⟨f7_0,f7_1,f7_2,f7_3,y7_0,y7_1,y7_2,y7_3⟩:=bx4 A7.x
  obtain ⟨f10_0,f10_1,f10_2,f10_3,y10_0,y10_1,y10_2,y10_3⟩:=bx4 A10.x
  obtain ⟨f11_0,f11_1,f11_2,f11_3,y11_0,y11_1,y11_2,y11_3⟩:=bx4 A11.x
  go_wp2_with fail
  refine (M3.out _).mono ?_
  rintro e W17 ⟨rfl,hb17⟩
  clear A11
  replace A3:=A3.on hb17
  replace A5:=A5.on hb17
  replace A7:=A7.on hb17
  replace A10:=A10.on hb17
  replace B:=bT B hb17
  clear hb17
  clear f3_0 f3_1 f3_2 f3_3 y3_0 y3_1 y3_2 y3_3 f5_0 f5_1 f5_2 f5_3 y5_0 y5_1 y5_2 y5_3 f7_0 f7_1 f7_2 f7_3 y7_0 y7_1 y7_2 y7_3 f10_0 f10_1 f10_2 f10_3 y10_0 y10_1 y10_2 y10_3 f11_0 f11_1 f11_2 f11_3 y11_0 y11_1 y11_2 y11_3
  obtain ⟨f3_0,f3_1,f3_2,f3_3,y3_0,y3_1,y3_2,y3_3⟩:=bx4 A3.x
  obtain ⟨f5_0,f5_1,f5_2,f5_3,y5_0,y5_1,y5_2,y5_3⟩:=bx4 A5.x
  obtain ⟨f7_0,f7_1,f7_2,f7_3,y7_0,y7_1,y7_2,y7_3⟩:=bx4 A7.x
  obtain ⟨f10_0,f10_1,f10_2,f10_3,y10_0,y10_1,y10_2,y10_3⟩:=bx4 A10.x
  go_upto_region 18 with fail
  obtain ⟨W18,hW18⟩:∃ W:World,W = W17.alloc (.cells #[.float .f64 l.re.lo,.float .f64 l.re.hi,.float .f64 l.im.lo,.float .f64 l.im.hi] 65):=⟨_,rfl⟩
  rw [<- hW18]
  replace A3:HAt W18 (W3.heap.size) #[.float .f64 x.re.lo,.float .f64 x.re.hi,.float .f64 x.im.lo,.float .f64 x.im.hi] 65:=by rw [hW18]; exact A3.up
  replace A5:HAt W18 (W5.heap.size) #[.float .f64 y.re.lo,.float .f64 y.re.hi,.float .f64 y.im.lo,.float .f64 y.im.hi] 65:=by rw [hW18]; exact A5.up
  replace A7:HAt W18 (W7.heap.size) #[.float .f64 z.re.lo,.float .f64 z.re.hi,.float .f64 z.im.lo,.float .f64 z.im.hi] 65:=by rw [hW18]; exact A7.up
  replace A10:HAt W18 (W12.heap.size) #[.float .f64 m.re.lo,.float .f64 m.re.hi,.float .f64 m.im.lo,.float .f64 m.im.hi] 65:=by rw [hW18]; exact A10.up
  have A12:HAt W18 (W17.heap.size) #[.float .f64 l.re.lo,.float .f64 l.re.hi,.float .f64 l.im.lo,.float .f64 l.im.hi] 65:=by rw [hW18]; exact (HAt.new sP)
  replace B:Below w.heap.size w W18:=by rw [hW18]; exact (bT B (below_alloc _ _))
  clear hW18
  clear f3_0 f3_1 f3_2 f3_3 y3_0 y3_1 y3_2 y3_3 f5_0 f5_1 f5_2 f5_3 y5_0 y5_1 y5_2 y5_3 f7_0 f7_1 f7_2 f7_3 y7_0 y7_1 y7_2 y7_3 f10_0 f10_1 f10_2 f10_3 y10_0 y10_1 y10_2 y10_3
  obtain ⟨f3_0,f3_1,f3_2,f3_3,y3_0,y3_1,y3_2,y3_3⟩:=bx4 A3.x
  obtain ⟨f5_0,f5_1,f5_2,f5_3,y5_0,y5_1,y5_2,y5_3⟩:=bx4 A5.x
  obtain ⟨f7_0,f7_1,f7_2,f7_3,y7_0,y7_1,y7_2,y7_3⟩:=bx4 A7.x
  obtain ⟨f10_0,f10_1,f10_2,f10_3,y10_0,y10_1,y10_2,y10_3⟩:=bx4 A10.x
  obtain ⟨f12_0,f12_1,f12_2,f12_3,y12_0,y12_1,y12_2,y12_3⟩:=bx4 A12.x
  go_wp2_with fail
  refine (M4.out _).mono ?_
  rintro e W19 ⟨rfl,hb19⟩
  replace A3:=A3.on hb19
  replace A5:=A5.on hb19
  replace A7:=A7.on hb19
  replace A10:=A10.on hb19
  replace A12:=A12.on hb19
  replace B:=bT B hb19
  clear hb19
  clear f3_0 f3_1 f3_2 f3_3 y3_0 y3_1 y3_2 y3_3 f5_0 f5_1 f5_2 f5_3 y5_0 y5_1 y5_2 y5_3 f7_0 f7_1 f7_2 f7_3 y7_0 y7_1 y7_2 y7_3 f10_0 f10_1 f10_2 f10_3 y10_0 y10_1 y10_2 y10_3 f12_0 f12_1 f12_2 f12_3 y12_0 y12_1 y12_2 y12_3
  obtain ⟨f3_0,f3_1,f3_2,f3_3,y3_0,y3_1,y3_2,y3_3⟩:=bx4 A3.x
  obtain ⟨f5_0,f5_1,f5_2,f5_3,y5_0,y5_1,y5_2,y5_3⟩:=bx4 A5.x
  obtain ⟨f7_0,f7_1,f7_2,f7_3,y7_0,y7_1,y7_2,y7_3⟩:=bx4 A7.x
  obtain ⟨f10_0,f10_1,f10_2,f10_3,y10_0,y10_1,y10_2,y10_3⟩:=bx4 A10.x
  obtain ⟨f12_0,f12_1,f12_2,f12_3,y12_0,y12_1,y12_2,y12_3⟩:=bx4 A12.x
  go_upto_region 19 with fail
  clear A7
  obtain ⟨W20,hW20⟩:∃ W:World,W = W19.alloc (.cells #[.float .f64 bc.re.lo,.float .f64 bc.re.hi,.float .f64 bc.im.lo,.float .f64 bc.im.hi] 65):=⟨_,rfl⟩
  rw [<- hW20]
  replace A3:HAt W20 (W3.heap.size) #[.float .f64 x.re.lo,.float .f64 x.re.hi,.float .f64 x.im.lo,.float .f64 x.im.hi] 65:=by rw [hW20]; exact A3.up
  replace A5:HAt W20 (W5.heap.size) #[.float .f64 y.re.lo,.float .f64 y.re.hi,.float .f64 y.im.lo,.float .f64 y.im.hi] 65:=by rw [hW20]; exact A5.up
  replace A10:HAt W20 (W12.heap.size) #[.float .f64 m.re.lo,.float .f64 m.re.hi,.float .f64 m.im.lo,.float .f64 m.im.hi] 65:=by rw [hW20]; exact A10.up
  replace A12:HAt W20 (W17.heap.size) #[.float .f64 l.re.lo,.float .f64 l.re.hi,.float .f64 l.im.lo,.float .f64 l.im.hi] 65:=by rw [hW20]; exact A12.up
  have A13:HAt W20 (W19.heap.size) #[.float .f64 bc.re.lo,.float .f64 bc.re.hi,.float .f64 bc.im.lo,.float .f64 bc.im.hi] 65:=by rw [hW20]; exact (HAt.new sP)
  replace B:Below w.heap.size w W20:=by rw [hW20]; exact (bT B (below_alloc _ _))
  clear hW20
  clear f3_0 f3_1 f3_2 f3_3 y3_0 y3_1 y3_2 y3_3 f5_0 f5_1 f5_2 f5_3 y5_0 y5_1 y5_2 y5_3 f7_0 f7_1 f7_2 f7_3 y7_0 y7_1 y7_2 y7_3 f10_0 f10_1 f10_2 f10_3 y10_0 y10_1 y10_2 y10_3 f12_0 f12_1 f12_2 f12_3 y12_0 y12_1 y12_2 y12_3
  obtain ⟨f3_0,f3_1,f3_2,f3_3,y3_0,y3_1,y3_2,y3_3⟩:=bx4 A3.x
  obtain ⟨f5_0,f5_1,f5_2,f5_3,y5_0,y5_1,y5_2,y5_3⟩:=bx4 A5.x
  obtain ⟨f10_0,f10_1,f10_2,f10_3,y10_0,y10_1,y10_2,y10_3⟩:=bx4 A10.x
  obtain ⟨f12_0,f12_1,f12_2,f12_3,y12_0,y12_1,y12_2,y12_3⟩:=bx4 A12.x
  obtain ⟨f13_0,f13_1,f13_2,f13_3,y13_0,y13_1,y13_2,y13_3⟩:=bx4 A13.x
  go_wp2_with fail
  refine (M5.out _).mono ?_
  rintro e W21 ⟨rfl,hb21⟩
  replace A3:=A3.on hb21
  replace A5:=A5.on hb21
  replace A10:=A10.on hb21
  replace A12:=A12.on hb21
  replace A13:=A13.on hb21
  replace B:=bT B hb21
  clear hb21
  clear f3_0 f3_1 f3_2 f3_3 y3_0 y3_1 y3_2 y3_3 f5_0 f5_1 f5_2 f5_3 y5_0 y5_1 y5_2 y5_3 f10_0 f10_1 f10_2 f10_3 y10_0 y10_1 y10_2 y10_3 f12_0 f12_1 f12_2 f12_3 y12_0 y12_1 y12_2 y12_3 f13_0 f13_1 f13_2 f13_3 y13_0 y13_1 y13_2 y13_3
  obtain ⟨f3_0,f3_1,f3_2,f3_3,y3_0,y3_1,y3_2,y3_3⟩:=bx4 A3.x
  obtain ⟨f5_0,f5_1,f5_2,f5_3,y5_0,y5_1,y5_2,y5_3⟩:=bx4 A5.x
  obtain ⟨f10_0,f10_1,f10_2,f10_3,y10_0,y10_1,y10_2,y10_3⟩:=bx4 A10.x
  obtain ⟨f12_0,f12_1,f12_2,f12_3,y12_0,y12_1,y12_2,y12_3⟩:=bx4 A12.x
  obtain ⟨f13_0,f13_1,f13_2,f13_3,y13_0,y13_1,y13_2,y13_3⟩:=bx4 A13.x
  cases some
  ·obtain rfl:left = false:=hlr
   go_upto_region 20 with fail
   clear A13
   obtain ⟨W22,hW22⟩:∃ W:World,W = W21.alloc (.cells #[.float .f64 r.re.lo,.float .f64 r.re.hi,.float .f64 r.im.lo,.float .f64 r.im.hi] 65):=⟨_,rfl⟩
   rw [<- hW22]
   replace A3:HAt W22 (W3.heap.size) #[.float .f64 x.re.lo,.float .f64 x.re.hi,.float .f64 x.im.lo,.float .f64 x.im.hi] 65:=by rw [hW22]; exact A3.up
   replace A5:HAt W22 (W5.heap.size) #[.float .f64 y.re.lo,.float .f64 y.re.hi,.float .f64 y.im.lo,.float .f64 y.im.hi] 65:=by rw [hW22]; exact A5.up
   replace A10:HAt W22 (W12.heap.size) #[.float .f64 m.re.lo,.float .f64 m.re.hi,.float .f64 m.im.lo,.float .f64 m.im.hi] 65:=by rw [hW22]; exact A10.up
   replace A12:HAt W22 (W17.heap.size) #[.float .f64 l.re.lo,.float .f64 l.re.hi,.float .f64 l.im.lo,.float .f64 l.im.hi] 65:=by rw [hW22]; exact A12.up
   have A14:HAt W22 (W21.heap.size) #[.float .f64 r.re.lo,.float .f64 r.re.hi,.float .f64 r.im.lo,.float .f64 r.im.hi] 65:=by rw [hW22]; exact (HAt.new sP)
   replace B:Below w.heap.size w W22:=by rw [hW22]; exact (bT B (below_alloc _ _))
   clear hW22
   clear f3_0 f3_1 f3_2 f3_3 y3_0 y3_1 y3_2 y3_3 f5_0 f5_1 f5_2 f5_3 y5_0 y5_1 y5_2 y5_3 f10_0 f10_1 f10_2 f10_3 y10_0 y10_1 y10_2 y10_3 f12_0 f12_1 f12_2 f12_3 y12_0 y12_1 y12_2 y12_3 f13_0 f13_1 f13_2 f13_3 y13_0 y13_1 y13_2 y13_3
   refine region_litA (.val (kIs (.agg #[.float .f64 m.re.lo,.float .f64 m.re.hi,.float .f64 m.im.lo,.float .f64 m.im.hi])) :: .val (kIs (.agg #[.float .f64 x.re.lo,.float .f64 x.re.hi,.float .f64 x.im.lo,.float .f64 x.im.hi])) :: .val (kIs (.bool true)) :: .val (kIs (.bool true)) :: .val (kIs (.agg #[.float .f64 m.re.lo,.float .f64 m.re.hi,.float .f64 m.im.lo,.float .f64 m.im.hi])) :: .val (kIs (.agg #[.float .f64 y.re.lo,.float .f64 y.re.hi,.float .f64 y.im.lo,.float .f64 y.im.hi])) :: .val (kIs (.bool true)) :: .val (kIs (.bool true)) :: .val (kIs (.bool true)) :: .val (kIs (.agg #[.float .f64 x.re.lo,.float .f64 x.re.hi,.float .f64 x.im.lo,.float .f64 x.im.hi])) :: .val (kIs (.agg #[.float .f64 m.re.lo,.float .f64 m.re.hi,.float .f64 m.im.lo,.float .f64 m.im.hi])) :: .val (kIs (.agg #[.float .f64 hm.re.lo,.float .f64 hm.re.hi,.float .f64 hm.im.lo,.float .f64 hm.im.hi])) :: .val (kIs (.agg #[.float .f64 x.re.lo,.float .f64 x.re.hi,.float .f64 x.im.lo,.float .f64 x.im.hi])) :: .val (kIs (.bool true)) :: .val (kIs (.bool true)) :: .val (kIs (.bool true)) :: .val (kIs (.bool false)) :: .val (kIs (.bool false)) :: .val (kIs (.bool false)) :: .val (kIs (undef)) :: .val (kIs (.bool false)) :: .val (kIs (.bool true)) :: .val (kIs (.bool true)) :: .val (kIs (.bool true)) :: .val (kIs (.bool false)) :: .val (kIs (.bool true)) :: .val (kIs (.bool true)) :: .val (kIs (undef)) :: .val (kIs (undef)) :: .val (kIs (undef)) :: .val (kIs (.bool true)) :: .val (kIs (.bool true)) :: .val (kIs (.bool true)) :: [])
    ?fl2 ?hfl2 kR kR kR kR kR ⟨si,si,si,si,si,si,si,si,si,si,si,si,si,si,si,si,si,si,si,si,si,si,si,si,si,si,si,si,si,si,si,si,si,trivial⟩ sP ⟨obN (uLr rfl .fr (fun W hb=>A10.ld hb) Tryz.underlying65),obN (uLr rfl .fr (fun W hb=>A3.ld hb) Tryz.underlying65),obN (uC2 rfl (.is 0) (.is 1) (fun _ W hb _=>cIs (J1.out W))),obN (uMv 2),obG 3 (uLr rfl .fr (fun W hb=>A10.ld hb) Tryz.underlying65),obG 3 (uLr rfl .fr (fun W hb=>A5.ld hb) Tryz.underlying65),obG 3 (uC2 rfl (.is 4) (.is 5) (fun _ W hb _=>cIs (J2.out W))),obN (uPt rfl (.is 3) (.is 6)),obN (uMv 7),obG 8 (uLr rfl .fr (fun W hb=>A3.ld hb) Tryz.underlying65),obG 8 (uLr rfl .fr (fun W hb=>A10.ld hb) Tryz.underlying65),obG 8 (uC2 rfl (.is 9) (.is 10) (fun _ W hb _=>cIs (H6.out W))),obG 8 (uLr rfl .fr (fun W hb=>A3.ld hb) Tryz.underlying65),obG 8 (uC2 rfl (.is 11) (.is 12) (fun _ W hb _=>cIs (J3.out W))),obN (uPt rfl (.is 8) (.is 13)),obN (uMv 14),obG 15 (uMf rfl .fr),obG 15 (uMf rfl .fr),obG 15 (uMv 17),obZ 18,obG 15 (uPf rfl (.is 18) .k),obG 15 (uBn rfl (.is 16) (.is 20) (fun w=>sG)),obN (uPt rfl (.is 15) (.is 21)),obN (uMv 22),obG 23 (uMf rfl .fr),obG 23 (uN1 rfl (.is 24)),obG 23 (uMv 25),obZ 26,obZ 26,obZ 26,obG 23 (uPt rfl (.is 26) .k),obN (uPt rfl (.is 23) (.is 30)),obN (uAs 31),trivial⟩ ?_
   case hfl2=>intro ts; simp only [fillT,zA,Nat.reduceAdd,sA,sB,sC]; rfl
   intro ts W23 hb23 hh hap
   have e32:=held_is (hh 32 sP) rfl
   simp only [e32]
   clear hh hap e32
   clear A3 A5 A10 A12 A14
   replace B:=bT B hb23
   clear hb23
   go_wp2
   go_ret
   exact ⟨rfl,B⟩
  ·cases right
   ·obtain rfl:left = false:=hlr
    go_upto_region 20 with fail
    clear A13
    obtain ⟨W22,hW22⟩:∃ W:World,W = W21.alloc (.cells #[.float .f64 r.re.lo,.float .f64 r.re.hi,.float .f64 r.im.lo,.float .f64 r.im.hi] 65):=⟨_,rfl⟩
    rw [<- hW22]
    replace A3:HAt W22 (W3.heap.size) #[.float .f64 x.re.lo,.float .f64 x.re.hi,.float .f64 x.im.lo,.float .f64 x.im.hi] 65:=by rw [hW22]; exact A3.up
    replace A5:HAt W22 (W5.heap.size) #[.float .f64 y.re.lo,.float .f64 y.re.hi,.float .f64 y.im.lo,.float .f64 y.im.hi] 65:=by rw [hW22]; exact A5.up
    replace A10:HAt W22 (W12.heap.size) #[.float .f64 m.re.lo,.float .f64 m.re.hi,.float .f64 m.im.lo,.float .f64 m.im.hi] 65:=by rw [hW22]; exact A10.up
    replace A12:HAt W22 (W17.heap.size) #[.float .f64 l.re.lo,.float .f64 l.re.hi,.float .f64 l.im.lo,.float .f64 l.im.hi] 65:=by rw [hW22]; exact A12.up
    have A14:HAt W22 (W21.heap.size) #[.float .f64 r.re.lo,.float .f64 r.re.hi,.float .f64 r.im.lo,.float .f64 r.im.hi] 65:=by rw [hW22]; exact (HAt.new sP)
    replace B:Below w.heap.size w W22:=by rw [hW22]; exact (bT B (below_alloc _ _))
    clear hW22
    clear f3_0 f3_1 f3_2 f3_3 y3_0 y3_1 y3_2 y3_3 f5_0 f5_1 f5_2 f5_3 y5_0 y5_1 y5_2 y5_3 f10_0 f10_1 f10_2 f10_3 y10_0 y10_1 y10_2 y10_3 f12_0 f12_1 f12_2 f12_3 y12_0 y12_1 y12_2 y12_3 f13_0 f13_1 f13_2 f13_3 y13_0 y13_1 y13_2 y13_3
    refine region_litA (.val (kIs (.agg #[.float .f64 m.re.lo,.float .f64 m.re.hi,.float .f64 m.im.lo,.float .f64 m.im.hi])) :: .val (kIs (.agg #[.float .f64 x.re.lo,.float .f64 x.re.hi,.float .f64 x.im.lo,.float .f64 x.im.hi])) :: .val (kIs (.bool true)) :: .val (kIs (.bool true)) :: .val (kIs (.agg #[.float .f64 m.re.lo,.float .f64 m.re.hi,.float .f64 m.im.lo,.float .f64 m.im.hi])) :: .val (kIs (.agg #[.float .f64 y.re.lo,.float .f64 y.re.hi,.float .f64 y.im.lo,.float .f64 y.im.hi])) :: .val (kIs (.bool true)) :: .val (kIs (.bool true)) :: .val (kIs (.bool true)) :: .val (kIs (.agg #[.float .f64 x.re.lo,.float .f64 x.re.hi,.float .f64 x.im.lo,.float .f64 x.im.hi])) :: .val (kIs (.agg #[.float .f64 m.re.lo,.float .f64 m.re.hi,.float .f64 m.im.lo,.float .f64 m.im.hi])) :: .val (kIs (.agg #[.float .f64 hm.re.lo,.float .f64 hm.re.hi,.float .f64 hm.im.lo,.float .f64 hm.im.hi])) :: .val (kIs (.agg #[.float .f64 x.re.lo,.float .f64 x.re.hi,.float .f64 x.im.lo,.float .f64 x.im.hi])) :: .val (kIs (.bool true)) :: .val (kIs (.bool true)) :: .val (kIs (.bool true)) :: .val (kIs (.bool false)) :: .val (kIs (.bool true)) :: .val (kIs (.bool true)) :: .val (kIs (.bool false)) :: .val (kIs (.bool false)) :: .val (kIs (.bool true)) :: .val (kIs (.bool true)) :: .val (kIs (.bool true)) :: .val (kIs (.bool false)) :: .val (kIs (.bool true)) :: .val (kIs (.bool true)) :: .val (kIs (undef)) :: .val (kIs (undef)) :: .val (kIs (undef)) :: .val (kIs (.bool true)) :: .val (kIs (.bool true)) :: .val (kIs (.bool true)) :: [])
     ?fl3 ?hfl3 kR kR kR kR kR ⟨si,si,si,si,si,si,si,si,si,si,si,si,si,si,si,si,si,si,si,si,si,si,si,si,si,si,si,si,si,si,si,si,si,trivial⟩ sP ⟨obN (uLr rfl .fr (fun W hb=>A10.ld hb) Tryz.underlying65),obN (uLr rfl .fr (fun W hb=>A3.ld hb) Tryz.underlying65),obN (uC2 rfl (.is 0) (.is 1) (fun _ W hb _=>cIs (J1.out W))),obN (uMv 2),obG 3 (uLr rfl .fr (fun W hb=>A10.ld hb) Tryz.underlying65),obG 3 (uLr rfl .fr (fun W hb=>A5.ld hb) Tryz.underlying65),obG 3 (uC2 rfl (.is 4) (.is 5) (fun _ W hb _=>cIs (J2.out W))),obN (uPt rfl (.is 3) (.is 6)),obN (uMv 7),obG 8 (uLr rfl .fr (fun W hb=>A3.ld hb) Tryz.underlying65),obG 8 (uLr rfl .fr (fun W hb=>A10.ld hb) Tryz.underlying65),obG 8 (uC2 rfl (.is 9) (.is 10) (fun _ W hb _=>cIs (H6.out W))),obG 8 (uLr rfl .fr (fun W hb=>A3.ld hb) Tryz.underlying65),obG 8 (uC2 rfl (.is 11) (.is 12) (fun _ W hb _=>cIs (J3.out W))),obN (uPt rfl (.is 8) (.is 13)),obN (uMv 14),obG 15 (uMf rfl .fr),obG 15 (uMf rfl .fr),obG 15 (uMv 17),obG 18 (uMf rfl .fr),obG 15 (uPt rfl (.is 18) (.is 19)),obG 15 (uBn rfl (.is 16) (.is 20) (fun w=>sG)),obN (uPt rfl (.is 15) (.is 21)),obN (uMv 22),obG 23 (uMf rfl .fr),obG 23 (uN1 rfl (.is 24)),obG 23 (uMv 25),obZ 26,obZ 26,obZ 26,obG 23 (uPt rfl (.is 26) .k),obN (uPt rfl (.is 23) (.is 30)),obN (uAs 31),trivial⟩ ?_
    case hfl3=>intro ts; simp only [fillT,zA,Nat.reduceAdd,sA,sB,sC]; rfl
    intro ts W23 hb23 hh hap
    have e32:=held_is (hh 32 sP) rfl
    simp only [e32]
    clear hh hap e32
    clear A3 A5 A10 A12 A14
    replace B:=bT B hb23
    clear hb23
    go_wp2
    go_ret
    exact ⟨rfl,B⟩
   ·obtain rfl:left = true:=hlr
    have J4:=hJ rfl
    go_upto_region 20 with fail
    clear A13
    obtain ⟨W22,hW22⟩:∃ W:World,W = W21.alloc (.cells #[.float .f64 r.re.lo,.float .f64 r.re.hi,.float .f64 r.im.lo,.float .f64 r.im.hi] 65):=⟨_,rfl⟩
    rw [<- hW22]
    replace A3:HAt W22 (W3.heap.size) #[.float .f64 x.re.lo,.float .f64 x.re.hi,.float .f64 x.im.lo,.float .f64 x.im.hi] 65:=by rw [hW22]; exact A3.up
    replace A5:HAt W22 (W5.heap.size) #[.float .f64 y.re.lo,.float .f64 y.re.hi,.float .f64 y.im.lo,.float .f64 y.im.hi] 65:=by rw [hW22]; exact A5.up
    replace A10:HAt W22 (W12.heap.size) #[.float .f64 m.re.lo,.float .f64 m.re.hi,.float .f64 m.im.lo,.float .f64 m.im.hi] 65:=by rw [hW22]; exact A10.up
    replace A12:HAt W22 (W17.heap.size) #[.float .f64 l.re.lo,.float .f64 l.re.hi,.float .f64 l.im.lo,.float .f64 l.im.hi] 65:=by rw [hW22]; exact A12.up
    have A14:HAt W22 (W21.heap.size) #[.float .f64 r.re.lo,.float .f64 r.re.hi,.float .f64 r.im.lo,.float .f64 r.im.hi] 65:=by rw [hW22]; exact (HAt.new sP)
    replace B:Below w.heap.size w W22:=by rw [hW22]; exact (bT B (below_alloc _ _))
    clear hW22
    clear f3_0 f3_1 f3_2 f3_3 y3_0 y3_1 y3_2 y3_3 f5_0 f5_1 f5_2 f5_3 y5_0 y5_1 y5_2 y5_3 f10_0 f10_1 f10_2 f10_3 y10_0 y10_1 y10_2 y10_3 f12_0 f12_1 f12_2 f12_3 y12_0 y12_1 y12_2 y12_3 f13_0 f13_1 f13_2 f13_3 y13_0 y13_1 y13_2 y13_3
    refine region_litA (.val (kIs (.agg #[.float .f64 m.re.lo,.float .f64 m.re.hi,.float .f64 m.im.lo,.float .f64 m.im.hi])) :: .val (kIs (.agg #[.float .f64 x.re.lo,.float .f64 x.re.hi,.float .f64 x.im.lo,.float .f64 x.im.hi])) :: .val (kIs (.bool true)) :: .val (kIs (.bool true)) :: .val (kIs (.agg #[.float .f64 m.re.lo,.float .f64 m.re.hi,.float .f64 m.im.lo,.float .f64 m.im.hi])) :: .val (kIs (.agg #[.float .f64 y.re.lo,.float .f64 y.re.hi,.float .f64 y.im.lo,.float .f64 y.im.hi])) :: .val (kIs (.bool true)) :: .val (kIs (.bool true)) :: .val (kIs (.bool true)) :: .val (kIs (.agg #[.float .f64 x.re.lo,.float .f64 x.re.hi,.float .f64 x.im.lo,.float .f64 x.im.hi])) :: .val (kIs (.agg #[.float .f64 m.re.lo,.float .f64 m.re.hi,.float .f64 m.im.lo,.float .f64 m.im.hi])) :: .val (kIs (.agg #[.float .f64 hm.re.lo,.float .f64 hm.re.hi,.float .f64 hm.im.lo,.float .f64 hm.im.hi])) :: .val (kIs (.agg #[.float .f64 x.re.lo,.float .f64 x.re.hi,.float .f64 x.im.lo,.float .f64 x.im.hi])) :: .val (kIs (.bool true)) :: .val (kIs (.bool true)) :: .val (kIs (.bool true)) :: .val (kIs (.bool true)) :: .val (kIs (.bool true)) :: .val (kIs (.bool true)) :: .val (kIs (.bool true)) :: .val (kIs (.bool true)) :: .val (kIs (.bool true)) :: .val (kIs (.bool true)) :: .val (kIs (.bool true)) :: .val (kIs (.bool true)) :: .val (kIs (.bool false)) :: .val (kIs (.bool false)) :: .val (kIs (.agg #[.float .f64 l.re.lo,.float .f64 l.re.hi,.float .f64 l.im.lo,.float .f64 l.im.hi])) :: .val (kIs (.agg #[.float .f64 r.re.lo,.float .f64 r.re.hi,.float .f64 r.im.lo,.float .f64 r.im.hi])) :: .val (kIs (.bool true)) :: .val (kIs (.bool true)) :: .val (kIs (.bool true)) :: .val (kIs (.bool true)) :: [])
     ?fl4 ?hfl4 kR kR kR kR kR ⟨si,si,si,si,si,si,si,si,si,si,si,si,si,si,si,si,si,si,si,si,si,si,si,si,si,si,si,si,si,si,si,si,si,trivial⟩ sP ⟨obN (uLr rfl .fr (fun W hb=>A10.ld hb) Tryz.underlying65),obN (uLr rfl .fr (fun W hb=>A3.ld hb) Tryz.underlying65),obN (uC2 rfl (.is 0) (.is 1) (fun _ W hb _=>cIs (J1.out W))),obN (uMv 2),obG 3 (uLr rfl .fr (fun W hb=>A10.ld hb) Tryz.underlying65),obG 3 (uLr rfl .fr (fun W hb=>A5.ld hb) Tryz.underlying65),obG 3 (uC2 rfl (.is 4) (.is 5) (fun _ W hb _=>cIs (J2.out W))),obN (uPt rfl (.is 3) (.is 6)),obN (uMv 7),obG 8 (uLr rfl .fr (fun W hb=>A3.ld hb) Tryz.underlying65),obG 8 (uLr rfl .fr (fun W hb=>A10.ld hb) Tryz.underlying65),obG 8 (uC2 rfl (.is 9) (.is 10) (fun _ W hb _=>cIs (H6.out W))),obG 8 (uLr rfl .fr (fun W hb=>A3.ld hb) Tryz.underlying65),obG 8 (uC2 rfl (.is 11) (.is 12) (fun _ W hb _=>cIs (J3.out W))),obN (uPt rfl (.is 8) (.is 13)),obN (uMv 14),obG 15 (uMf rfl .fr),obG 15 (uMf rfl .fr),obG 15 (uMv 17),obG 18 (uMf rfl .fr),obG 15 (uPt rfl (.is 18) (.is 19)),obG 15 (uBn rfl (.is 16) (.is 20) (fun w=>sG)),obN (uPt rfl (.is 15) (.is 21)),obN (uMv 22),obG 23 (uMf rfl .fr),obG 23 (uN0 rfl (.is 24)),obG 23 (uMv 25),obG 26 (uLr rfl .fr (fun W hb=>A12.ld hb) Tryz.underlying65),obG 26 (uLr rfl .fr (fun W hb=>A14.ld hb) Tryz.underlying65),obG 26 (uC2 rfl (.is 27) (.is 28) (fun _ W hb _=>cIs (J4.out W))),obG 23 (uPf rfl (.is 26) (.is 29)),obN (uPt rfl (.is 23) (.is 30)),obN (uAs 31),trivial⟩ ?_
    case hfl4=>intro ts; simp only [fillT,zA,Nat.reduceAdd,sA,sB,sC]; rfl
    intro ts W23 hb23 hh hap
    have e32:=held_is (hh 32 sP) rfl
    simp only [e32]
    clear hh hap e32
    clear A3 A5 A10 A12 A14
    replace B:=bT B hb23
    clear hb23
    go_wp2
    go_ret
    exact ⟨rfl,B⟩
theorem boxLattice_walk (w:World) (a0 a1 a2 a3 b0 b1 b2 b3 c0 c1 c2 c3:Nat) (ha0:a0 < 18446744073709551616) (ha1:a1 < 18446744073709551616) (ha2:a2 < 18446744073709551616) (ha3:a3 < 18446744073709551616) (hb0:b0 < 18446744073709551616) (hb1:b1 < 18446744073709551616) (hb2:b2 < 18446744073709551616) (hb3:b3 < 18446744073709551616) (hc0:c0 < 18446744073709551616) (hc1:c1 < 18446744073709551616) (hc2:c2 < 18446744073709551616) (hc3:c3 < 18446744073709551616) (hT:Tab w) (hT6:Tab64 w) :
  Calls Tryz.prog 9 #[.agg #[.int .u64 (a0:Int),.int .u64 (a1:Int),.int .u64 (a2:Int),.int .u64 (a3:Int)],.agg #[.int .u64 (b0:Int),.int .u64 (b1:Int),.int .u64 (b2:Int),.int .u64 (b3:Int)],.agg #[.int .u64 (c0:Int),.int .u64 (c1:Int),.int .u64 (c2:Int),.int .u64 (c3:Int)]] w fun e w'=>e = .returned (.bool true) /\ Below w.heap.size w w':=by
 have HX:=fun W=>both_any a0 a1 a2 a3 W
 have HY:=fun W=>both_any b0 b1 b2 b3 W
 have HZ:=fun W=>both_any c0 c1 c2 c3 W
 have hx:=bx_fine ha0 ha1 ha2 ha3
 have hy:=bx_fine hb0 hb1 hb2 hb3
 have hz:=bx_fine hc0 hc1 hc2 hc3
 generalize bxOf a0 a1 a2 a3 = x at *
 generalize bxOf b0 b1 b2 b3 = y at *
 generalize bxOf c0 c1 c2 c3 = z at *
 cases h1:bxB a0 a1 a2 a3
 ·rw [h1] at HX
  exact boxLattice_0 _ _ _ _ _ _ _ _ _ _ _ _ x y z _ _ (hid HX) (hid HY) (hid HZ) w hT hT6
 ·rw [h1] at HX
  cases h2:bxB b0 b1 b2 b3
  ·rw [h2] at HY
   exact boxLattice_1 _ _ _ _ _ _ _ _ _ _ _ _ x y z _ (hid HX) (hid HY) (hid HZ) w hT hT6
  ·rw [h2] at HY
   cases h3:bxB c0 c1 c2 c3
   ·rw [h3] at HZ
    exact boxLattice_2 _ _ _ _ _ _ _ _ _ _ _ _ x y z (hid HX) (hid HY) (hid HZ) w hT hT6
   ·rw [h3] at HZ
    have hh:=hx.hull hy
    have hyz:=hy.hull hz
    have hm:=hx.meet hy
    have hbc:=hy.meet hz
    have S1:=fun W=>sameB_any (x.hull y) (y.hull x) W
    rw [Bx.hull_comm hx hy] at S1
    have S2:=fun W=>sameB_any ((x.hull y).hull z) (x.hull (y.hull z)) W
    rw [Bx.hull_assoc hx hy hz] at S2
    have I1:=fun W=>inB_any x (x.hull y) W
    rw [(Bx.in_hull hx hy).1] at I1
    have I2:=fun W=>inB_any y (x.hull y) W
    rw [(Bx.in_hull hx hy).2] at I2
    have M2:=fun W=>meetB_any y x hy hx W
    rw [<- Bx.meets_comm hx hy] at M2
    have S3:=fun W=>sameB_any (x.meet y) (y.meet x) W
    rw [Bx.meet_comm hx hy] at S3
    refine boxLattice_core _ _ _ _ _ _ _ _ _ _ _ _ x y z (x.hull y) (y.hull x) ((x.hull y).hull z) (y.hull z) (x.hull (y.hull z)) (x.meet y) (y.meet x) ((x.meet y).meet z) (y.meet z) (x.meet (y.meet z)) (x.hull (x.meet y)) (x.meets y) ((x.meet y).meets z) (y.meets z) (x.meets (y.meet z)) (hid HX) (hid HY) (hid HZ) (hid fun W=>hullB_any x y hx hy W) (hid fun W=>hullB_any y x hy hx W) (hid S1) (hid fun W=>hullB_any (x.hull y) z hh hz W) (hid fun W=>hullB_any y z hy hz W) (hid fun W=>hullB_any x (y.hull z) hx hyz W) (hid S2) (hid I1) (hid I2) (hid fun W=>meetB_any x y hx hy W) (hid M2) (hid S3) (hid fun W=>meetB_any (x.meet y) z hm hz W) (hid fun W=>meetB_any y z hy hz W) (hid fun W=>meetB_any x (y.meet z) hx hbc W) (hid fun W=>hullB_any x (x.meet y) hx hm W) (fun h=>?_) w hT hT6
    obtain ⟨k1,k2,k3⟩:=Bx.meet_in hx hy h
    have J1:=fun W=>inB_any (x.meet y) x W
    rw [k1] at J1
    have J2:=fun W=>inB_any (x.meet y) y W
    rw [k2] at J2
    have J3:=fun W=>sameB_any (x.hull (x.meet y)) x W
    rw [k3] at J3
    refine ⟨hid J1,hid J2,hid J3,fun hl=>?_,?_⟩
    ·have J4:=fun W=>sameB_any ((x.meet y).meet z) (x.meet (y.meet z)) W
     rw [(Bx.meet_left hx hy hz h hl).2.2] at J4
     exact hid J4
    ·cases hl:(x.meet y).meets z
     ·cases hk:y.meets z
      ·rfl
      ·rw [Bx.meet_right hx hy hz h hl hk]; rfl
     ·obtain ⟨e1,e2,-⟩:=Bx.meet_left hx hy hz h hl
      rw [e1,e2]; rfl
end Go.Proofs.YtjodlmanheeajaaGreatDoor
