import Derived.Test.YtjodlmanheeajaaGreatDoorR15
import Derived.Test.YtjodlmanheeajaaGreatDoorU01
import Derived.Test.YtjodlmanheeajaaGreatDoorR19
import Derived.Test.YtjodlmanheeajaaGreatDoorR24
import Derived.Test.YtjodlmanheeajaaGreatDoorU02
import Derived.Test.YtjodlmanheeajaaGreatDoorR37
import Derived.Test.YtjodlmanheeajaaGreatDoorR44
import Derived.Test.YtjodlmanheeajaaGreatDoorU06
import Derived.Test.YtjodlmanheeajaaGreatDoorU04
import Derived.Test.YtjodlmanheeajaaGreatDoorR02
set_option linter.unusedVariables false
set_option linter.unusedSimpArgs false
set_option maxRecDepth 100000
set_option maxHeartbeats 8000000
namespace Go.Proofs.YtjodlmanheeajaaGreatDoor
open Go.RowKit
theorem sz_of {p q r:Int} (hp:-9223372036854775808 <= p) (hp':p < 9223372036854775808) (hq:-9223372036854775808 <= q) (hq':q < 9223372036854775808) (hr:-9223372036854775808 <= r) (hr':r < 9223372036854775808):Sz (ofR p q r) 2:=by
 unfold ofR Cx.ratio
 obtain ⟨d,hd⟩:∃ d:Int,d = if r = 0 then 1 else r:=⟨_,rfl⟩
 rw [<- hd]
 have h0:d ≠ 0:=by rw [hd]; split <;> omega
 have h1:-9223372036854775808 <= d /\ d < 9223372036854775808:=by rw [hd]; split <;> omega
 clear hd
 have w1:=wl_i64 hp hp'
 have w2:=wl_i64 hq hq'
 have w3:=wl_i64 h1.1 h1.2
 refine Sz.of (d:=d.natAbs) oM (ratio_terms h0) (ratio_terms h0) ?_ ?_ w3
 ·split
  ·rw [Int.natAbs_neg]; exact w1
  ·exact w1
 ·split
  ·rw [Int.natAbs_neg]; exact w2
  ·exact w2
theorem beqC {T:TypeId} {x y:Operand} (p q r s:Nat) (w:World):(do eqGuard .eql T x y (.complex .f64 p q) (.complex .f64 r s); binOp .eql 89 (.complex .f64 p q) (.complex .f64 r s):Sem Value).run Tryz.prog w = .ok (.bool (eqb p r && eqb q s)) w:=by
 simp [go_sem]
 rfl
theorem lo_pt (b:Bx):∀ W,Calls Tryz.prog 50 #[b.v] W fun e w'=>e = .returned (.complex .f64 b.re.lo b.im.lo) /\ Below W.heap.size W w':=fun W=>lo_any _ _ _ _ W
theorem hi_pt (b:Bx):∀ W,Calls Tryz.prog 51 #[b.v] W fun e w'=>e = .returned (.complex .f64 b.re.hi b.im.hi) /\ Below W.heap.size W w':=fun W=>hi_any _ _ _ _ W
theorem in_meets {b c:Bx} (hb:b.Ok) (hc:c.Ok) (h:b.within c = true):b.meets c = true:=by
 have key:∀ {s t:Sp},s.Ok -> t.Ok -> s.within t = true -> s.meets t = true:=fun {s t} hs ht h=>by
  rw [Sp.within_eq hs ht] at h
  have h1:=of_decide_eq_true h
  rw [Sp.meets_eq hs ht]
  have:=hs.le
  exact decide_eq_true oM
 unfold Bx.within at h
 rw [Bool.and_eq_true] at h
 unfold Bx.meets
 rw [key hb.re hc.re h.1,key hb.im hc.im h.2]
 rfl
theorem boxPoints_0 (w:World) (a0 a1 a2 a3:Nat) (p q r:Int) (b:Bx) (HX:Hid (Gv 23 #[.agg #[.int .u64 (a0:Int),.int .u64 (a1:Int),.int .u64 (a2:Int),.int .u64 (a3:Int)]] (.tuple #[.agg #[.float .f64 b.re.lo,.float .f64 b.re.hi,.float .f64 b.im.lo,.float .f64 b.im.hi],.agg #[.float .f64 b.re.lo,.float .f64 b.re.hi,.float .f64 b.im.lo,.float .f64 b.im.hi],.bool false]))) (hT:Tab w) (hT6:Tab64 w):Calls Tryz.prog 8 #[.agg #[.int .u64 (a0:Int),.int .u64 (a1:Int),.int .u64 (a2:Int),.int .u64 (a3:Int)],.agg #[.int .i64 p,.int .i64 q,.int .i64 r]] w fun e w'=>e = .returned (.bool true) /\ Below w.heap.size w w':=by
 have hfb:=floatbits_run
 have hsf:=store_float
 have HT:=hid hT
 have HT6:=hid hT6
 clear hT hT6
 go_enter Tryz.func8,Tryz.ntmps8
 go_wp2_with fail
 obtain ⟨W1,hW1⟩:∃ W:World,W = (w.alloc (.cells #[.int .u64 (a0:Int),.int .u64 (a1:Int),.int .u64 (a2:Int),.int .u64 (a3:Int)] 63)).alloc (.cells #[.int .i64 p,.int .i64 q,.int .i64 r] 40):=⟨_,rfl⟩
 rw [<- hW1]
 have A0:HAt W1 (w.heap.size) #[.int .u64 (a0:Int),.int .u64 (a1:Int),.int .u64 (a2:Int),.int .u64 (a3:Int)] 63:=by rw [hW1]; exact (HAt.new sP).up
 have B:Below w.heap.size w W1:=by rw [hW1]; exact (bT (bT (Below.refl w.heap.size w) (below_alloc _ _)) (below_alloc _ _))
 clear hW1
 refine (awake2K_1 _ (HT.out.below B) (HT6.out.below B)).mono ?_
 rintro e W2 ⟨rfl,hb2⟩
 replace A0:=A0.on hb2
 replace B:=bT B hb2
 clear hb2
 obtain ⟨f0_0,f0_1,f0_2,f0_3,y0_0,y0_1,y0_2,y0_3⟩:=bx4 A0.x
 go_wp2_with fail
 refine (HX.out _).mono ?_
 rintro e W3 ⟨rfl,hb3⟩
 replace A0:=A0.on hb3
 replace B:=bT B hb3
 clear hb3
 clear f0_0 f0_1 f0_2 f0_3 y0_0 y0_1 y0_2 y0_3
 obtain ⟨f0_0,f0_1,f0_2,f0_3,y0_0,y0_1,y0_2,y0_3⟩:=bx4 A0.x
 go_wp2
 go_ret
 exact ⟨rfl,(bT (bT B (below_alloc _ _)) (below_alloc _ _))⟩
theorem boxPoints_no (w:World) (a0 a1 a2 a3:Nat) (p q r:Int) (x y:Cx) (b o m:Bx) (n1 n2:Nat) (ck:Int) (e:Bool) (mt:Bool) (he:(eqb o.re.lo o.re.hi && eqb o.im.lo o.im.hi) = e) (HX:Hid (Gv 23 #[.agg #[.int .u64 (a0:Int),.int .u64 (a1:Int),.int .u64 (a2:Int),.int .u64 (a3:Int)]] (.tuple #[.agg #[.float .f64 b.re.lo,.float .f64 b.re.hi,.float .f64 b.im.lo,.float .f64 b.im.hi],.agg #[.float .f64 b.re.lo,.float .f64 b.re.hi,.float .f64 b.im.lo,.float .f64 b.im.hi],.bool true]))) (HF:Hid (∀ W,Below w.heap.size w W -> Calls Tryz.prog 17 #[.agg #[.int .i64 p,.int .i64 q,.int .i64 r]] W (RetNum W x))) (HO:Hid (∀ W,Below w.heap.size w W -> ∀ v,IsNum W v x -> Calls Tryz.prog 27 #[.agg #[.float .f64 b.re.lo,.float .f64 b.re.hi,.float .f64 b.im.lo,.float .f64 b.im.hi], v] W fun e w'=>e = .returned (.agg #[.float .f64 o.re.lo,.float .f64 o.re.hi,.float .f64 o.im.lo,.float .f64 o.im.hi]) /\ Below W.heap.size W w')) (HM:Hid (Gv 24 #[.agg #[.float .f64 o.re.lo,.float .f64 o.re.hi,.float .f64 o.im.lo,.float .f64 o.im.hi],.agg #[.float .f64 b.re.lo,.float .f64 b.re.hi,.float .f64 b.im.lo,.float .f64 b.im.hi]] (.tuple #[.agg #[.float .f64 m.re.lo,.float .f64 m.re.hi,.float .f64 m.im.lo,.float .f64 m.im.hi],.bool mt]))) (HN:Hid (∀ W,Below w.heap.size w W -> ∀ v,IsNum W v x -> Calls Tryz.prog 49 #[ v] W fun e w'=>e = .returned (.complex .f64 n1 n2) /\ Below W.heap.size W w')) (HC:Hid (∀ W,Below w.heap.size w W -> Calls Tryz.prog 48 #[.complex .f64 n1 n2] W (RetNumE W y ck))) (H1:Hid (∀ W,Below w.heap.size w W -> ∀ v,IsNum W v x -> Calls Tryz.prog 29 #[.agg #[.float .f64 o.re.lo,.float .f64 o.re.hi,.float .f64 o.im.lo,.float .f64 o.im.hi], v] W fun e w'=>e = .returned (.bool true) /\ Below W.heap.size W w')) (H2:Hid (∀ W,Below w.heap.size w W -> ∀ v,IsNum W v x -> Calls Tryz.prog 29 #[.agg #[.float .f64 b.re.lo,.float .f64 b.re.hi,.float .f64 b.im.lo,.float .f64 b.im.hi], v] W fun e w'=>e = .returned (.bool false) /\ Below W.heap.size W w')) (HL:Hid (Gv 50 #[.agg #[.float .f64 o.re.lo,.float .f64 o.re.hi,.float .f64 o.im.lo,.float .f64 o.im.hi]] (.complex .f64 o.re.lo o.im.lo))) (HH:Hid (Gv 51 #[.agg #[.float .f64 o.re.lo,.float .f64 o.re.hi,.float .f64 o.im.lo,.float .f64 o.im.hi]] (.complex .f64 o.re.hi o.im.hi))) (HS:Hid (∀ W,Below w.heap.size w W -> ∀ u,IsNum W u y -> ∀ v,IsNum W v x -> Calls Tryz.prog 52 #[u,v] W fun e' w'=>e' = .returned (.bool e) /\ Below W.heap.size W w')) (HI:Hid (Gv 31 #[.agg #[.float .f64 o.re.lo,.float .f64 o.re.hi,.float .f64 o.im.lo,.float .f64 o.im.hi],.agg #[.float .f64 b.re.lo,.float .f64 b.re.hi,.float .f64 b.im.lo,.float .f64 b.im.hi]] (.bool false))) (hT:Tab w) (hT6:Tab64 w):Calls Tryz.prog 8 #[.agg #[.int .u64 (a0:Int),.int .u64 (a1:Int),.int .u64 (a2:Int),.int .u64 (a3:Int)],.agg #[.int .i64 p,.int .i64 q,.int .i64 r]] w fun e w'=>e = .returned (.bool true) /\ Below w.heap.size w w':=by
 have hfb:=floatbits_run
 have hsf:=store_float
 have HT:=hid hT
 have HT6:=hid hT6
 clear hT hT6
 go_enter Tryz.func8,Tryz.ntmps8
 go_wp2_with fail
 obtain ⟨W1,hW1⟩:∃ W:World,W = (w.alloc (.cells #[.int .u64 (a0:Int),.int .u64 (a1:Int),.int .u64 (a2:Int),.int .u64 (a3:Int)] 63)).alloc (.cells #[.int .i64 p,.int .i64 q,.int .i64 r] 40):=⟨_,rfl⟩
 rw [<- hW1]
 have A0:HAt W1 (w.heap.size) #[.int .u64 (a0:Int),.int .u64 (a1:Int),.int .u64 (a2:Int),.int .u64 (a3:Int)] 63:=by rw [hW1]; exact (HAt.new sP).up
 have A1:HAt W1 (w.heap.size + 1) #[.int .i64 p,.int .i64 q,.int .i64 r] 40:=by rw [hW1]; exact (HAt.new sP)
 have B:Below w.heap.size w W1:=by rw [hW1]; exact (bT (bT (Below.refl w.heap.size w) (below_alloc _ _)) (below_alloc _ _))
 clear hW1
 refine (awake2K_1 _ (HT.out.below B) (HT6.out.below B)).mono ?_
 rintro e W2 ⟨rfl,hb2⟩
 replace A0:=A0.on hb2
 replace A1:=A1.on hb2
 replace B:=bT B hb2
 clear hb2
 obtain ⟨f0_0,f0_1,f0_2,f0_3,y0_0,y0_1,y0_2,y0_3⟩:=bx4 A0.x
 obtain ⟨f1_0,f1_1,f1_2,y1_0,y1_1,y1_2⟩:=bx3 A1.x
 go_wp2_with fail
 refine (HX.out _).mono ?_
 rintro e W3 ⟨rfl,hb3⟩
 replace A0:=A0.on hb3
 replace A1:=A1.on hb3
 replace B:=bT B hb3
 clear hb3
 clear f0_0 f0_1 f0_2 f0_3 y0_0 y0_1 y0_2 y0_3 f1_0 f1_1 f1_2 y1_0 y1_1 y1_2
 obtain ⟨f0_0,f0_1,f0_2,f0_3,y0_0,y0_1,y0_2,y0_3⟩:=bx4 A0.x
 obtain ⟨f1_0,f1_1,f1_2,y1_0,y1_1,y1_2⟩:=bx3 A1.x
 go_upto_region 6 with fail
 clear A0
 obtain ⟨W4,hW4⟩:∃ W:World,W = (W3.alloc (.cells #[.float .f64 b.re.lo,.float .f64 b.re.hi,.float .f64 b.im.lo,.float .f64 b.im.hi] 65)).alloc (.cells #[.float .f64 b.re.lo,.float .f64 b.re.hi,.float .f64 b.im.lo,.float .f64 b.im.hi] 67):=⟨_,rfl⟩
 rw [<- hW4]
 replace A1:HAt W4 (w.heap.size + 1) #[.int .i64 p,.int .i64 q,.int .i64 r] 40:=by rw [hW4]; exact A1.up.up
 have A2:HAt W4 (W3.heap.size) #[.float .f64 b.re.lo,.float .f64 b.re.hi,.float .f64 b.im.lo,.float .f64 b.im.hi] 65:=by rw [hW4]; exact (HAt.new sP).up
 replace B:Below w.heap.size w W4:=by rw [hW4]; exact (bT (bT B (below_alloc _ _)) (below_alloc _ _))
 clear hW4
 clear f0_0 f0_1 f0_2 f0_3 y0_0 y0_1 y0_2 y0_3 f1_0 f1_1 f1_2 y1_0 y1_1 y1_2
 obtain ⟨f1_0,f1_1,f1_2,y1_0,y1_1,y1_2⟩:=bx3 A1.x
 obtain ⟨f2_0,f2_1,f2_2,f2_3,y2_0,y2_1,y2_2,y2_3⟩:=bx4 A2.x
 go_wp2_with fail
 refine (HF.out _ B).mono ?_
 rintro e W5 ⟨v1,rfl,N1,hb5⟩
 obtain ⟨P1,p1,c1,s1,Q1,q1,d1,t1,R1,r1,e1,ia1,ib1,id1,rfl,-⟩:=N1.parts
 replace A1:=A1.on hb5
 replace A2:=A2.on hb5
 replace B:=bT B hb5
 clear hb5
 clear f1_0 f1_1 f1_2 y1_0 y1_1 y1_2 f2_0 f2_1 f2_2 f2_3 y2_0 y2_1 y2_2 y2_3
 obtain ⟨f1_0,f1_1,f1_2,y1_0,y1_1,y1_2⟩:=bx3 A1.x
 obtain ⟨f2_0,f2_1,f2_2,f2_3,y2_0,y2_1,y2_2,y2_3⟩:=bx4 A2.x
 go_upto_region 7 with fail
 clear A1
 obtain ⟨W6,hW6⟩:∃ W:World,W = W5.alloc (.cells #[.slice P1 p1 c1,.bool s1,.slice Q1 q1 d1,.bool t1,.slice R1 r1 e1] 49):=⟨_,rfl⟩
 rw [<- hW6]
 replace A2:HAt W6 (W3.heap.size) #[.float .f64 b.re.lo,.float .f64 b.re.hi,.float .f64 b.im.lo,.float .f64 b.im.hi] 65:=by rw [hW6]; exact A2.up
 have A4:HAt W6 (W5.heap.size) #[.slice P1 p1 c1,.bool s1,.slice Q1 q1 d1,.bool t1,.slice R1 r1 e1] 49:=by rw [hW6]; exact (HAt.new sP)
 replace B:Below w.heap.size w W6:=by rw [hW6]; exact (bT B (below_alloc _ _))
 replace N1:IsNum W6 (.agg #[.slice P1 p1 c1,.bool s1,.slice Q1 q1 d1,.bool t1,.slice R1 r1 e1]) x:=by rw [hW6]; exact (N1.below (below_alloc _ _))
 clear hW6
 clear f1_0 f1_1 f1_2 y1_0 y1_1 y1_2 f2_0 f2_1 f2_2 f2_3 y2_0 y2_1 y2_2 y2_3
 obtain ⟨f2_0,f2_1,f2_2,f2_3,y2_0,y2_1,y2_2,y2_3⟩:=bx4 A2.x
 obtain ⟨f4_0,f4_1,f4_2,f4_3,f4_4,y4_0,y4_1,y4_2,y4_3,y4_4⟩:=bx5 A4.x
 go_wp2_with fail
 refine (HO.out _ B _ N1).mono ?_
 rintro e W7 ⟨rfl,hb7⟩
 replace A2:=A2.on hb7
 replace A4:=A4.on hb7
 replace N1:=N1.below hb7
 replace B:=bT B hb7
 clear hb7
 clear f2_0 f2_1 f2_2 f2_3 y2_0 y2_1 y2_2 y2_3 f4_0 f4_1 f4_2 f4_3 f4_4 y4_0 y4_1 y4_2 y4_3 y4_4
 obtain ⟨f2_0,f2_1,f2_2,f2_3,y2_0,y2_1,y2_2,y2_3⟩:=bx4 A2.x
 obtain ⟨f4_0,f4_1,f4_2,f4_3,f4_4,y4_0,y4_1,y4_2,y4_3,y4_4⟩:=bx5 A4.x
 go_upto_region 8 with fail
 obtain ⟨W8,hW8⟩:∃ W:World,W = W7.alloc (.cells #[.float .f64 o.re.lo,.float .f64 o.re.hi,.float .f64 o.im.lo,.float .f64 o.im.hi] 65):=⟨_,rfl⟩
 rw [<- hW8]
 replace A2:HAt W8 (W3.heap.size) #[.float .f64 b.re.lo,.float .f64 b.re.hi,.float .f64 b.im.lo,.float .f64 b.im.hi] 65:=by rw [hW8]; exact A2.up
 replace A4:HAt W8 (W5.heap.size) #[.slice P1 p1 c1,.bool s1,.slice Q1 q1 d1,.bool t1,.slice R1 r1 e1] 49:=by rw [hW8]; exact A4.up
 have A5:HAt W8 (W7.heap.size) #[.float .f64 o.re.lo,.float .f64 o.re.hi,.float .f64 o.im.lo,.float .f64 o.im.hi] 65:=by rw [hW8]; exact (HAt.new sP)
 replace B:Below w.heap.size w W8:=by rw [hW8]; exact (bT B (below_alloc _ _))
 replace N1:IsNum W8 (.agg #[.slice P1 p1 c1,.bool s1,.slice Q1 q1 d1,.bool t1,.slice R1 r1 e1]) x:=by rw [hW8]; exact (N1.below (below_alloc _ _))
 clear hW8
 clear f2_0 f2_1 f2_2 f2_3 y2_0 y2_1 y2_2 y2_3 f4_0 f4_1 f4_2 f4_3 f4_4 y4_0 y4_1 y4_2 y4_3 y4_4
 obtain ⟨f2_0,f2_1,f2_2,f2_3,y2_0,y2_1,y2_2,y2_3⟩:=bx4 A2.x
 obtain ⟨f4_0,f4_1,f4_2,f4_3,f4_4,y4_0,y4_1,y4_2,y4_3,y4_4⟩:=bx5 A4.x
 obtain ⟨f5_0,f5_1,f5_2,f5_3,y5_0,y5_1,y5_2,y5_3⟩:=bx4 A5.x
 go_wp2_with fail
 refine (HM.out _).mono ?_
 rintro e W9 ⟨rfl,hb9⟩
 replace A2:=A2.on hb9
 replace A4:=A4.on hb9
 replace A5:=A5.on hb9
 replace N1:=N1.below hb9
 replace B:=bT B hb9
 clear hb9
 clear f2_0 f2_1 f2_2 f2_3 y2_0 y2_1 y2_2 y2_3 f4_0 f4_1 f4_2 f4_3 f4_4 y4_0 y4_1 y4_2 y4_3 y4_4 f5_0 f5_1 f5_2 f5_3 y5_0 y5_1 y5_2 y5_3
 obtain ⟨f2_0,f2_1,f2_2,f2_3,y2_0,y2_1,y2_2,y2_3⟩:=bx4 A2.x
 obtain ⟨f4_0,f4_1,f4_2,f4_3,f4_4,y4_0,y4_1,y4_2,y4_3,y4_4⟩:=bx5 A4.x
 obtain ⟨f5_0,f5_1,f5_2,f5_3,y5_0,y5_1,y5_2,y5_3⟩:=bx4 A5.x
 go_upto_region 9 with fail
 obtain ⟨W10,hW10⟩:∃ W:World,W = W9.alloc (.cells #[.float .f64 m.re.lo,.float .f64 m.re.hi,.float .f64 m.im.lo,.float .f64 m.im.hi] 65):=⟨_,rfl⟩
 rw [<- hW10]
 replace A2:HAt W10 (W3.heap.size) #[.float .f64 b.re.lo,.float .f64 b.re.hi,.float .f64 b.im.lo,.float .f64 b.im.hi] 65:=by rw [hW10]; exact A2.up
 replace A4:HAt W10 (W5.heap.size) #[.slice P1 p1 c1,.bool s1,.slice Q1 q1 d1,.bool t1,.slice R1 r1 e1] 49:=by rw [hW10]; exact A4.up
 replace A5:HAt W10 (W7.heap.size) #[.float .f64 o.re.lo,.float .f64 o.re.hi,.float .f64 o.im.lo,.float .f64 o.im.hi] 65:=by rw [hW10]; exact A5.up
 replace B:Below w.heap.size w W10:=by rw [hW10]; exact (bT B (below_alloc _ _))
 replace N1:IsNum W10 (.agg #[.slice P1 p1 c1,.bool s1,.slice Q1 q1 d1,.bool t1,.slice R1 r1 e1]) x:=by rw [hW10]; exact (N1.below (below_alloc _ _))
 clear hW10
 clear f2_0 f2_1 f2_2 f2_3 y2_0 y2_1 y2_2 y2_3 f4_0 f4_1 f4_2 f4_3 f4_4 y4_0 y4_1 y4_2 y4_3 y4_4 f5_0 f5_1 f5_2 f5_3 y5_0 y5_1 y5_2 y5_3
 obtain ⟨f2_0,f2_1,f2_2,f2_3,y2_0,y2_1,y2_2,y2_3⟩:=bx4 A2.x
 obtain ⟨f4_0,f4_1,f4_2,f4_3,f4_4,y4_0,y4_1,y4_2,y4_3,y4_4⟩:=bx5 A4.x
 obtain ⟨f5_0,f5_1,f5_2,f5_3,y5_0,y5_1,y5_2,y5_3⟩:=bx4 A5.x
 go_wp2_with fail
 refine (HN.out _ B _ N1).mono ?_
 rintro e W11 ⟨rfl,hb11⟩
 replace A2:=A2.on hb11
 replace A4:=A4.on hb11
 replace A5:=A5.on hb11
 replace N1:=N1.below hb11
 replace B:=bT B hb11
 clear hb11
 clear f2_0 f2_1 f2_2 f2_3 y2_0 y2_1 y2_2 y2_3 f4_0 f4_1 f4_2 f4_3 f4_4 y4_0 y4_1 y4_2 y4_3 y4_4 f5_0 f5_1 f5_2 f5_3 y5_0 y5_1 y5_2 y5_3
 obtain ⟨f2_0,f2_1,f2_2,f2_3,y2_0,y2_1,y2_2,y2_3⟩:=bx4 A2.x
 obtain ⟨f4_0,f4_1,f4_2,f4_3,f4_4,y4_0,y4_1,y4_2,y4_3,y4_4⟩:=bx5 A4.x
 obtain ⟨f5_0,f5_1,f5_2,f5_3,y5_0,y5_1,y5_2,y5_3⟩:=bx4 A5.x
 go_wp2_with fail
 refine (HC.out _ B).mono ?_
 rintro e W12 ⟨v2,rfl,N2,hb12⟩
 obtain ⟨P2,p2,c2,s2,Q2,q2,d2,t2,R2,r2,e2,ia2,ib2,id2,rfl,-⟩:=N2.parts
 replace A2:=A2.on hb12
 replace A4:=A4.on hb12
 replace A5:=A5.on hb12
 replace N1:=N1.below hb12
 replace B:=bT B hb12
 clear hb12
 clear f2_0 f2_1 f2_2 f2_3 y2_0 y2_1 y2_2 y2_3 f4_0 f4_1 f4_2 f4_3 f4_4 y4_0 y4_1 y4_2 y4_3 y4_4 f5_0 f5_1 f5_2 f5_3 y5_0 y5_1 y5_2 y5_3
 obtain ⟨f2_0,f2_1,f2_2,f2_3,y2_0,y2_1,y2_2,y2_3⟩:=bx4 A2.x
 obtain ⟨f4_0,f4_1,f4_2,f4_3,f4_4,y4_0,y4_1,y4_2,y4_3,y4_4⟩:=bx5 A4.x
 obtain ⟨f5_0,f5_1,f5_2,f5_3,y5_0,y5_1,y5_2,y5_3⟩:=bx4 A5.x
 go_upto_region 10 with fail
 obtain ⟨W13,hW13⟩:∃ W:World,W = W12.alloc (.cells #[.slice P2 p2 c2,.bool s2,.slice Q2 q2 d2,.bool t2,.slice R2 r2 e2] 49):=⟨_,rfl⟩
 rw [<- hW13]
 replace A2:HAt W13 (W3.heap.size) #[.float .f64 b.re.lo,.float .f64 b.re.hi,.float .f64 b.im.lo,.float .f64 b.im.hi] 65:=by rw [hW13]; exact A2.up
 replace A4:HAt W13 (W5.heap.size) #[.slice P1 p1 c1,.bool s1,.slice Q1 q1 d1,.bool t1,.slice R1 r1 e1] 49:=by rw [hW13]; exact A4.up
 replace A5:HAt W13 (W7.heap.size) #[.float .f64 o.re.lo,.float .f64 o.re.hi,.float .f64 o.im.lo,.float .f64 o.im.hi] 65:=by rw [hW13]; exact A5.up
 have A7:HAt W13 (W12.heap.size) #[.slice P2 p2 c2,.bool s2,.slice Q2 q2 d2,.bool t2,.slice R2 r2 e2] 49:=by rw [hW13]; exact (HAt.new sP)
 replace B:Below w.heap.size w W13:=by rw [hW13]; exact (bT B (below_alloc _ _))
 replace N1:IsNum W13 (.agg #[.slice P1 p1 c1,.bool s1,.slice Q1 q1 d1,.bool t1,.slice R1 r1 e1]) x:=by rw [hW13]; exact (N1.below (below_alloc _ _))
 replace N2:IsNum W13 (.agg #[.slice P2 p2 c2,.bool s2,.slice Q2 q2 d2,.bool t2,.slice R2 r2 e2]) y:=by rw [hW13]; exact (N2.below (below_alloc _ _))
 clear hW13
 clear f2_0 f2_1 f2_2 f2_3 y2_0 y2_1 y2_2 y2_3 f4_0 f4_1 f4_2 f4_3 f4_4 y4_0 y4_1 y4_2 y4_3 y4_4 f5_0 f5_1 f5_2 f5_3 y5_0 y5_1 y5_2 y5_3
 refine region_litA (.val (kIs (.agg #[.float .f64 o.re.lo,.float .f64 o.re.hi,.float .f64 o.im.lo,.float .f64 o.im.hi])) :: .val (kIs (.agg #[.slice P1 p1 c1,.bool s1,.slice Q1 q1 d1,.bool t1,.slice R1 r1 e1])) :: .val (kIs (.bool true)) :: .val (kIs (.bool true)) :: .val (kIs (.agg #[.float .f64 o.re.lo,.float .f64 o.re.hi,.float .f64 o.im.lo,.float .f64 o.im.hi])) :: .val (kIs (.complex .f64 o.re.lo o.im.lo)) :: .val (kIs (.agg #[.float .f64 o.re.lo,.float .f64 o.re.hi,.float .f64 o.im.lo,.float .f64 o.im.hi])) :: .val (kIs (.complex .f64 o.re.hi o.im.hi)) :: .val (kIs (.bool e)) :: .val (kIs (.agg #[.slice P2 p2 c2,.bool s2,.slice Q2 q2 d2,.bool t2,.slice R2 r2 e2])) :: .val (kIs (.agg #[.slice P1 p1 c1,.bool s1,.slice Q1 q1 d1,.bool t1,.slice R1 r1 e1])) :: .val (kIs (.bool e)) :: .val (kIs (.bool true)) :: .val (kIs (.bool true)) :: .val (kIs (.bool true)) :: .val (kIs (.agg #[.float .f64 o.re.lo,.float .f64 o.re.hi,.float .f64 o.im.lo,.float .f64 o.im.hi])) :: .val (kIs (.agg #[.float .f64 b.re.lo,.float .f64 b.re.hi,.float .f64 b.im.lo,.float .f64 b.im.hi])) :: .val (kIs (.bool false)) :: .val (kIs (.bool true)) :: .val (kIs (.bool true)) :: .val (kIs (undef)) :: .val (kIs (undef)) :: .val (kIs (undef)) :: .val (kIs (.bool true)) :: .val (kIs (.bool true)) :: .val (kIs (.bool true)) :: .val (kIs (.agg #[.float .f64 b.re.lo,.float .f64 b.re.hi,.float .f64 b.im.lo,.float .f64 b.im.hi])) :: .val (kIs (.agg #[.slice P1 p1 c1,.bool s1,.slice Q1 q1 d1,.bool t1,.slice R1 r1 e1])) :: .val (kIs (.bool false)) :: .val (kIs (.bool true)) :: .val (kIs (.bool true)) :: .val (kIs (undef)) :: .val (kIs (.bool true)) :: .val (kIs (.bool true)) :: .val (kIs (.bool true)) :: [])
  ?fl1 ?hfl1 kR kR kR kR kR ⟨si,si,si,si,si,si,si,si,si,si,si,si,si,si,si,si,si,si,si,si,si,si,si,si,si,si,si,si,si,si,si,si,si,si,si,trivial⟩ sP ⟨obN (uLr rfl .fr (fun W hb=>A5.ld hb) Tryz.underlying65),obN (uLr rfl .fr (fun W hb=>A4.ld hb) Tryz.underlying49),obN (uC2 rfl (.is 0) (.is 1) (fun _ W hb h=>cIs (H1.out W (bT B hb) _ (N1.below hb)))),obN (uMv 2),obG 3 (uLr rfl .fr (fun W hb=>A5.ld hb) Tryz.underlying65),obG 3 (uC1 rfl (.is 4) (fun _ W hb h=>cIs (HL.out W))),obG 3 (uLr rfl .fr (fun W hb=>A5.ld hb) Tryz.underlying65),obG 3 (uC1 rfl (.is 6) (fun _ W hb h=>cIs (HH.out W))),obG 3 (uBn rfl (.is 5) (.is 7) (fun w=>(beqC _ _ _ _ w).trans (by rw [he]))),obG 3 (uLr rfl .fr (fun W hb=>A7.ld hb) Tryz.underlying49),obG 3 (uLr rfl .fr (fun W hb=>A4.ld hb) Tryz.underlying49),obG 3 (uC2 rfl (.is 9) (.is 10) (fun _ W hb h=>cIs (HS.out W (bT B hb) _ (N2.below hb) _ (N1.below hb)))),obG 3 (uBn rfl (.is 8) (.is 11) (fun w=>sG)),obN (uPt rfl (.is 3) (.is 12)),obN (uMv 13),obG 14 (uLr rfl .fr (fun W hb=>A5.ld hb) Tryz.underlying65),obG 14 (uLr rfl .fr (fun W hb=>A2.ld hb) Tryz.underlying65),obG 14 (uC2 rfl (.is 15) (.is 16) (fun _ W hb h=>cIs (HI.out W))),obG 14 (uN1 rfl (.is 17)),obG 14 (uMv 18),obZ 19,obZ 19,obZ 19,obG 14 (uPt rfl (.is 19) .k),obN (uPt rfl (.is 14) (.is 23)),obN (uMv 24),obG 25 (uLr rfl .fr (fun W hb=>A2.ld hb) Tryz.underlying65),obG 25 (uLr rfl .fr (fun W hb=>A4.ld hb) Tryz.underlying49),obG 25 (uC2 rfl (.is 26) (.is 27) (fun _ W hb h=>cIs (H2.out W (bT B hb) _ (N1.below hb)))),obG 25 (uN1 rfl (.is 28)),obG 25 (uMv 29),obZ 30,obG 25 (uPt rfl (.is 30) .k),obN (uPt rfl (.is 25) (.is 32)),obN (uAs 33),trivial⟩ ?_
 case hfl1=>intro ts; simp only [fillT,zA,Nat.reduceAdd,sA,sB,sC]; rfl
 intro ts W14 hb14 hh hap
 have e34:=held_is (hh 34 sP) rfl
 simp only [e34]
 clear hh hap e34
 clear A2 A4 A5 A7
 replace N1:=N1.below hb14
 replace N2:=N2.below hb14
 replace B:=bT B hb14
 clear hb14
 go_wp2
 go_ret
 exact ⟨rfl,B⟩
theorem boxPoints_yes (w:World) (a0 a1 a2 a3:Nat) (p q r:Int) (x y:Cx) (b o m:Bx) (n1 n2:Nat) (ck:Int) (e:Bool) (he:(eqb o.re.lo o.re.hi && eqb o.im.lo o.im.hi) = e) (HX:Hid (Gv 23 #[.agg #[.int .u64 (a0:Int),.int .u64 (a1:Int),.int .u64 (a2:Int),.int .u64 (a3:Int)]] (.tuple #[.agg #[.float .f64 b.re.lo,.float .f64 b.re.hi,.float .f64 b.im.lo,.float .f64 b.im.hi],.agg #[.float .f64 b.re.lo,.float .f64 b.re.hi,.float .f64 b.im.lo,.float .f64 b.im.hi],.bool true]))) (HF:Hid (∀ W,Below w.heap.size w W -> Calls Tryz.prog 17 #[.agg #[.int .i64 p,.int .i64 q,.int .i64 r]] W (RetNum W x))) (HO:Hid (∀ W,Below w.heap.size w W -> ∀ v,IsNum W v x -> Calls Tryz.prog 27 #[.agg #[.float .f64 b.re.lo,.float .f64 b.re.hi,.float .f64 b.im.lo,.float .f64 b.im.hi], v] W fun e w'=>e = .returned (.agg #[.float .f64 o.re.lo,.float .f64 o.re.hi,.float .f64 o.im.lo,.float .f64 o.im.hi]) /\ Below W.heap.size W w')) (HM:Hid (Gv 24 #[.agg #[.float .f64 o.re.lo,.float .f64 o.re.hi,.float .f64 o.im.lo,.float .f64 o.im.hi],.agg #[.float .f64 b.re.lo,.float .f64 b.re.hi,.float .f64 b.im.lo,.float .f64 b.im.hi]] (.tuple #[.agg #[.float .f64 m.re.lo,.float .f64 m.re.hi,.float .f64 m.im.lo,.float .f64 m.im.hi],.bool true]))) (HN:Hid (∀ W,Below w.heap.size w W -> ∀ v,IsNum W v x -> Calls Tryz.prog 49 #[ v] W fun e w'=>e = .returned (.complex .f64 n1 n2) /\ Below W.heap.size W w')) (HC:Hid (∀ W,Below w.heap.size w W -> Calls Tryz.prog 48 #[.complex .f64 n1 n2] W (RetNumE W y ck))) (H1:Hid (∀ W,Below w.heap.size w W -> ∀ v,IsNum W v x -> Calls Tryz.prog 29 #[.agg #[.float .f64 o.re.lo,.float .f64 o.re.hi,.float .f64 o.im.lo,.float .f64 o.im.hi], v] W fun e w'=>e = .returned (.bool true) /\ Below W.heap.size W w')) (H2:Hid (∀ W,Below w.heap.size w W -> ∀ v,IsNum W v x -> Calls Tryz.prog 29 #[.agg #[.float .f64 b.re.lo,.float .f64 b.re.hi,.float .f64 b.im.lo,.float .f64 b.im.hi], v] W fun e w'=>e = .returned (.bool true) /\ Below W.heap.size W w')) (HL:Hid (Gv 50 #[.agg #[.float .f64 o.re.lo,.float .f64 o.re.hi,.float .f64 o.im.lo,.float .f64 o.im.hi]] (.complex .f64 o.re.lo o.im.lo))) (HH:Hid (Gv 51 #[.agg #[.float .f64 o.re.lo,.float .f64 o.re.hi,.float .f64 o.im.lo,.float .f64 o.im.hi]] (.complex .f64 o.re.hi o.im.hi))) (HS:Hid (∀ W,Below w.heap.size w W -> ∀ u,IsNum W u y -> ∀ v,IsNum W v x -> Calls Tryz.prog 52 #[u,v] W fun e' w'=>e' = .returned (.bool e) /\ Below W.heap.size W w')) (HI:Hid (Gv 31 #[.agg #[.float .f64 o.re.lo,.float .f64 o.re.hi,.float .f64 o.im.lo,.float .f64 o.im.hi],.agg #[.float .f64 b.re.lo,.float .f64 b.re.hi,.float .f64 b.im.lo,.float .f64 b.im.hi]] (.bool true))) (hT:Tab w) (hT6:Tab64 w):Calls Tryz.prog 8 #[.agg #[.int .u64 (a0:Int),.int .u64 (a1:Int),.int .u64 (a2:Int),.int .u64 (a3:Int)],.agg #[.int .i64 p,.int .i64 q,.int .i64 r]] w fun e w'=>e = .returned (.bool true) /\ Below w.heap.size w w':=by
 have hfb:=floatbits_run
 have hsf:=store_float
 have HT:=hid hT
 have HT6:=hid hT6
 clear hT hT6
 go_enter Tryz.func8,Tryz.ntmps8
 go_wp2_with fail
 obtain ⟨W1,hW1⟩:∃ W:World,W = (w.alloc (.cells #[.int .u64 (a0:Int),.int .u64 (a1:Int),.int .u64 (a2:Int),.int .u64 (a3:Int)] 63)).alloc (.cells #[.int .i64 p,.int .i64 q,.int .i64 r] 40):=⟨_,rfl⟩
 rw [<- hW1]
 have A0:HAt W1 (w.heap.size) #[.int .u64 (a0:Int),.int .u64 (a1:Int),.int .u64 (a2:Int),.int .u64 (a3:Int)] 63:=by rw [hW1]; exact (HAt.new sP).up
 have A1:HAt W1 (w.heap.size + 1) #[.int .i64 p,.int .i64 q,.int .i64 r] 40:=by rw [hW1]; exact (HAt.new sP)
 have B:Below w.heap.size w W1:=by rw [hW1]; exact (bT (bT (Below.refl w.heap.size w) (below_alloc _ _)) (below_alloc _ _))
 clear hW1
 refine (awake2K_1 _ (HT.out.below B) (HT6.out.below B)).mono ?_
 rintro e W2 ⟨rfl,hb2⟩
 replace A0:=A0.on hb2
 replace A1:=A1.on hb2
 replace B:=bT B hb2
 clear hb2
 obtain ⟨f0_0,f0_1,f0_2,f0_3,y0_0,y0_1,y0_2,y0_3⟩:=bx4 A0.x
 obtain ⟨f1_0,f1_1,f1_2,y1_0,y1_1,y1_2⟩:=bx3 A1.x
 go_wp2_with fail
 refine (HX.out _).mono ?_
 rintro e W3 ⟨rfl,hb3⟩
 replace A0:=A0.on hb3
 replace A1:=A1.on hb3
 replace B:=bT B hb3
 clear hb3
 clear f0_0 f0_1 f0_2 f0_3 y0_0 y0_1 y0_2 y0_3 f1_0 f1_1 f1_2 y1_0 y1_1 y1_2
 obtain ⟨f0_0,f0_1,f0_2,f0_3,y0_0,y0_1,y0_2,y0_3⟩:=bx4 A0.x
 obtain ⟨f1_0,f1_1,f1_2,y1_0,y1_1,y1_2⟩:=bx3 A1.x
 go_upto_region 6 with fail
 clear A0
 obtain ⟨W4,hW4⟩:∃ W:World,W = (W3.alloc (.cells #[.float .f64 b.re.lo,.float .f64 b.re.hi,.float .f64 b.im.lo,.float .f64 b.im.hi] 65)).alloc (.cells #[.float .f64 b.re.lo,.float .f64 b.re.hi,.float .f64 b.im.lo,.float .f64 b.im.hi] 67):=⟨_,rfl⟩
 rw [<- hW4]
 replace A1:HAt W4 (w.heap.size + 1) #[.int .i64 p,.int .i64 q,.int .i64 r] 40:=by rw [hW4]; exact A1.up.up
 have A2:HAt W4 (W3.heap.size) #[.float .f64 b.re.lo,.float .f64 b.re.hi,.float .f64 b.im.lo,.float .f64 b.im.hi] 65:=by rw [hW4]; exact (HAt.new sP).up
 replace B:Below w.heap.size w W4:=by rw [hW4]; exact (bT (bT B (below_alloc _ _)) (below_alloc _ _))
 clear hW4
 clear f0_0 f0_1 f0_2 f0_3 y0_0 y0_1 y0_2 y0_3 f1_0 f1_1 f1_2 y1_0 y1_1 y1_2
 obtain ⟨f1_0,f1_1,f1_2,y1_0,y1_1,y1_2⟩:=bx3 A1.x
 obtain ⟨f2_0,f2_1,f2_2,f2_3,y2_0,y2_1,y2_2,y2_3⟩:=bx4 A2.x
 go_wp2_with fail
 refine (HF.out _ B).mono ?_
 rintro e W5 ⟨v3,rfl,N3,hb5⟩
 obtain ⟨P3,p3,c3,s3,Q3,q3,d3,t3,R3,r3,e3,ia3,ib3,id3,rfl,-⟩:=N3.parts
 replace A1:=A1.on hb5
 replace A2:=A2.on hb5
 replace B:=bT B hb5
 clear hb5
 clear f1_0 f1_1 f1_2 y1_0 y1_1 y1_2 f2_0 f2_1 f2_2 f2_3 y2_0 y2_1 y2_2 y2_3
 obtain ⟨f1_0,f1_1,f1_2,y1_0,y1_1,y1_2⟩:=bx3 A1.x
 obtain ⟨f2_0,f2_1,f2_2,f2_3,y2_0,y2_1,y2_2,y2_3⟩:=bx4 A2.x
 go_upto_region 7 with fail
 clear A1
 obtain ⟨W6,hW6⟩:∃ W:World,W = W5.alloc (.cells #[.slice P3 p3 c3,.bool s3,.slice Q3 q3 d3,.bool t3,.slice R3 r3 e3] 49):=⟨_,rfl⟩
 rw [<- hW6]
 replace A2:HAt W6 (W3.heap.size) #[.float .f64 b.re.lo,.float .f64 b.re.hi,.float .f64 b.im.lo,.float .f64 b.im.hi] 65:=by rw [hW6]; exact A2.up
 have A4:HAt W6 (W5.heap.size) #[.slice P3 p3 c3,.bool s3,.slice Q3 q3 d3,.bool t3,.slice R3 r3 e3] 49:=by rw [hW6]; exact (HAt.new sP)
 replace B:Below w.heap.size w W6:=by rw [hW6]; exact (bT B (below_alloc _ _))
 replace N3:IsNum W6 (.agg #[.slice P3 p3 c3,.bool s3,.slice Q3 q3 d3,.bool t3,.slice R3 r3 e3]) x:=by rw [hW6]; exact (N3.below (below_alloc _ _))
 clear hW6
 clear f1_0 f1_1 f1_2 y1_0 y1_1 y1_2 f2_0 f2_1 f2_2 f2_3 y2_0 y2_1 y2_2 y2_3
 obtain ⟨f2_0,f2_1,f2_2,f2_3,y2_0,y2_1,y2_2,y2_3⟩:=bx4 A2.x
 obtain ⟨f4_0,f4_1,f4_2,f4_3,f4_4,y4_0,y4_1,y4_2,y4_3,y4_4⟩:=bx5 A4.x
 go_wp2_with fail
 refine (HO.out _ B _ N3).mono ?_
 rintro e W7 ⟨rfl,hb7⟩
 replace A2:=A2.on hb7
 replace A4:=A4.on hb7
 replace N3:=N3.below hb7
 replace B:=bT B hb7
 clear hb7
 clear f2_0 f2_1 f2_2 f2_3 y2_0 y2_1 y2_2 y2_3 f4_0 f4_1 f4_2 f4_3 f4_4 y4_0 y4_1 y4_2 y4_3 y4_4
 obtain ⟨f2_0,f2_1,f2_2,f2_3,y2_0,y2_1,y2_2,y2_3⟩:=bx4 A2.x
 obtain ⟨f4_0,f4_1,f4_2,f4_3,f4_4,y4_0,y4_1,y4_2,y4_3,y4_4⟩:=bx5 A4.x
 go_upto_region 8 with fail
 obtain ⟨W8,hW8⟩:∃ W:World,W = W7.alloc (.cells #[.float .f64 o.re.lo,.float .f64 o.re.hi,.float .f64 o.im.lo,.float .f64 o.im.hi] 65):=⟨_,rfl⟩
 rw [<- hW8]
 replace A2:HAt W8 (W3.heap.size) #[.float .f64 b.re.lo,.float .f64 b.re.hi,.float .f64 b.im.lo,.float .f64 b.im.hi] 65:=by rw [hW8]; exact A2.up
 replace A4:HAt W8 (W5.heap.size) #[.slice P3 p3 c3,.bool s3,.slice Q3 q3 d3,.bool t3,.slice R3 r3 e3] 49:=by rw [hW8]; exact A4.up
 have A5:HAt W8 (W7.heap.size) #[.float .f64 o.re.lo,.float .f64 o.re.hi,.float .f64 o.im.lo,.float .f64 o.im.hi] 65:=by rw [hW8]; exact (HAt.new sP)
 replace B:Below w.heap.size w W8:=by rw [hW8]; exact (bT B (below_alloc _ _))
 replace N3:IsNum W8 (.agg #[.slice P3 p3 c3,.bool s3,.slice Q3 q3 d3,.bool t3,.slice R3 r3 e3]) x:=by rw [hW8]; exact (N3.below (below_alloc _ _))
 clear hW8
 clear f2_0 f2_1 f2_2 f2_3 y2_0 y2_1 y2_2 y2_3 f4_0 f4_1 f4_2 f4_3 f4_4 y4_0 y4_1 y4_2 y4_3 y4_4
 obtain ⟨f2_0,f2_1,f2_2,f2_3,y2_0,y2_1,y2_2,y2_3⟩:=bx4 A2.x
 obtain ⟨f4_0,f4_1,f4_2,f4_3,f4_4,y4_0,y4_1,y4_2,y4_3,y4_4⟩:=bx5 A4.x
 obtain ⟨f5_0,f5_1,f5_2,f5_3,y5_0,y5_1,y5_2,y5_3⟩:=bx4 A5.x
 go_wp2_with fail
 refine (HM.out _).mono ?_
 rintro e W9 ⟨rfl,hb9⟩
 replace A2:=A2.on hb9
 replace A4:=A4.on hb9
 replace A5:=A5.on hb9
 replace N3:=N3.below hb9
 replace B:=bT B hb9
 clear hb9
 clear f2_0 f2_1 f2_2 f2_3 y2_0 y2_1 y2_2 y2_3 f4_0 f4_1 f4_2 f4_3 f4_4 y4_0 y4_1 y4_2 y4_3 y4_4 f5_0 f5_1 f5_2 f5_3 y5_0 y5_1 y5_2 y5_3
 obtain ⟨f2_0,f2_1,f2_2,f2_3,y2_0,y2_1,y2_2,y2_3⟩:=bx4 A2.x
 obtain ⟨f4_0,f4_1,f4_2,f4_3,f4_4,y4_0,y4_1,y4_2,y4_3,y4_4⟩:=bx5 A4.x
 obtain ⟨f5_0,f5_1,f5_2,f5_3,y5_0,y5_1,y5_2,y5_3⟩:=bx4 A5.x
 go_upto_region 9 with fail
 obtain ⟨W10,hW10⟩:∃ W:World,W = W9.alloc (.cells #[.float .f64 m.re.lo,.float .f64 m.re.hi,.float .f64 m.im.lo,.float .f64 m.im.hi] 65):=⟨_,rfl⟩
 rw [<- hW10]
 replace A2:HAt W10 (W3.heap.size) #[.float .f64 b.re.lo,.float .f64 b.re.hi,.float .f64 b.im.lo,.float .f64 b.im.hi] 65:=by rw [hW10]; exact A2.up
 replace A4:HAt W10 (W5.heap.size) #[.slice P3 p3 c3,.bool s3,.slice Q3 q3 d3,.bool t3,.slice R3 r3 e3] 49:=by rw [hW10]; exact A4.up
 replace A5:HAt W10 (W7.heap.size) #[.float .f64 o.re.lo,.float .f64 o.re.hi,.float .f64 o.im.lo,.float .f64 o.im.hi] 65:=by rw [hW10]; exact A5.up
 replace B:Below w.heap.size w W10:=by rw [hW10]; exact (bT B (below_alloc _ _))
 replace N3:IsNum W10 (.agg #[.slice P3 p3 c3,.bool s3,.slice Q3 q3 d3,.bool t3,.slice R3 r3 e3]) x:=by rw [hW10]; exact (N3.below (below_alloc _ _))
 clear hW10
 clear f2_0 f2_1 f2_2 f2_3 y2_0 y2_1 y2_2 y2_3 f4_0 f4_1 f4_2 f4_3 f4_4 y4_0 y4_1 y4_2 y4_3 y4_4 f5_0 f5_1 f5_2 f5_3 y5_0 y5_1 y5_2 y5_3
 obtain ⟨f2_0,f2_1,f2_2,f2_3,y2_0,y2_1,y2_2,y2_3⟩:=bx4 A2.x
 obtain ⟨f4_0,f4_1,f4_2,f4_3,f4_4,y4_0,y4_1,y4_2,y4_3,y4_4⟩:=bx5 A4.x
 obtain ⟨f5_0,f5_1,f5_2,f5_3,y5_0,y5_1,y5_2,y5_3⟩:=bx4 A5.x
 go_wp2_with fail
 refine (HN.out _ B _ N3).mono ?_
 rintro e W11 ⟨rfl,hb11⟩
 replace A2:=A2.on hb11
 replace A4:=A4.on hb11
 replace A5:=A5.on hb11
 replace N3:=N3.below hb11
 replace B:=bT B hb11
 clear hb11
 clear f2_0 f2_1 f2_2 f2_3 y2_0 y2_1 y2_2 y2_3 f4_0 f4_1 f4_2 f4_3 f4_4 y4_0 y4_1 y4_2 y4_3 y4_4 f5_0 f5_1 f5_2 f5_3 y5_0 y5_1 y5_2 y5_3
 obtain ⟨f2_0,f2_1,f2_2,f2_3,y2_0,y2_1,y2_2,y2_3⟩:=bx4 A2.x
 obtain ⟨f4_0,f4_1,f4_2,f4_3,f4_4,y4_0,y4_1,y4_2,y4_3,y4_4⟩:=bx5 A4.x
 obtain ⟨f5_0,f5_1,f5_2,f5_3,y5_0,y5_1,y5_2,y5_3⟩:=bx4 A5.x
 go_wp2_with fail
 refine (HC.out _ B).mono ?_
 rintro e W12 ⟨v4,rfl,N4,hb12⟩
 obtain ⟨P4,p4,c4,s4,Q4,q4,d4,t4,R4,r4,e4,ia4,ib4,id4,rfl,-⟩:=N4.parts
 replace A2:=A2.on hb12
 replace A4:=A4.on hb12
 replace A5:=A5.on hb12
 replace N3:=N3.below hb12
 replace B:=bT B hb12
 clear hb12
 clear f2_0 f2_1 f2_2 f2_3 y2_0 y2_1 y2_2 y2_3 f4_0 f4_1 f4_2 f4_3 f4_4 y4_0 y4_1 y4_2 y4_3 y4_4 f5_0 f5_1 f5_2 f5_3 y5_0 y5_1 y5_2 y5_3
 obtain ⟨f2_0,f2_1,f2_2,f2_3,y2_0,y2_1,y2_2,y2_3⟩:=bx4 A2.x
 obtain ⟨f4_0,f4_1,f4_2,f4_3,f4_4,y4_0,y4_1,y4_2,y4_3,y4_4⟩:=bx5 A4.x
 obtain ⟨f5_0,f5_1,f5_2,f5_3,y5_0,y5_1,y5_2,y5_3⟩:=bx4 A5.x
 go_upto_region 10 with fail
 obtain ⟨W13,hW13⟩:∃ W:World,W = W12.alloc (.cells #[.slice P4 p4 c4,.bool s4,.slice Q4 q4 d4,.bool t4,.slice R4 r4 e4] 49):=⟨_,rfl⟩
 rw [<- hW13]
 replace A2:HAt W13 (W3.heap.size) #[.float .f64 b.re.lo,.float .f64 b.re.hi,.float .f64 b.im.lo,.float .f64 b.im.hi] 65:=by rw [hW13]; exact A2.up
 replace A4:HAt W13 (W5.heap.size) #[.slice P3 p3 c3,.bool s3,.slice Q3 q3 d3,.bool t3,.slice R3 r3 e3] 49:=by rw [hW13]; exact A4.up
 replace A5:HAt W13 (W7.heap.size) #[.float .f64 o.re.lo,.float .f64 o.re.hi,.float .f64 o.im.lo,.float .f64 o.im.hi] 65:=by rw [hW13]; exact A5.up
 have A7:HAt W13 (W12.heap.size) #[.slice P4 p4 c4,.bool s4,.slice Q4 q4 d4,.bool t4,.slice R4 r4 e4] 49:=by rw [hW13]; exact (HAt.new sP)
 replace B:Below w.heap.size w W13:=by rw [hW13]; exact (bT B (below_alloc _ _))
 replace N3:IsNum W13 (.agg #[.slice P3 p3 c3,.bool s3,.slice Q3 q3 d3,.bool t3,.slice R3 r3 e3]) x:=by rw [hW13]; exact (N3.below (below_alloc _ _))
 replace N4:IsNum W13 (.agg #[.slice P4 p4 c4,.bool s4,.slice Q4 q4 d4,.bool t4,.slice R4 r4 e4]) y:=by rw [hW13]; exact (N4.below (below_alloc _ _))
 clear hW13
 clear f2_0 f2_1 f2_2 f2_3 y2_0 y2_1 y2_2 y2_3 f4_0 f4_1 f4_2 f4_3 f4_4 y4_0 y4_1 y4_2 y4_3 y4_4 f5_0 f5_1 f5_2 f5_3 y5_0 y5_1 y5_2 y5_3
 refine region_litA (.val (kIs (.agg #[.float .f64 o.re.lo,.float .f64 o.re.hi,.float .f64 o.im.lo,.float .f64 o.im.hi])) :: .val (kIs (.agg #[.slice P3 p3 c3,.bool s3,.slice Q3 q3 d3,.bool t3,.slice R3 r3 e3])) :: .val (kIs (.bool true)) :: .val (kIs (.bool true)) :: .val (kIs (.agg #[.float .f64 o.re.lo,.float .f64 o.re.hi,.float .f64 o.im.lo,.float .f64 o.im.hi])) :: .val (kIs (.complex .f64 o.re.lo o.im.lo)) :: .val (kIs (.agg #[.float .f64 o.re.lo,.float .f64 o.re.hi,.float .f64 o.im.lo,.float .f64 o.im.hi])) :: .val (kIs (.complex .f64 o.re.hi o.im.hi)) :: .val (kIs (.bool e)) :: .val (kIs (.agg #[.slice P4 p4 c4,.bool s4,.slice Q4 q4 d4,.bool t4,.slice R4 r4 e4])) :: .val (kIs (.agg #[.slice P3 p3 c3,.bool s3,.slice Q3 q3 d3,.bool t3,.slice R3 r3 e3])) :: .val (kIs (.bool e)) :: .val (kIs (.bool true)) :: .val (kIs (.bool true)) :: .val (kIs (.bool true)) :: .val (kIs (.agg #[.float .f64 o.re.lo,.float .f64 o.re.hi,.float .f64 o.im.lo,.float .f64 o.im.hi])) :: .val (kIs (.agg #[.float .f64 b.re.lo,.float .f64 b.re.hi,.float .f64 b.im.lo,.float .f64 b.im.hi])) :: .val (kIs (.bool true)) :: .val (kIs (.bool false)) :: .val (kIs (.bool false)) :: .val (kIs (.agg #[.float .f64 b.re.lo,.float .f64 b.re.hi,.float .f64 b.im.lo,.float .f64 b.im.hi])) :: .val (kIs (.agg #[.slice P3 p3 c3,.bool s3,.slice Q3 q3 d3,.bool t3,.slice R3 r3 e3])) :: .val (kIs (.bool true)) :: .val (kIs (.bool true)) :: .val (kIs (.bool true)) :: .val (kIs (.bool true)) :: .val (kIs (.agg #[.float .f64 b.re.lo,.float .f64 b.re.hi,.float .f64 b.im.lo,.float .f64 b.im.hi])) :: .val (kIs (.agg #[.slice P3 p3 c3,.bool s3,.slice Q3 q3 d3,.bool t3,.slice R3 r3 e3])) :: .val (kIs (.bool true)) :: .val (kIs (.bool false)) :: .val (kIs (.bool false)) :: .val (kIs (.bool true)) :: .val (kIs (.bool true)) :: .val (kIs (.bool true)) :: .val (kIs (.bool true)) :: [])
  ?fl2 ?hfl2 kR kR kR kR kR ⟨si,si,si,si,si,si,si,si,si,si,si,si,si,si,si,si,si,si,si,si,si,si,si,si,si,si,si,si,si,si,si,si,si,si,si,trivial⟩ sP ⟨obN (uLr rfl .fr (fun W hb=>A5.ld hb) Tryz.underlying65),obN (uLr rfl .fr (fun W hb=>A4.ld hb) Tryz.underlying49),obN (uC2 rfl (.is 0) (.is 1) (fun _ W hb h=>cIs (H1.out W (bT B hb) _ (N3.below hb)))),obN (uMv 2),obG 3 (uLr rfl .fr (fun W hb=>A5.ld hb) Tryz.underlying65),obG 3 (uC1 rfl (.is 4) (fun _ W hb h=>cIs (HL.out W))),obG 3 (uLr rfl .fr (fun W hb=>A5.ld hb) Tryz.underlying65),obG 3 (uC1 rfl (.is 6) (fun _ W hb h=>cIs (HH.out W))),obG 3 (uBn rfl (.is 5) (.is 7) (fun w=>(beqC _ _ _ _ w).trans (by rw [he]))),obG 3 (uLr rfl .fr (fun W hb=>A7.ld hb) Tryz.underlying49),obG 3 (uLr rfl .fr (fun W hb=>A4.ld hb) Tryz.underlying49),obG 3 (uC2 rfl (.is 9) (.is 10) (fun _ W hb h=>cIs (HS.out W (bT B hb) _ (N4.below hb) _ (N3.below hb)))),obG 3 (uBn rfl (.is 8) (.is 11) (fun w=>sG)),obN (uPt rfl (.is 3) (.is 12)),obN (uMv 13),obG 14 (uLr rfl .fr (fun W hb=>A5.ld hb) Tryz.underlying65),obG 14 (uLr rfl .fr (fun W hb=>A2.ld hb) Tryz.underlying65),obG 14 (uC2 rfl (.is 15) (.is 16) (fun _ W hb h=>cIs (HI.out W))),obG 14 (uN0 rfl (.is 17)),obG 14 (uMv 18),obG 19 (uLr rfl .fr (fun W hb=>A2.ld hb) Tryz.underlying65),obG 19 (uLr rfl .fr (fun W hb=>A4.ld hb) Tryz.underlying49),obG 19 (uC2 rfl (.is 20) (.is 21) (fun _ W hb h=>cIs (H2.out W (bT B hb) _ (N3.below hb)))),obG 14 (uPf rfl (.is 19) (.is 22)),obN (uPt rfl (.is 14) (.is 23)),obN (uMv 24),obG 25 (uLr rfl .fr (fun W hb=>A2.ld hb) Tryz.underlying65),obG 25 (uLr rfl .fr (fun W hb=>A4.ld hb) Tryz.underlying49),obG 25 (uC2 rfl (.is 26) (.is 27) (fun _ W hb h=>cIs (H2.out W (bT B hb) _ (N3.below hb)))),obG 25 (uN0 rfl (.is 28)),obG 25 (uMv 29),obG 30 (uMf rfl .fr),obG 25 (uPf rfl (.is 30) (.is 31)),obN (uPt rfl (.is 25) (.is 32)),obN (uAs 33),trivial⟩ ?_
 case hfl2=>intro ts; simp only [fillT,zA,Nat.reduceAdd,sA,sB,sC]; rfl
 intro ts W14 hb14 hh hap
 have e34:=held_is (hh 34 sP) rfl
 simp only [e34]
 clear hh hap e34
 clear A2 A4 A5 A7
 replace N3:=N3.below hb14
 replace N4:=N4.below hb14
 replace B:=bT B hb14
 clear hb14
 go_wp2
 go_ret
 exact ⟨rfl,B⟩
theorem boxPoints_walk (w:World) (a0 a1 a2 a3:Nat) (p q r:Int) (ha0:a0 < 18446744073709551616) (ha1:a1 < 18446744073709551616) (ha2:a2 < 18446744073709551616) (ha3:a3 < 18446744073709551616) (hp:-9223372036854775808 <= p /\ p < 9223372036854775808) (hq:-9223372036854775808 <= q /\ q < 9223372036854775808) (hr:-9223372036854775808 <= r /\ r < 9223372036854775808) (hT:Tab w) (hT6:Tab64 w) :
  Calls Tryz.prog 8 #[.agg #[.int .u64 (a0:Int),.int .u64 (a1:Int),.int .u64 (a2:Int),.int .u64 (a3:Int)],.agg #[.int .i64 p,.int .i64 q,.int .i64 r]] w fun e w'=>e = .returned (.bool true) /\ Below w.heap.size w w':=by
 have HX:=fun W=>both_any a0 a1 a2 a3 W
 have hb:=bx_fine ha0 ha1 ha2 ha3
 generalize bxOf a0 a1 a2 a3 = b at *
 cases h1:bxB a0 a1 a2 a3
 ·rw [h1] at HX
  exact boxPoints_0 w _ _ _ _ _ _ _ b (hid HX) hT hT6
 ·rw [h1] at HX
  have hs2:=sz_of hp.1 hp.2 hq.1 hq.2 hr.1 hr.2
  have HF:=fun W (hb:Below w.heap.size w W)=>of_any p q r W hp.1 hp.2 hq.1 hq.2 hr.1 hr.2 (hT.below hb)
  generalize ofR p q r = x at *
  have hs:Sz x 1000:=hs2.mono oM
  obtain ⟨a,c,d,hx⟩:=Low.ex x
  have hd:=hx.pos
  have s1:=hs _ _ _ hx
  have ho:=ptB_ok a c hd
  obtain ⟨ck,hck⟩:∃ ck,∀ W,Below w.heap.size w W -> Calls Tryz.prog 48 #[.complex .f64 (nearB a d) (nearB c d)] W (RetNumE W (exN a c d) ck):=by
   by_cases hf:fx (nearB a d) ≠ 2047 /\ fx (nearB c d) ≠ 2047
   ·exact ⟨0,fun W hb=>by
     unfold exN
     rw [if_pos hf]
     exact complex_good _ _ W (nearB_lt a hd) (nearB_lt c hd) (hT6.below hb) hf.1 hf.2⟩
   ·exact ⟨1,fun W hb=>by
     unfold exN
     rw [if_neg hf]
     exact complex_bad _ _ W (nearB_lt a hd) (nearB_lt c hd) (hT6.below hb) oM⟩
  have hy:Sz (exN a c d) 1000:=by
   unfold exN
   split
   ·exact (cf_sz _ _).mono oM
   ·exact Sz.low Low.zero (by simp [wl_zero]) (by simp [wl_zero]) (by rw [wl_one]; omega)
  have he:(eqb (ptB a c d).re.lo (ptB a c d).re.hi && eqb (ptB a c d).im.lo (ptB a c d).im.hi) = decide (exN a c d = x):=point_iff hx hd rfl
  have HO:=fun W (hb:Below w.heap.size w W) v (h:IsNum W v x)=>boxOf_any b v x a c d W h hx (hT.below hb) hs
  have HN:=fun W (_:Below w.heap.size w W) v (h:IsNum W v x)=>near_any v x a c d W h hx oM oM oM
  have H1:=fun W (hb:Below w.heap.size w W) v (h:IsNum W v x)=>boxHas_any (ptB a c d) v x a c d W h hx (hT.below hb) hs
  have e1:(ptB a c d).within (ptB a c d) = true:=bands (Sp.in_self ho.re) (Sp.in_self ho.im)
  rw [e1] at H1
  have H2:=fun W (hb:Below w.heap.size w W) v (h:IsNum W v x)=>boxHas_any b v x a c d W h hx (hT.below hb) hs
  have HS:=fun W (_:Below w.heap.size w W) u (h:IsNum W u (exN a c d)) v (h':IsNum W v x)=>sameN_any u v _ _ W h h' 1000 hy hs oM
  have HI:=fun W=>inB_any (ptB a c d) b W
  have HM:=fun W=>meetB_any (ptB a c d) b ho hb W
  cases hk:(ptB a c d).within b
  ·rw [hk] at HI H2
   exact boxPoints_no w _ _ _ _ _ _ _ x _ b (ptB a c d) _ _ _ ck _ _ he (hid HX) (hid HF) (hid HO) (hid HM) (hid HN) (hid hck) (hid H1) (hid H2) (hid (lo_pt _)) (hid (hi_pt _)) (hid HS) (hid HI) hT hT6
  ·rw [hk] at HI H2
   rw [in_meets ho hb hk] at HM
   exact boxPoints_yes w _ _ _ _ _ _ _ x _ b (ptB a c d) _ _ _ ck _ he (hid HX) (hid HF) (hid HO) (hid HM) (hid HN) (hid hck) (hid H1) (hid H2) (hid (lo_pt _)) (hid (hi_pt _)) (hid HS) (hid HI) hT hT6
end Go.Proofs.YtjodlmanheeajaaGreatDoor
