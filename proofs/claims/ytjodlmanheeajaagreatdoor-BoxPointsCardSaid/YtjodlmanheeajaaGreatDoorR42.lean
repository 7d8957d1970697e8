import Derived.Test.YtjodlmanheeajaaGreatDoorR30
import Derived.Test.YtjodlmanheeajaaGreatDoorR41
import Derived.Test.YtjodlmanheeajaaGreatDoorR02
set_option linter.unusedVariables false
set_option linter.unusedSimpArgs false
set_option maxRecDepth 100000
set_option maxHeartbeats 8000000
namespace Go.Proofs.YtjodlmanheeajaaGreatDoor
open Go.RowKit
theorem meet_any (s t:Sp) (hs:s.Ok) (ht:t.Ok) (w:World):Calls Tryz.prog 74 #[s.v,t.v] w fun e w'=>e = .returned (.tuple #[(s.meet t).v,.bool (s.meets t)]) /\ Below w.heap.size w w':=by
 cases h:s.meets t
 ·have h':(FloatKind.f64.format.order (fmx s.lo t.lo) (fmn s.hi t.hi) == some Ordering.gt) = true:=by
   unfold Sp.meets gtb at h
   simpa using h
  have e:s.meet t = .zero:=by unfold Sp.meet; rw [h]; rfl
  rw [e]
  exact meet_1 _ _ _ _ hs.lo hs.hi ht.lo ht.hi h' w
 ·have h':(FloatKind.f64.format.order (fmx s.lo t.lo) (fmn s.hi t.hi) == some Ordering.gt) = false:=by
   unfold Sp.meets gtb at h
   simpa using h
  have e:s.meet t = s.mt t:=by unfold Sp.meet; rw [h]; rfl
  rw [e]
  exact meet_0 _ _ _ _ hs.lo hs.hi ht.lo ht.hi h' w
theorem bsD_1 (b c:Bx) (W:World):(Instr.buildSlice 155 2 #[(0,.agg #[.float .f64 b.re.lo,.float .f64 b.re.hi]),(1,.agg #[.float .f64 c.re.lo,.float .f64 c.re.hi])]).run Tryz.prog W = .ok (.slice (some ⟨W.heap.size,0,none⟩) 2 2) (W.alloc (.cells #[.float .f64 b.re.lo,.float .f64 b.re.hi,.float .f64 c.re.lo,.float .f64 c.re.hi] 28)):=sG
theorem bsD_2 (b c:Bx) (W:World):(Instr.buildSlice 155 2 #[(0,.agg #[.float .f64 b.im.lo,.float .f64 b.im.hi]),(1,.agg #[.float .f64 c.im.lo,.float .f64 c.im.hi])]).run Tryz.prog W = .ok (.slice (some ⟨W.heap.size,0,none⟩) 2 2) (W.alloc (.cells #[.float .f64 b.im.lo,.float .f64 b.im.hi,.float .f64 c.im.lo,.float .f64 c.im.hi] 28)):=sG
theorem hullB_raw (b c:Bx) (ob:b.Ok) (oc:c.Ok) (w:World):Calls Tryz.prog 33 #[.agg #[.float .f64 b.re.lo,.float .f64 b.re.hi,.float .f64 b.im.lo,.float .f64 b.im.hi],.agg #[.float .f64 c.re.lo,.float .f64 c.re.hi,.float .f64 c.im.lo,.float .f64 c.im.hi]] w fun e w'=>e = .returned (.agg #[.float .f64 (fmn b.re.lo c.re.lo),.float .f64 (fmx b.re.hi c.re.hi),.float .f64 (fmn b.im.lo c.im.lo),.float .f64 (fmx b.im.hi c.im.hi)]) /\ Below w.heap.size w w':=by
 have hfb:=floatbits_run
 have hsf:=store_float
 go_enter Tryz.func33,Tryz.ntmps33
 go_upto_region 1 with fail
 obtain ⟨W1,hW1⟩:∃ W:World,W = ((w.alloc (.cells #[.float .f64 b.re.lo,.float .f64 b.re.hi,.float .f64 b.im.lo,.float .f64 b.im.hi] 65)).alloc (.cells #[.float .f64 c.re.lo,.float .f64 c.re.hi,.float .f64 c.im.lo,.float .f64 c.im.hi] 65)).alloc (.cells #[.float .f64 0,.float .f64 0,.float .f64 0,.float .f64 0] 65):=⟨_,rfl⟩
 rw [<- hW1]
 have X0:W1.heap[w.heap.size]? = some (.cells #[.float .f64 b.re.lo,.float .f64 b.re.hi,.float .f64 b.im.lo,.float .f64 b.im.hi] 65 (0,0)):=by rw [hW1]; exact ((heap_alloc_old _ _ (by first | omega | (simp <;> omega))).trans ((heap_alloc_old _ _ (by first | omega | (simp <;> omega))).trans (alloc_at sP)))
 have X1:W1.heap[w.heap.size + 1]? = some (.cells #[.float .f64 c.re.lo,.float .f64 c.re.hi,.float .f64 c.im.lo,.float .f64 c.im.hi] 65 (0,0)):=by rw [hW1]; exact ((heap_alloc_old _ _ (by first | omega | (simp <;> omega))).trans (alloc_at sP))
 have X2:W1.heap[w.heap.size + 2]? = some (.cells #[.float .f64 0,.float .f64 0,.float .f64 0,.float .f64 0] 65 (0,0)):=by rw [hW1]; exact (alloc_at sP)
 have z0:w.heap.size < W1.heap.size:=by rw [hW1]; simp <;> omega
 have z1:w.heap.size + 1 < W1.heap.size:=by rw [hW1]; simp <;> omega
 have z2:w.heap.size + 2 < W1.heap.size:=by rw [hW1]; simp <;> omega
 have B:Below w.heap.size w W1:=by rw [hW1]; exact (bT (bT (bT (Below.refl w.heap.size w) (below_alloc _ _)) (below_alloc _ _)) (below_alloc _ _))
 clear hW1
 obtain ⟨f0_0,f0_1,f0_2,f0_3,y0_0,y0_1,y0_2,y0_3⟩:=bx4 X0
 obtain ⟨f1_0,f1_1,f1_2,f1_3,y1_0,y1_1,y1_2,y1_3⟩:=bx4 X1
 obtain ⟨f2_0,f2_1,f2_2,f2_3,y2_0,y2_1,y2_2,y2_3⟩:=bx4 X2
 refine region_last [.val (kIs (.pointer (some ⟨w.heap.size,0,none⟩))),.val (kIs (.agg #[.float .f64 b.re.lo,.float .f64 b.re.hi])),.val (kIs (.pointer (some ⟨w.heap.size + 1,0,none⟩))),.val (kIs (.agg #[.float .f64 c.re.lo,.float .f64 c.re.hi])),.val (kSl 28 #[.float .f64 b.re.lo,.float .f64 b.re.hi,.float .f64 c.re.lo,.float .f64 c.re.hi] 2),.val (kIs (.agg #[.float .f64 (fmn b.re.lo c.re.lo),.float .f64 (fmx b.re.hi c.re.hi)])),.val (kIs (.pointer (some ⟨w.heap.size,2,none⟩))),.val (kIs (.agg #[.float .f64 b.im.lo,.float .f64 b.im.hi])),.val (kIs (.pointer (some ⟨w.heap.size + 1,2,none⟩))),.val (kIs (.agg #[.float .f64 c.im.lo,.float .f64 c.im.hi])),.val (kSl 28 #[.float .f64 b.im.lo,.float .f64 b.im.hi,.float .f64 c.im.lo,.float .f64 c.im.hi] 2),.val (kIs (.agg #[.float .f64 (fmn b.im.lo c.im.lo),.float .f64 (fmx b.im.hi c.im.hi)])),.val (kIs (.agg #[.float .f64 (fmn b.re.lo c.re.lo),.float .f64 (fmx b.re.hi c.re.hi),.float .f64 (fmn b.im.lo c.im.lo),.float .f64 (fmx b.im.hi c.im.hi)]))]
  kR kR kR kR kR ⟨Stab.b (stab_is _),Stab.b (stab_is _),Stab.b (stab_is _),Stab.b (stab_is _),stabB_sl _ _ _,Stab.b (stab_is _),Stab.b (stab_is _),Stab.b (stab_is _),Stab.b (stab_is _),Stab.b (stab_is _),stabB_sl _ _ _,Stab.b (stab_is _),Stab.b (stab_is _),trivial⟩ sP (ol:=_) rfl kR ⟨?_,?_,?_,?_,?_,?_,?_,?_,?_,?_,?_,?_,?_,trivial⟩ ?_
 ·exact obq
 ·intro ts W hb hB hp; have h0:ts 0 = _:=hp 0 kR; intro K hK; simp only [fillT,zA,Nat.reduceAdd,sA,sB,sC,h0] at hK ⊢; have HK:=hid hK; clear hK hp; obtain ⟨p0,p1,p2,p3,-,-,-,-⟩:=bx4 ((hb.block _ z0).trans X0); refine ⟨?_⟩; go_simp; exact HK.out _ _ kk rfB
 ·exact obq
 ·intro ts W hb hB hp; have h2:ts 2 = _:=hp 2 kR; intro K hK; simp only [fillT,zA,Nat.reduceAdd,sA,sB,sC,h2] at hK ⊢; have HK:=hid hK; clear hK hp; obtain ⟨p0,p1,p2,p3,-,-,-,-⟩:=bx4 ((hb.block _ z1).trans X1); refine ⟨?_⟩; go_simp; exact HK.out _ _ kk rfB
 ·intro ts W hb hB hp; have h1:ts 1 = _:=hp 1 kR; have h3:ts 3 = _:=hp 3 kR; intro K hK; simp only [fillT,zA,Nat.reduceAdd,sA,sB,sC,h1,h3] at hK ⊢; have HK:=hid hK; clear hK hp; refine ⟨?_⟩; exact wp_buildSlice rfl (by simp [Act.eval]) (bsD_1 b c W) (HK.out _ _ ⟨_,rfl,heap_alloc_new _ _,sP⟩ (below_alloc _ _))
 ·intro ts W hb hB hp; have h4:=hp 4 kR; intro K hK; obtain ⟨g9,e9,X9,z9⟩:=h4; simp only [fillT,zA,Nat.reduceAdd,sA,sB,sC,e9] at hK ⊢; have HK:=hid hK; clear hK hp; refine ⟨?_⟩; go_simp; refine (hull_any b.re.lo b.re.hi c.re.lo c.re.hi ob.re.lo ob.re.hi oc.re.lo oc.re.hi _ g9 X9 z9).mono ?_; rintro e W9 ⟨rfl,hb9⟩; exact HK.out _ _ rfl hb9
 ·exact obq
 ·intro ts W hb hB hp; have h6:ts 6 = _:=hp 6 kR; intro K hK; simp only [fillT,zA,Nat.reduceAdd,sA,sB,sC,h6] at hK ⊢; have HK:=hid hK; clear hK hp; obtain ⟨p0,p1,p2,p3,-,-,-,-⟩:=bx4 ((hb.block _ z0).trans X0); refine ⟨?_⟩; go_simp; exact HK.out _ _ kk rfB
 ·exact obq
 ·intro ts W hb hB hp; have h8:ts 8 = _:=hp 8 kR; intro K hK; simp only [fillT,zA,Nat.reduceAdd,sA,sB,sC,h8] at hK ⊢; have HK:=hid hK; clear hK hp; obtain ⟨p0,p1,p2,p3,-,-,-,-⟩:=bx4 ((hb.block _ z1).trans X1); refine ⟨?_⟩; go_simp; exact HK.out _ _ kk rfB
 ·intro ts W hb hB hp; have h7:ts 7 = _:=hp 7 kR; have h9:ts 9 = _:=hp 9 kR; intro K hK; simp only [fillT,zA,Nat.reduceAdd,sA,sB,sC,h7,h9] at hK ⊢; have HK:=hid hK; clear hK hp; refine ⟨?_⟩; exact wp_buildSlice rfl (by simp [Act.eval]) (bsD_2 b c W) (HK.out _ _ ⟨_,rfl,heap_alloc_new _ _,sP⟩ (below_alloc _ _))
 ·intro ts W hb hB hp; have h10:=hp 10 kR; intro K hK; obtain ⟨g9,e9,X9,z9⟩:=h10; simp only [fillT,zA,Nat.reduceAdd,sA,sB,sC,e9] at hK ⊢; have HK:=hid hK; clear hK hp; refine ⟨?_⟩; go_simp; refine (hull_any b.im.lo b.im.hi c.im.lo c.im.hi ob.im.lo ob.im.hi oc.im.lo oc.im.hi _ g9 X9 z9).mono ?_; rintro e W9 ⟨rfl,hb9⟩; exact HK.out _ _ rfl hb9
 ·intro ts W hb hB hp; have h5:ts 5 = _:=hp 5 kR; have h11:ts 11 = _:=hp 11 kR; intro K hK; simp only [fillT,zA,Nat.reduceAdd,sA,sB,sC,h5,h11] at hK ⊢; have HK:=hid hK; clear hK hp; refine ⟨?_⟩; go_simp; exact HK.out _ _ kk rfB
 intro ts W2 hb2 hh hap K hK
 have e0:=held_is (hh 0 sP) rfl
 have e1:=held_is (hh 1 sP) rfl
 have e2:=held_is (hh 2 sP) rfl
 have e3:=held_is (hh 3 sP) rfl
 have e5:=held_is (hh 5 sP) rfl
 have e6:=held_is (hh 6 sP) rfl
 have e7:=held_is (hh 7 sP) rfl
 have e8:=held_is (hh 8 sP) rfl
 have e9:=held_is (hh 9 sP) rfl
 have e11:=held_is (hh 11 sP) rfl
 have e12:=held_is (hh 12 sP) rfl
 have HK:=hid hK
 clear hK
 simp only [fillT,zA,Nat.reduceAdd,sA,sB,sC,e0,e1,e2,e3,e5,e6,e7,e8,e9,e11,e12]
 clear hh hap e0 e1 e2 e3 e5 e6 e7 e8 e9 e11 e12
 generalize ts 4 = u4_W2 at *
 generalize ts 10 = u10_W2 at *
 replace X0:=(hb2.block _ z0).trans X0
 replace z0:=lL z0 hb2.size
 replace X1:=(hb2.block _ z1).trans X1
 replace z1:=lL z1 hb2.size
 replace X2:=(hb2.block _ z2).trans X2
 replace z2:=lL z2 hb2.size
 replace B:=bT B hb2
 clear hb2
 clear f0_0 f0_1 f0_2 f0_3 y0_0 y0_1 y0_2 y0_3 f1_0 f1_1 f1_2 f1_3 y1_0 y1_1 y1_2 y1_3 f2_0 f2_1 f2_2 f2_3 y2_0 y2_1 y2_2 y2_3
 obtain ⟨f0_0,f0_1,f0_2,f0_3,y0_0,y0_1,y0_2,y0_3⟩:=bx4 X0
 obtain ⟨f1_0,f1_1,f1_2,f1_3,y1_0,y1_1,y1_2,y1_3⟩:=bx4 X1
 obtain ⟨f2_0,f2_1,f2_2,f2_3,y2_0,y2_1,y2_2,y2_3⟩:=bx4 X2
 refine ⟨?_⟩
 refine wp_store_row _ _ _ rfl (w.heap.size + 2) _ rfl rfl _ _ X2 kR rfl (by simp [Value.oneCell']) (HK.out _ _ ?_)
 have hput:=putAt_setRow (cs:=#[.float .f64 (fmn b.re.lo c.re.lo),.float .f64 (fmx b.re.hi c.re.hi),.float .f64 (fmn b.im.lo c.im.lo),.float .f64 (fmx b.im.hi c.im.hi)]) X2
 replace B:=hput.below B oM
 clear HK f0_0 f0_1 f0_2 f0_3 y0_0 y0_1 y0_2 y0_3 f1_0 f1_1 f1_2 f1_3 y1_0 y1_1 y1_2 y1_3 f2_0 f2_1 f2_2 f2_3 y2_0 y2_1 y2_2 y2_3 X0 X1 X2
 generalize W2.setRow (w.heap.size + 2) #[.float .f64 (fmn b.re.lo c.re.lo),.float .f64 (fmx b.re.hi c.re.hi),.float .f64 (fmn b.im.lo c.im.lo),.float .f64 (fmx b.im.hi c.im.hi)] = W3 at *
 have X2:=hput.here
 clear hput
 obtain ⟨f2_0,f2_1,f2_2,f2_3,y2_0,y2_1,y2_2,y2_3⟩:=bx4 X2
 go_wp2
 refine bodyPost_ret (v:=.agg #[.float .f64 (fmn b.re.lo c.re.lo),.float .f64 (fmx b.re.hi c.re.hi),.float .f64 (fmn b.im.lo c.im.lo),.float .f64 (fmx b.im.hi c.im.hi)]) (by simp [results,Tryz.results33,go_sem,f2_0,f2_1,f2_2,f2_3,y2_0,y2_1,y2_2,y2_3]) rfl ?_
 exact ⟨rfl,B⟩
theorem hullB_any (b c:Bx) (hb:b.Ok) (hc:c.Ok) (w:World):Calls Tryz.prog 33 #[b.v,c.v] w fun e w'=>e = .returned (b.hull c).v /\ Below w.heap.size w w':=hullB_raw b c hb hc w
theorem meetB_00 (b c:Bx) (l0 h0 l1 h1:Nat) (H0:Hid (∀ W,Calls Tryz.prog 74 #[.agg #[.float .f64 b.re.lo,.float .f64 b.re.hi],.agg #[.float .f64 c.re.lo,.float .f64 c.re.hi]] W fun e w'=>e = .returned (.tuple #[.agg #[.float .f64 l0,.float .f64 h0],.bool false]) /\ Below W.heap.size W w')) (H1:Hid (∀ W,Calls Tryz.prog 74 #[.agg #[.float .f64 b.im.lo,.float .f64 b.im.hi],.agg #[.float .f64 c.im.lo,.float .f64 c.im.hi]] W fun e w'=>e = .returned (.tuple #[.agg #[.float .f64 l1,.float .f64 h1],.bool false]) /\ Below W.heap.size W w')) (w:World):Calls Tryz.prog 24 #[.agg #[.float .f64 b.re.lo,.float .f64 b.re.hi,.float .f64 b.im.lo,.float .f64 b.im.hi],.agg #[.float .f64 c.re.lo,.float .f64 c.re.hi,.float .f64 c.im.lo,.float .f64 c.im.hi]] w fun e w'=>e = .returned (.tuple #[.agg #[.float .f64 0,.float .f64 0,.float .f64 0,.float .f64 0],.bool false]) /\ Below w.heap.size w w':=by
 have hfb:=floatbits_run
 have hsf:=store_float
 go_enter Tryz.func24,Tryz.ntmps24
 go_upto_region 1 with fail
 obtain ⟨W1,hW1⟩:∃ W:World,W = ((w.alloc (.cells #[.float .f64 b.re.lo,.float .f64 b.re.hi,.float .f64 b.im.lo,.float .f64 b.im.hi] 65)).alloc (.cells #[.float .f64 c.re.lo,.float .f64 c.re.hi,.float .f64 c.im.lo,.float .f64 c.im.hi] 65)).alloc (.cells #[.float .f64 0,.float .f64 0,.float .f64 0,.float .f64 0] 65):=⟨_,rfl⟩
 rw [<- hW1]
 have X0:W1.heap[w.heap.size]? = some (.cells #[.float .f64 b.re.lo,.float .f64 b.re.hi,.float .f64 b.im.lo,.float .f64 b.im.hi] 65 (0,0)):=by rw [hW1]; exact ((heap_alloc_old _ _ (by first | omega | (simp <;> omega))).trans ((heap_alloc_old _ _ (by first | omega | (simp <;> omega))).trans (alloc_at sP)))
 have X1:W1.heap[w.heap.size + 1]? = some (.cells #[.float .f64 c.re.lo,.float .f64 c.re.hi,.float .f64 c.im.lo,.float .f64 c.im.hi] 65 (0,0)):=by rw [hW1]; exact ((heap_alloc_old _ _ (by first | omega | (simp <;> omega))).trans (alloc_at sP))
 have X2:W1.heap[w.heap.size + 2]? = some (.cells #[.float .f64 0,.float .f64 0,.float .f64 0,.float .f64 0] 65 (0,0)):=by rw [hW1]; exact (alloc_at sP)
 have z0:w.heap.size < W1.heap.size:=by rw [hW1]; simp <;> omega
 have z1:w.heap.size + 1 < W1.heap.size:=by rw [hW1]; simp <;> omega
 have z2:w.heap.size + 2 < W1.heap.size:=by rw [hW1]; simp <;> omega
 have B:Below w.heap.size w W1:=by rw [hW1]; exact (bT (bT (bT (Below.refl w.heap.size w) (below_alloc _ _)) (below_alloc _ _)) (below_alloc _ _))
 clear hW1
 obtain ⟨f0_0,f0_1,f0_2,f0_3,y0_0,y0_1,y0_2,y0_3⟩:=bx4 X0
 obtain ⟨f1_0,f1_1,f1_2,f1_3,y1_0,y1_1,y1_2,y1_3⟩:=bx4 X1
 obtain ⟨f2_0,f2_1,f2_2,f2_3,y2_0,y2_1,y2_2,y2_3⟩:=bx4 X2
 go_wp2_with fail
 refine (H0.out _).mono ?_
 rintro e W2 ⟨rfl,hb2⟩
 replace X0:=(hb2.block _ z0).trans X0
 replace z0:=lL z0 hb2.size
 replace X1:=(hb2.block _ z1).trans X1
 replace z1:=lL z1 hb2.size
 replace X2:=(hb2.block _ z2).trans X2
 replace z2:=lL z2 hb2.size
 replace B:=bT B hb2
 clear hb2
 clear f0_0 f0_1 f0_2 f0_3 y0_0 y0_1 y0_2 y0_3 f1_0 f1_1 f1_2 f1_3 y1_0 y1_1 y1_2 y1_3 f2_0 f2_1 f2_2 f2_3 y2_0 y2_1 y2_2 y2_3
 obtain ⟨f0_0,f0_1,f0_2,f0_3,y0_0,y0_1,y0_2,y0_3⟩:=bx4 X0
 obtain ⟨f1_0,f1_1,f1_2,f1_3,y1_0,y1_1,y1_2,y1_3⟩:=bx4 X1
 obtain ⟨f2_0,f2_1,f2_2,f2_3,y2_0,y2_1,y2_2,y2_3⟩:=bx4 X2
 go_upto_region 2 with fail
 obtain ⟨W3,hW3⟩:∃ W:World,W = W2.alloc (.cells #[.float .f64 l0,.float .f64 h0] 28):=⟨_,rfl⟩
 rw [<- hW3]
 replace X0:W3.heap[w.heap.size]? = some (.cells #[.float .f64 b.re.lo,.float .f64 b.re.hi,.float .f64 b.im.lo,.float .f64 b.im.hi] 65 (0,0)):=by rw [hW3]; exact ((heap_alloc_old _ _ (by first | omega | (simp <;> omega))).trans X0)
 replace X1:W3.heap[w.heap.size + 1]? = some (.cells #[.float .f64 c.re.lo,.float .f64 c.re.hi,.float .f64 c.im.lo,.float .f64 c.im.hi] 65 (0,0)):=by rw [hW3]; exact ((heap_alloc_old _ _ (by first | omega | (simp <;> omega))).trans X1)
 replace X2:W3.heap[w.heap.size + 2]? = some (.cells #[.float .f64 0,.float .f64 0,.float .f64 0,.float .f64 0] 65 (0,0)):=by rw [hW3]; exact ((heap_alloc_old _ _ (by first | omega | (simp <;> omega))).trans X2)
 have X3:W3.heap[W2.heap.size]? = some (.cells #[.float .f64 l0,.float .f64 h0] 28 (0,0)):=by rw [hW3]; exact (alloc_at sP)
 have q0_3:w.heap.size < W2.heap.size:=oM
 have q1_3:w.heap.size + 1 < W2.heap.size:=oM
 have q2_3:w.heap.size + 2 < W2.heap.size:=oM
 replace z0:w.heap.size < W3.heap.size:=by rw [hW3]; simp <;> omega
 replace z1:w.heap.size + 1 < W3.heap.size:=by rw [hW3]; simp <;> omega
 replace z2:w.heap.size + 2 < W3.heap.size:=by rw [hW3]; simp <;> omega
 have z3:W2.heap.size < W3.heap.size:=by rw [hW3]; simp <;> omega
 replace B:Below w.heap.size w W3:=by rw [hW3]; exact (bT B (below_alloc _ _))
 clear hW3
 clear f0_0 f0_1 f0_2 f0_3 y0_0 y0_1 y0_2 y0_3 f1_0 f1_1 f1_2 f1_3 y1_0 y1_1 y1_2 y1_3 f2_0 f2_1 f2_2 f2_3 y2_0 y2_1 y2_2 y2_3
 obtain ⟨f0_0,f0_1,f0_2,f0_3,y0_0,y0_1,y0_2,y0_3⟩:=bx4 X0
 obtain ⟨f1_0,f1_1,f1_2,f1_3,y1_0,y1_1,y1_2,y1_3⟩:=bx4 X1
 obtain ⟨f2_0,f2_1,f2_2,f2_3,y2_0,y2_1,y2_2,y2_3⟩:=bx4 X2
 obtain ⟨f3_0,f3_1,y3_0,y3_1⟩:=bx2 X3
 go_wp2_with fail
 refine (H1.out _).mono ?_
 rintro e W4 ⟨rfl,hb4⟩
 replace X0:=(hb4.block _ z0).trans X0
 replace z0:=lL z0 hb4.size
 replace X1:=(hb4.block _ z1).trans X1
 replace z1:=lL z1 hb4.size
 replace X2:=(hb4.block _ z2).trans X2
 replace z2:=lL z2 hb4.size
 replace X3:=(hb4.block _ z3).trans X3
 replace z3:=lL z3 hb4.size
 replace B:=bT B hb4
 clear hb4
 clear f0_0 f0_1 f0_2 f0_3 y0_0 y0_1 y0_2 y0_3 f1_0 f1_1 f1_2 f1_3 y1_0 y1_1 y1_2 y1_3 f2_0 f2_1 f2_2 f2_3 y2_0 y2_1 y2_2 y2_3 f3_0 f3_1 y3_0 y3_1
 obtain ⟨f0_0,f0_1,f0_2,f0_3,y0_0,y0_1,y0_2,y0_3⟩:=bx4 X0
 obtain ⟨f1_0,f1_1,f1_2,f1_3,y1_0,y1_1,y1_2,y1_3⟩:=bx4 X1
 obtain ⟨f2_0,f2_1,f2_2,f2_3,y2_0,y2_1,y2_2,y2_3⟩:=bx4 X2
 obtain ⟨f3_0,f3_1,y3_0,y3_1⟩:=bx2 X3
 go_upto_region 4 with fail
 obtain ⟨W5,hW5⟩:∃ W:World,W = W4.alloc (.cells #[.float .f64 l1,.float .f64 h1] 28):=⟨_,rfl⟩
 rw [<- hW5]
 replace X0:W5.heap[w.heap.size]? = some (.cells #[.float .f64 b.re.lo,.float .f64 b.re.hi,.float .f64 b.im.lo,.float .f64 b.im.hi] 65 (0,0)):=by rw [hW5]; exact ((heap_alloc_old _ _ (by first | omega | (simp <;> omega))).trans X0)
 replace X1:W5.heap[w.heap.size + 1]? = some (.cells #[.float .f64 c.re.lo,.float .f64 c.re.hi,.float .f64 c.im.lo,.float .f64 c.im.hi] 65 (0,0)):=by rw [hW5]; exact ((heap_alloc_old _ _ (by first | omega | (simp <;> omega))).trans X1)
 replace X2:W5.heap[w.heap.size + 2]? = some (.cells #[.float .f64 0,.float .f64 0,.float .f64 0,.float .f64 0] 65 (0,0)):=by rw [hW5]; exact ((heap_alloc_old _ _ (by first | omega | (simp <;> omega))).trans X2)
 replace X3:W5.heap[W2.heap.size]? = some (.cells #[.float .f64 l0,.float .f64 h0] 28 (0,0)):=by rw [hW5]; exact ((heap_alloc_old _ _ (by first | omega | (simp <;> omega))).trans X3)
 have X4:W5.heap[W4.heap.size]? = some (.cells #[.float .f64 l1,.float .f64 h1] 28 (0,0)):=by rw [hW5]; exact (alloc_at sP)
 have q0_4:w.heap.size < W4.heap.size:=oM
 have q1_4:w.heap.size + 1 < W4.heap.size:=oM
 have q2_4:w.heap.size + 2 < W4.heap.size:=oM
 have q3_4:W2.heap.size < W4.heap.size:=oM
 replace z0:w.heap.size < W5.heap.size:=by rw [hW5]; simp <;> omega
 replace z1:w.heap.size + 1 < W5.heap.size:=by rw [hW5]; simp <;> omega
 replace z2:w.heap.size + 2 < W5.heap.size:=by rw [hW5]; simp <;> omega
 replace z3:W2.heap.size < W5.heap.size:=by rw [hW5]; simp <;> omega
 have z4:W4.heap.size < W5.heap.size:=by rw [hW5]; simp <;> omega
 replace B:Below w.heap.size w W5:=by rw [hW5]; exact (bT B (below_alloc _ _))
 clear hW5
 clear f0_0 f0_1 f0_2 f0_3 y0_0 y0_1 y0_2 y0_3 f1_0 f1_1 f1_2 f1_3 y1_0 y1_1 y1_2 y1_3 f2_0 f2_1 f2_2 f2_3 y2_0 y2_1 y2_2 y2_3 f3_0 f3_1 y3_0 y3_1
 obtain ⟨f0_0,f0_1,f0_2,f0_3,y0_0,y0_1,y0_2,y0_3⟩:=bx4 X0
 obtain ⟨f1_0,f1_1,f1_2,f1_3,y1_0,y1_1,y1_2,y1_3⟩:=bx4 X1
 obtain ⟨f2_0,f2_1,f2_2,f2_3,y2_0,y2_1,y2_2,y2_3⟩:=bx4 X2
 obtain ⟨f3_0,f3_1,y3_0,y3_1⟩:=bx2 X3
 obtain ⟨f4_0,f4_1,y4_0,y4_1⟩:=bx2 X4
 go_wp2
 refine bodyPost_ret (v:=.tuple #[.agg #[.float .f64 0,.float .f64 0,.float .f64 0,.float .f64 0],.bool false]) (by simp [results,Tryz.results24,go_sem,f0_0,f0_1,f0_2,f0_3,y0_0,y0_1,y0_2,y0_3,f1_0,f1_1,f1_2,f1_3,y1_0,y1_1,y1_2,y1_3,f2_0,f2_1,f2_2,f2_3,y2_0,y2_1,y2_2,y2_3,f3_0,f3_1,y3_0,y3_1,f4_0,f4_1,y4_0,y4_1]) rfl ?_
 exact ⟨rfl,(Below.setCell (p:=⟨w.heap.size + 2,3,none⟩) (Below.setCell (p:=⟨w.heap.size + 2,2,none⟩) (Below.setCell (p:=⟨w.heap.size + 2,1,none⟩) (Below.setCell (p:=⟨w.heap.size + 2,0,none⟩) B (show w.heap.size <= w.heap.size + 2 by omega) _) (show w.heap.size <= w.heap.size + 2 by omega) _) (show w.heap.size <= w.heap.size + 2 by omega) _) (show w.heap.size <= w.heap.size + 2 by omega) _)⟩
theorem meetB_01 (b c:Bx) (l0 h0 l1 h1:Nat) (H0:Hid (∀ W,Calls Tryz.prog 74 #[.agg #[.float .f64 b.re.lo,.float .f64 b.re.hi],.agg #[.float .f64 c.re.lo,.float .f64 c.re.hi]] W fun e w'=>e = .returned (.tuple #[.agg #[.float .f64 l0,.float .f64 h0],.bool false]) /\ Below W.heap.size W w')) (H1:Hid (∀ W,Calls Tryz.prog 74 #[.agg #[.float .f64 b.im.lo,.float .f64 b.im.hi],.agg #[.float .f64 c.im.lo,.float .f64 c.im.hi]] W fun e w'=>e = .returned (.tuple #[.agg #[.float .f64 l1,.float .f64 h1],.bool true]) /\ Below W.heap.size W w')) (w:World):Calls Tryz.prog 24 #[.agg #[.float .f64 b.re.lo,.float .f64 b.re.hi,.float .f64 b.im.lo,.float .f64 b.im.hi],.agg #[.float .f64 c.re.lo,.float .f64 c.re.hi,.float .f64 c.im.lo,.float .f64 c.im.hi]] w fun e w'=>e = .returned (.tuple #[.agg #[.float .f64 0,.float .f64 0,.float .f64 0,.float .f64 0],.bool false]) /\ Below w.heap.size w w':=by
 have hfb:=floatbits_run
 have hsf:=store_float
 go_enter Tryz.func24,Tryz.ntmps24
 go_upto_region 1 with fail
 obtain ⟨W1,hW1⟩:∃ W:World,W = ((w.alloc (.cells #[.float .f64 b.re.lo,.float .f64 b.re.hi,.float .f64 b.im.lo,.float .f64 b.im.hi] 65)).alloc (.cells #[.float .f64 c.re.lo,.float .f64 c.re.hi,.float .f64 c.im.lo,.float .f64 c.im.hi] 65)).alloc (.cells #[.float .f64 0,.float .f64 0,.float .f64 0,.float .f64 0] 65):=⟨_,rfl⟩
 rw [<- hW1]
 have X0:W1.heap[w.heap.size]? = some (.cells #[.float .f64 b.re.lo,.float .f64 b.re.hi,.float .f64 b.im.lo,.float .f64 b.im.hi] 65 (0,0)):=by rw [hW1]; exact ((heap_alloc_old _ _ (by first | omega | (simp <;> omega))).trans ((heap_alloc_old _ _ (by first | omega | (simp <;> omega))).trans (alloc_at sP)))
 have X1:W1.heap[w.heap.size + 1]? = some (.cells #[.float .f64 c.re.lo,.float .f64 c.re.hi,.float .f64 c.im.lo,.float .f64 c.im.hi] 65 (0,0)):=by rw [hW1]; exact ((heap_alloc_old _ _ (by first | omega | (simp <;> omega))).trans (alloc_at sP))
 have X2:W1.heap[w.heap.size + 2]? = some (.cells #[.float .f64 0,.float .f64 0,.float .f64 0,.float .f64 0] 65 (0,0)):=by rw [hW1]; exact (alloc_at sP)
 have z0:w.heap.size < W1.heap.size:=by rw [hW1]; simp <;> omega
 have z1:w.heap.size + 1 < W1.heap.size:=by rw [hW1]; simp <;> omega
 have z2:w.heap.size + 2 < W1.heap.size:=by rw [hW1]; simp <;> omega
 have B:Below w.heap.size w W1:=by rw [hW1]; exact (bT (bT (bT (Below.refl w.heap.size w) (below_alloc _ _)) (below_alloc _ _)) (below_alloc _ _))
 clear hW1
 obtain ⟨f0_0,f0_1,f0_2,f0_3,y0_0,y0_1,y0_2,y0_3⟩:=bx4 X0
 obtain ⟨f1_0,f1_1,f1_2,f1_3,y1_0,y1_1,y1_2,y1_3⟩:=bx4 X1
 obtain ⟨f2_0,f2_1,f2_2,f2_3,y2_0,y2_1,y2_2,y2_3⟩:=bx4 X2
 go_wp2_with fail
 refine (H0.out _).mono ?_
 rintro e W2 ⟨rfl,hb2⟩
 replace X0:=(hb2.block _ z0).trans X0
 replace z0:=lL z0 hb2.size
 replace X1:=(hb2.block _ z1).trans X1
 replace z1:=lL z1 hb2.size
 replace X2:=(hb2.block _ z2).trans X2
 replace z2:=lL z2 hb2.size
 replace B:=bT B hb2
 clear hb2
 clear f0_0 f0_1 f0_2 f0_3 y0_0 y0_1 y0_2 y0_3 f1_0 f1_1 f1_2 f1_3 y1_0 y1_1 y1_2 y1_3 f2_0 f2_1 f2_2 f2_3 y2_0 y2_1 y2_2 y2_3
 obtain ⟨f0_0,f0_1,f0_2,f0_3,y0_0,y0_1,y0_2,y0_3⟩:=bx4 X0
 obtain ⟨f1_0,f1_1,f1_2,f1_3,y1_0,y1_1,y1_2,y1_3⟩:=bx4 X1
 obtain ⟨f2_0,f2_1,f2_2,f2_3,y2_0,y2_1,y2_2,y2_3⟩:=bx4 X2
 go_upto_region 2 with fail
 obtain ⟨W3,hW3⟩:∃ W:World,W = W2.alloc (.cells #[.float .f64 l0,.float .f64 h0] 28):=⟨_,rfl⟩
 rw [<- hW3]
 replace X0:W3.heap[w.heap.size]? = some (.cells #[.float .f64 b.re.lo,.float .f64 b.re.hi,.float .f64 b.im.lo,.float .f64 b.im.hi] 65 (0,0)):=by rw [hW3]; exact ((heap_alloc_old _ _ (by first | omega | (simp <;> omega))).trans X0)
 replace X1:W3.heap[w.heap.size + 1]? = some (.cells #[.float .f64 c.re.lo,.float .f64 c.re.hi,.float .f64 c.im.lo,.float .f64 c.im.hi] 65 (0,0)):=by rw [hW3]; exact ((heap_alloc_old _ _ (by first | omega | (simp <;> omega))).trans X1)
 replace X2:W3.heap[w.heap.size + 2]? = some (.cells #[.float .f64 0,.float .f64 0,.float .f64 0,.float .f64 0] 65 (0,0)):=by rw [hW3]; exact ((heap_alloc_old _ _ (by first | omega | (simp <;> omega))).trans X2)
 have X3:W3.heap[W2.heap.size]? = some (.cells #[.float .f64 l0,.float .f64 h0] 28 (0,0)):=by rw [hW3]; exact (alloc_at sP)
 have q0_3:w.heap.size < W2.heap.size:=oM
 have q1_3:w.heap.size + 1 < W2.heap.size:=oM
 have q2_3:w.heap.size + 2 < W2.heap.size:=oM
 replace z0:w.heap.size < W3.heap.size:=by rw [hW3]; simp <;> omega
 replace z1:w.heap.size + 1 < W3.heap.size:=by rw [hW3]; simp <;> omega
 replace z2:w.heap.size + 2 < W3.heap.size:=by rw [hW3]; simp <;> omega
 have z3:W2.heap.size < W3.heap.size:=by rw [hW3]; simp <;> omega
 replace B:Below w.heap.size w W3:=by rw [hW3]; exact (bT B (below_alloc _ _))
 clear hW3
 clear f0_0 f0_1 f0_2 f0_3 y0_0 y0_1 y0_2 y0_3 f1_0 f1_1 f1_2 f1_3 y1_0 y1_1 y1_2 y1_3 f2_0 f2_1 f2_2 f2_3 y2_0 y2_1 y2_2 y2_3
 obtain ⟨f0_0,f0_1,f0_2,f0_3,y0_0,y0_1,y0_2,y0_3⟩:=bx4 X0
 obtain ⟨f1_0,f1_1,f1_2,f1_3,y1_0,y1_1,y1_2,y1_3⟩:=bx4 X1
 obtain ⟨f2_0,f2_1,f2_2,f2_3,y2_0,y2_1,y2_2,y2_3⟩:=bx4 X2
 obtain ⟨f3_0,f3_1,y3_0,y3_1⟩:=bx2 X3
 go_wp2_with fail
 refine (H1.out _).mono ?_
 rintro e W4 ⟨rfl,hb4⟩
 replace X0:=(hb4.block _ z0).trans X0
 replace z0:=lL z0 hb4.size
 replace X1:=(hb4.block _ z1).trans X1
 replace z1:=lL z1 hb4.size
 replace X2:=(hb4.block _ z2).trans X2
 replace z2:=lL z2 hb4.size
 replace X3:=(hb4.block _ z3).trans X3
 replace z3:=lL z3 hb4.size
 replace B:=bT B hb4
 clear hb4
 clear f0_0 f0_1 f0_2 f0_3 y0_0 y0_1 y0_2 y0_3 f1_0 f1_1 f1_2 f1_3 y1_0 y1_1 y1_2 y1_3 f2_0 f2_1 f2_2 f2_3 y2_0 y2_1 y2_2 y2_3 f3_0 f3_1 y3_0 y3_1
 obtain ⟨f0_0,f0_1,f0_2,f0_3,y0_0,y0_1,y0_2,y0_3⟩:=bx4 X0
 obtain ⟨f1_0,f1_1,f1_2,f1_3,y1_0,y1_1,y1_2,y1_3⟩:=bx4 X1
 obtain ⟨f2_0,f2_1,f2_2,f2_3,y2_0,y2_1,y2_2,y2_3⟩:=bx4 X2
 obtain ⟨f3_0,f3_1,y3_0,y3_1⟩:=bx2 X3
 go_upto_region 4 with fail
 obtain ⟨W5,hW5⟩:∃ W:World,W = W4.alloc (.cells #[.float .f64 l1,.float .f64 h1] 28):=⟨_,rfl⟩
 rw [<- hW5]
 replace X0:W5.heap[w.heap.size]? = some (.cells #[.float .f64 b.re.lo,.float .f64 b.re.hi,.float .f64 b.im.lo,.float .f64 b.im.hi] 65 (0,0)):=by rw [hW5]; exact ((heap_alloc_old _ _ (by first | omega | (simp <;> omega))).trans X0)
 replace X1:W5.heap[w.heap.size + 1]? = some (.cells #[.float .f64 c.re.lo,.float .f64 c.re.hi,.float .f64 c.im.lo,.float .f64 c.im.hi] 65 (0,0)):=by rw [hW5]; exact ((heap_alloc_old _ _ (by first | omega | (simp <;> omega))).trans X1)
 replace X2:W5.heap[w.heap.size + 2]? = some (.cells #[.float .f64 0,.float .f64 0,.float .f64 0,.float .f64 0] 65 (0,0)):=by rw [hW5]; exact ((heap_alloc_old _ _ (by first | omega | (simp <;> omega))).trans X2)
 replace X3:W5.heap[W2.heap.size]? = some (.cells #[.float .f64 l0,.float .f64 h0] 28 (0,0)):=by rw [hW5]; exact ((heap_alloc_old _ _ (by first | omega | (simp <;> omega))).trans X3)
 have X4:W5.heap[W4.heap.size]? = some (.cells #[.float .f64 l1,.float .f64 h1] 28 (0,0)):=by rw [hW5]; exact (alloc_at sP)
 have q0_4:w.heap.size < W4.heap.size:=oM
 have q1_4:w.heap.size + 1 < W4.heap.size:=oM
 have q2_4:w.heap.size + 2 < W4.heap.size:=oM
 have q3_4:W2.heap.size < W4.heap.size:=oM
 replace z0:w.heap.size < W5.heap.size:=by rw [hW5]; simp <;> omega
 replace z1:w.heap.size + 1 < W5.heap.size:=by rw [hW5]; simp <;> omega
 replace z2:w.heap.size + 2 < W5.heap.size:=by rw [hW5]; simp <;> omega
 replace z3:W2.heap.size < W5.heap.size:=by rw [hW5]; simp <;> omega
 have z4:W4.heap.size < W5.heap.size:=by rw [hW5]; simp <;> omega
 replace B:Below w.heap.size w W5:=by rw [hW5]; exact (bT B (below_alloc _ _))
 clear hW5
 clear f0_0 f0_1 f0_2 f0_3 y0_0 y0_1 y0_2 y0_3 f1_0 f1_1 f1_2 f1_3 y1_0 y1_1 y1_2 y1_3 f2_0 f2_1 f2_2 f2_3 y2_0 y2_1 y2_2 y2_3 f3_0 f3_1 y3_0 y3_1
 obtain ⟨f0_0,f0_1,f0_2,f0_3,y0_0,y0_1,y0_2,y0_3⟩:=bx4 X0
 obtain ⟨f1_0,f1_1,f1_2,f1_3,y1_0,y1_1,y1_2,y1_3⟩:=bx4 X1
 obtain ⟨f2_0,f2_1,f2_2,f2_3,y2_0,y2_1,y2_2,y2_3⟩:=bx4 X2
 obtain ⟨f3_0,f3_1,y3_0,y3_1⟩:=bx2 X3
 obtain ⟨f4_0,f4_1,y4_0,y4_1⟩:=bx2 X4
 go_wp2
 refine bodyPost_ret (v:=.tuple #[.agg #[.float .f64 0,.float .f64 0,.float .f64 0,.float .f64 0],.bool false]) (by simp [results,Tryz.results24,go_sem,f0_0,f0_1,f0_2,f0_3,y0_0,y0_1,y0_2,y0_3,f1_0,f1_1,f1_2,f1_3,y1_0,y1_1,y1_2,y1_3,f2_0,f2_1,f2_2,f2_3,y2_0,y2_1,y2_2,y2_3,f3_0,f3_1,y3_0,y3_1,f4_0,f4_1,y4_0,y4_1]) rfl ?_
 exact ⟨rfl,(Below.setCell (p:=⟨w.heap.size + 2,3,none⟩) (Below.setCell (p:=⟨w.heap.size + 2,2,none⟩) (Below.setCell (p:=⟨w.heap.size + 2,1,none⟩) (Below.setCell (p:=⟨w.heap.size + 2,0,none⟩) B (show w.heap.size <= w.heap.size + 2 by omega) _) (show w.heap.size <= w.heap.size + 2 by omega) _) (show w.heap.size <= w.heap.size + 2 by omega) _) (show w.heap.size <= w.heap.size + 2 by omega) _)⟩
theorem meetB_10 (b c:Bx) (l0 h0 l1 h1:Nat) (H0:Hid (∀ W,Calls Tryz.prog 74 #[.agg #[.float .f64 b.re.lo,.float .f64 b.re.hi],.agg #[.float .f64 c.re.lo,.float .f64 c.re.hi]] W fun e w'=>e = .returned (.tuple #[.agg #[.float .f64 l0,.float .f64 h0],.bool true]) /\ Below W.heap.size W w')) (H1:Hid (∀ W,Calls Tryz.prog 74 #[.agg #[.float .f64 b.im.lo,.float .f64 b.im.hi],.agg #[.float .f64 c.im.lo,.float .f64 c.im.hi]] W fun e w'=>e = .returned (.tuple #[.agg #[.float .f64 l1,.float .f64 h1],.bool false]) /\ Below W.heap.size W w')) (w:World):Calls Tryz.prog 24 #[.agg #[.float .f64 b.re.lo,.float .f64 b.re.hi,.float .f64 b.im.lo,.float .f64 b.im.hi],.agg #[.float .f64 c.re.lo,.float .f64 c.re.hi,.float .f64 c.im.lo,.float .f64 c.im.hi]] w fun e w'=>e = .returned (.tuple #[.agg #[.float .f64 0,.float .f64 0,.float .f64 0,.float .f64 0],.bool false]) /\ Below w.heap.size w w':=by
 have hfb:=floatbits_run
 have hsf:=store_float
 go_enter Tryz.func24,Tryz.ntmps24
 go_upto_region 1 with fail
 obtain ⟨W1,hW1⟩:∃ W:World,W = ((w.alloc (.cells #[.float .f64 b.re.lo,.float .f64 b.re.hi,.float .f64 b.im.lo,.float .f64 b.im.hi] 65)).alloc (.cells #[.float .f64 c.re.lo,.float .f64 c.re.hi,.float .f64 c.im.lo,.float .f64 c.im.hi] 65)).alloc (.cells #[.float .f64 0,.float .f64 0,.float .f64 0,.float .f64 0] 65):=⟨_,rfl⟩
 rw [<- hW1]
 have X0:W1.heap[w.heap.size]? = some (.cells #[.float .f64 b.re.lo,.float .f64 b.re.hi,.float .f64 b.im.lo,.float .f64 b.im.hi] 65 (0,0)):=by rw [hW1]; exact ((heap_alloc_old _ _ (by first | omega | (simp <;> omega))).trans ((heap_alloc_old _ _ (by first | omega | (simp <;> omega))).trans (alloc_at sP)))
 have X1:W1.heap[w.heap.size + 1]? = some (.cells #[.float .f64 c.re.lo,.float .f64 c.re.hi,.float .f64 c.im.lo,.float .f64 c.im.hi] 65 (0,0)):=by rw [hW1]; exact ((heap_alloc_old _ _ (by first | omega | (simp <;> omega))).trans (alloc_at sP))
 have X2:W1.heap[w.heap.size + 2]? = some (.cells #[.float .f64 0,.float .f64 0,.float .f64 0,.float .f64 0] 65 (0,0)):=by rw [hW1]; exact (alloc_at sP)
 have z0:w.heap.size < W1.heap.size:=by rw [hW1]; simp <;> omega
 have z1:w.heap.size + 1 < W1.heap.size:=by rw [hW1]; simp <;> omega
 have z2:w.heap.size + 2 < W1.heap.size:=by rw [hW1]; simp <;> omega
 have B:Below w.heap.size w W1:=by rw [hW1]; exact (bT (bT (bT (Below.refl w.heap.size w) (below_alloc _ _)) (below_alloc _ _)) (below_alloc _ _))
 clear hW1
 obtain ⟨f0_0,f0_1,f0_2,f0_3,y0_0,y0_1,y0_2,y0_3⟩:=bx4 X0
 obtain ⟨f1_0,f1_1,f1_2,f1_3,y1_0,y1_1,y1_2,y1_3⟩:=bx4 X1
 obtain ⟨f2_0,f2_1,f2_2,f2_3,y2_0,y2_1,y2_2,y2_3⟩:=bx4 X2
 go_wp2_with fail
 refine (H0.out _).mono ?_
 rintro e W2 ⟨rfl,hb2⟩
 replace X0:=(hb2.block _ z0).trans X0
 replace z0:=lL z0 hb2.size
 replace X1:=(hb2.block _ z1).trans X1
 replace z1:=lL z1 hb2.size
 replace X2:=(hb2.block _ z2).trans X2
 replace z2:=lL z2 hb2.size
 replace B:=bT B hb2
 clear hb2
 clear f0_0 f0_1 f0_2 f0_3 y0_0 y0_1 y0_2 y0_3 f1_0 f1_1 f1_2 f1_3 y1_0 y1_1 y1_2 y1_3 f2_0 f2_1 f2_2 f2_3 y2_0 y2_1 y2_2 y2_3
 obtain ⟨f0_0,f0_1,f0_2,f0_3,y0_0,y0_1,y0_2,y0_3⟩:=bx4 X0
 obtain ⟨f1_0,f1_1,f1_2,f1_3,y1_0,y1_1,y1_2,y1_3⟩:=bx4 X1
 obtain ⟨f2_0,f2_1,f2_2,f2_3,y2_0,y2_1,y2_2,y2_3⟩:=bx4 X2
 go_upto_region 2 with fail
 obtain ⟨W3,hW3⟩:∃ W:World,W = W2.alloc (.cells #[.float .f64 l0,.float .f64 h0] 28):=⟨_,rfl⟩
 rw [<- hW3]
 replace X0:W3.heap[w.heap.size]? = some (.cells #[.float .f64 b.re.lo,.float .f64 b.re.hi,.float .f64 b.im.lo,.float .f64 b.im.hi] 65 (0,0)):=by rw [hW3]; exact ((heap_alloc_old _ _ (by first | omega | (simp <;> omega))).trans X0)
 replace X1:W3.heap[w.heap.size + 1]? = some (.cells #[.float .f64 c.re.lo,.float .f64 c.re.hi,.float .f64 c.im.lo,.float .f64 c.im.hi] 65 (0,0)):=by rw [hW3]; exact ((heap_alloc_old _ _ (by first | omega | (simp <;> omega))).trans X1)
 replace X2:W3.heap[w.heap.size + 2]? = some (.cells #[.float .f64 0,.float .f64 0,.float .f64 0,.float .f64 0] 65 (0,0)):=by rw [hW3]; exact ((heap_alloc_old _ _ (by first | omega | (simp <;> omega))).trans X2)
 have X3:W3.heap[W2.heap.size]? = some (.cells #[.float .f64 l0,.float .f64 h0] 28 (0,0)):=by rw [hW3]; exact (alloc_at sP)
 have q0_3:w.heap.size < W2.heap.size:=oM
 have q1_3:w.heap.size + 1 < W2.heap.size:=oM
 have q2_3:w.heap.size + 2 < W2.heap.size:=oM
 replace z0:w.heap.size < W3.heap.size:=by rw [hW3]; simp <;> omega
 replace z1:w.heap.size + 1 < W3.heap.size:=by rw [hW3]; simp <;> omega
 replace z2:w.heap.size + 2 < W3.heap.size:=by rw [hW3]; simp <;> omega
 have z3:W2.heap.size < W3.heap.size:=by rw [hW3]; simp <;> omega
 replace B:Below w.heap.size w W3:=by rw [hW3]; exact (bT B (below_alloc _ _))
 clear hW3
 clear f0_0 f0_1 f0_2 f0_3 y0_0 y0_1 y0_2 y0_3 f1_0 f1_1 f1_2 f1_3 y1_0 y1_1 y1_2 y1_3 f2_0 f2_1 f2_2 f2_3 y2_0 y2_1 y2_2 y2_3
 obtain ⟨f0_0,f0_1,f0_2,f0_3,y0_0,y0_1,y0_2,y0_3⟩:=bx4 X0
 obtain ⟨f1_0,f1_1,f1_2,f1_3,y1_0,y1_1,y1_2,y1_3⟩:=bx4 X1
 obtain ⟨f2_0,f2_1,f2_2,f2_3,y2_0,y2_1,y2_2,y2_3⟩:=bx4 X2
 obtain ⟨f3_0,f3_1,y3_0,y3_1⟩:=bx2 X3
 go_wp2_with fail
 refine (H1.out _).mono ?_
 rintro e W4 ⟨rfl,hb4⟩
 replace X0:=(hb4.block _ z0).trans X0
 replace z0:=lL z0 hb4.size
 replace X1:=(hb4.block _ z1).trans X1
 replace z1:=lL z1 hb4.size
 replace X2:=(hb4.block _ z2).trans X2
 replace z2:=lL z2 hb4.size
 replace X3:=(hb4.block _ z3).trans X3
 replace z3:=lL z3 hb4.size
 replace B:=bT B hb4
 clear hb4
 clear f0_0 f0_1 f0_2 f0_3 y0_0 y0_1 y0_2 y0_3 f1_0 f1_1 f1_2 f1_3 y1_0 y1_1 y1_2 y1_3 f2_0 f2_1 f2_2 f2_3 y2_0 y2_1 y2_2 y2_3 f3_0 f3_1 y3_0 y3_1
 obtain ⟨f0_0,f0_1,f0_2,f0_3,y0_0,y0_1,y0_2,y0_3⟩:=bx4 X0
 obtain ⟨f1_0,f1_1,f1_2,f1_3,y1_0,y1_1,y1_2,y1_3⟩:=bx4 X1
 obtain ⟨f2_0,f2_1,f2_2,f2_3,y2_0,y2_1,y2_2,y2_3⟩:=bx4 X2
 obtain ⟨f3_0,f3_1,y3_0,y3_1⟩:=bx2 X3
 go_upto_region 4 with fail
 obtain ⟨W5,hW5⟩:∃ W:World,W = W4.alloc (.cells #[.float .f64 l1,.float .f64 h1] 28):=⟨_,rfl⟩
 rw [<- hW5]
 replace X0:W5.heap[w.heap.size]? = some (.cells #[.float .f64 b.re.lo,.float .f64 b.re.hi,.float .f64 b.im.lo,.float .f64 b.im.hi] 65 (0,0)):=by rw [hW5]; exact ((heap_alloc_old _ _ (by first | omega | (simp <;> omega))).trans X0)
 replace X1:W5.heap[w.heap.size + 1]? = some (.cells #[.float .f64 c.re.lo,.float .f64 c.re.hi,.float .f64 c.im.lo,.float .f64 c.im.hi] 65 (0,0)):=by rw [hW5]; exact ((heap_alloc_old _ _ (by first | omega | (simp <;> omega))).trans X1)
 replace X2:W5.heap[w.heap.size + 2]? = some (.cells #[.float .f64 0,.float .f64 0,.float .f64 0,.float .f64 0] 65 (0,0)):=by rw [hW5]; exact ((heap_alloc_old _ _ (by first | omega | (simp <;> omega))).trans X2)
 replace X3:W5.heap[W2.heap.size]? = some (.cells #[.float .f64 l0,.float .f64 h0] 28 (0,0)):=by rw [hW5]; exact ((heap_alloc_old _ _ (by first | omega | (simp <;> omega))).trans X3)
 have X4:W5.heap[W4.heap.size]? = some (.cells #[.float .f64 l1,.float .f64 h1] 28 (0,0)):=by rw [hW5]; exact (alloc_at sP)
 have q0_4:w.heap.size < W4.heap.size:=oM
 have q1_4:w.heap.size + 1 < W4.heap.size:=oM
 have q2_4:w.heap.size + 2 < W4.heap.size:=oM
 have q3_4:W2.heap.size < W4.heap.size:=oM
 replace z0:w.heap.size < W5.heap.size:=by rw [hW5]; simp <;> omega
 replace z1:w.heap.size + 1 < W5.heap.size:=by rw [hW5]; simp <;> omega
 replace z2:w.heap.size + 2 < W5.heap.size:=by rw [hW5]; simp <;> omega
 replace z3:W2.heap.size < W5.heap.size:=by rw [hW5]; simp <;> omega
 have z4:W4.heap.size < W5.heap.size:=by rw [hW5]; simp <;> omega
 replace B:Below w.heap.size w W5:=by rw [hW5]; exact (bT B (below_alloc _ _))
 clear hW5
 clear f0_0 f0_1 f0_2 f0_3 y0_0 y0_1 y0_2 y0_3 f1_0 f1_1 f1_2 f1_3 y1_0 y1_1 y1_2 y1_3 f2_0 f2_1 f2_2 f2_3 y2_0 y2_1 y2_2 y2_3 f3_0 f3_1 y3_0 y3_1
 obtain ⟨f0_0,f0_1,f0_2,f0_3,y0_0,y0_1,y0_2,y0_3⟩:=bx4 X0
 obtain ⟨f1_0,f1_1,f1_2,f1_3,y1_0,y1_1,y1_2,y1_3⟩:=bx4 X1
 obtain ⟨f2_0,f2_1,f2_2,f2_3,y2_0,y2_1,y2_2,y2_3⟩:=bx4 X2
 obtain ⟨f3_0,f3_1,y3_0,y3_1⟩:=bx2 X3
 obtain ⟨f4_0,f4_1,y4_0,y4_1⟩:=bx2 X4
 go_wp2
 refine bodyPost_ret (v:=.tuple #[.agg #[.float .f64 0,.float .f64 0,.float .f64 0,.float .f64 0],.bool false]) (by simp [results,Tryz.results24,go_sem,f0_0,f0_1,f0_2,f0_3,y0_0,y0_1,y0_2,y0_3,f1_0,f1_1,f1_2,f1_3,y1_0,y1_1,y1_2,y1_3,f2_0,f2_1,f2_2,f2_3,y2_0,y2_1,y2_2,y2_3,f3_0,f3_1,y3_0,y3_1,f4_0,f4_1,y4_0,y4_1]) rfl ?_
 exact ⟨rfl,(Below.setCell (p:=⟨w.heap.size + 2,3,none⟩) (Below.setCell (p:=⟨w.heap.size + 2,2,none⟩) (Below.setCell (p:=⟨w.heap.size + 2,1,none⟩) (Below.setCell (p:=⟨w.heap.size + 2,0,none⟩) B (show w.heap.size <= w.heap.size + 2 by omega) _) (show w.heap.size <= w.heap.size + 2 by omega) _) (show w.heap.size <= w.heap.size + 2 by omega) _) (show w.heap.size <= w.heap.size + 2 by omega) _)⟩
theorem meetB_11 (b c:Bx) (l0 h0 l1 h1:Nat) (H0:Hid (∀ W,Calls Tryz.prog 74 #[.agg #[.float .f64 b.re.lo,.float .f64 b.re.hi],.agg #[.float .f64 c.re.lo,.float .f64 c.re.hi]] W fun e w'=>e = .returned (.tuple #[.agg #[.float .f64 l0,.float .f64 h0],.bool true]) /\ Below W.heap.size W w')) (H1:Hid (∀ W,Calls Tryz.prog 74 #[.agg #[.float .f64 b.im.lo,.float .f64 b.im.hi],.agg #[.float .f64 c.im.lo,.float .f64 c.im.hi]] W fun e w'=>e = .returned (.tuple #[.agg #[.float .f64 l1,.float .f64 h1],.bool true]) /\ Below W.heap.size W w')) (w:World):Calls Tryz.prog 24 #[.agg #[.float .f64 b.re.lo,.float .f64 b.re.hi,.float .f64 b.im.lo,.float .f64 b.im.hi],.agg #[.float .f64 c.re.lo,.float .f64 c.re.hi,.float .f64 c.im.lo,.float .f64 c.im.hi]] w fun e w'=>e = .returned (.tuple #[.agg #[.float .f64 l0,.float .f64 h0,.float .f64 l1,.float .f64 h1],.bool true]) /\ Below w.heap.size w w':=by
 have hfb:=floatbits_run
 have hsf:=store_float
 go_enter Tryz.func24,Tryz.ntmps24
 go_upto_region 1 with fail
 obtain ⟨W1,hW1⟩:∃ W:World,W = ((w.alloc (.cells #[.float .f64 b.re.lo,.float .f64 b.re.hi,.float .f64 b.im.lo,.float .f64 b.im.hi] 65)).alloc (.cells #[.float .f64 c.re.lo,.float .f64 c.re.hi,.float .f64 c.im.lo,.float .f64 c.im.hi] 65)).alloc (.cells #[.float .f64 0,.float .f64 0,.float .f64 0,.float .f64 0] 65):=⟨_,rfl⟩
 rw [<- hW1]
 have X0:W1.heap[w.heap.size]? = some (.cells #[.float .f64 b.re.lo,.float .f64 b.re.hi,.float .f64 b.im.lo,.float .f64 b.im.hi] 65 (0,0)):=by rw [hW1]; exact ((heap_alloc_old _ _ (by first | omega | (simp <;> omega))).trans ((heap_alloc_old _ _ (by first | omega | (simp <;> omega))).trans (alloc_at sP)))
 have X1:W1.heap[w.heap.size + 1]? = some (.cells #[.float .f64 c.re.lo,.float .f64 c.re.hi,.float .f64 c.im.lo,.float .f64 c.im.hi] 65 (0,0)):=by rw [hW1]; exact ((heap_alloc_old _ _ (by first | omega | (simp <;> omega))).trans (alloc_at sP))
 have X2:W1.heap[w.heap.size + 2]? = some (.cells #[.float .f64 0,.float .f64 0,.float .f64 0,.float .f64 0] 65 (0,0)):=by rw [hW1]; exact (alloc_at sP)
 have z0:w.heap.size < W1.heap.size:=by rw [hW1]; simp <;> omega
 have z1:w.heap.size + 1 < W1.heap.size:=by rw [hW1]; simp <;> omega
 have z2:w.heap.size + 2 < W1.heap.size:=by rw [hW1]; simp <;> omega
 have B:Below w.heap.size w W1:=by rw [hW1]; exact (bT (bT (bT (Below.refl w.heap.size w) (below_alloc _ _)) (below_alloc _ _)) (below_alloc _ _))
 clear hW1
 obtain ⟨f0_0,f0_1,f0_2,f0_3,y0_0,y0_1,y0_2,y0_3⟩:=bx4 X0
 obtain ⟨f1_0,f1_1,f1_2,f1_3,y1_0,y1_1,y1_2,y1_3⟩:=bx4 X1
 obtain ⟨f2_0,f2_1,f2_2,f2_3,y2_0,y2_1,y2_2,y2_3⟩:=bx4 X2
 go_wp2_with fail
 refine (H0.out _).mono ?_
 rintro e W2 ⟨rfl,hb2⟩
 replace X0:=(hb2.block _ z0).trans X0
 replace z0:=lL z0 hb2.size
 replace X1:=(hb2.block _ z1).trans X1
 replace z1:=lL z1 hb2.size
 replace X2:=(hb2.block _ z2).trans X2
 replace z2:=lL z2 hb2.size
 replace B:=bT B hb2
 clear hb2
 clear f0_0 f0_1 f0_2 f0_3 y0_0 y0_1 y0_2 y0_3 f1_0 f1_1 f1_2 f1_3 y1_0 y1_1 y1_2 y1_3 f2_0 f2_1 f2_2 f2_3 y2_0 y2_1 y2_2 y2_3
 obtain ⟨f0_0,f0_1,f0_2,f0_3,y0_0,y0_1,y0_2,y0_3⟩:=bx4 X0
 obtain ⟨f1_0,f1_1,f1_2,f1_3,y1_0,y1_1,y1_2,y1_3⟩:=bx4 X1
 obtain ⟨f2_0,f2_1,f2_2,f2_3,y2_0,y2_1,y2_2,y2_3⟩:=bx4 X2
 go_upto_region 2 with fail
 obtain ⟨W3,hW3⟩:∃ W:World,W = W2.alloc (.cells #[.float .f64 l0,.float .f64 h0] 28):=⟨_,rfl⟩
 rw [<- hW3]
 replace X0:W3.heap[w.heap.size]? = some (.cells #[.float .f64 b.re.lo,.float .f64 b.re.hi,.float .f64 b.im.lo,.float .f64 b.im.hi] 65 (0,0)):=by rw [hW3]; exact ((heap_alloc_old _ _ (by first | omega | (simp <;> omega))).trans X0)
 replace X1:W3.heap[w.heap.size + 1]? = some (.cells #[.float .f64 c.re.lo,.float .f64 c.re.hi,.float .f64 c.im.lo,.float .f64 c.im.hi] 65 (0,0)):=by rw [hW3]; exact ((heap_alloc_old _ _ (by first | omega | (simp <;> omega))).trans X1)
 replace X2:W3.heap[w.heap.size + 2]? = some (.cells #[.float .f64 0,.float .f64 0,.float .f64 0,.float .f64 0] 65 (0,0)):=by rw [hW3]; exact ((heap_alloc_old _ _ (by first | omega | (simp <;> omega))).trans X2)
 have X3:W3.heap[W2.heap.size]? = some (.cells #[.float .f64 l0,.float .f64 h0] 28 (0,0)):=by rw [hW3]; exact (alloc_at sP)
 have q0_3:w.heap.size < W2.heap.size:=oM
 have q1_3:w.heap.size + 1 < W2.heap.size:=oM
 have q2_3:w.heap.size + 2 < W2.heap.size:=oM
 replace z0:w.heap.size < W3.heap.size:=by rw [hW3]; simp <;> omega
 replace z1:w.heap.size + 1 < W3.heap.size:=by rw [hW3]; simp <;> omega
 replace z2:w.heap.size + 2 < W3.heap.size:=by rw [hW3]; simp <;> omega
 have z3:W2.heap.size < W3.heap.size:=by rw [hW3]; simp <;> omega
 replace B:Below w.heap.size w W3:=by rw [hW3]; exact (bT B (below_alloc _ _))
 clear hW3
 clear f0_0 f0_1 f0_2 f0_3 y0_0 y0_1 y0_2 y0_3 f1_0 f1_1 f1_2 f1_3 y1_0 y1_1 y1_2 y1_3 f2_0 f2_1 f2_2 f2_3 y2_0 y2_1 y2_2 y2_3
 obtain ⟨f0_0,f0_1,f0_2,f0_3,y0_0,y0_1,y0_2,y0_3⟩:=bx4 X0
 obtain ⟨f1_0,f1_1,f1_2,f1_3,y1_0,y1_1,y1_2,y1_3⟩:=bx4 X1
 obtain ⟨f2_0,f2_1,f2_2,f2_3,y2_0,y2_1,y2_2,y2_3⟩:=bx4 X2
 obtain ⟨f3_0,f3_1,y3_0,y3_1⟩:=bx2 X3
 go_wp2_with fail
 refine (H1.out _).mono ?_
 rintro e W4 ⟨rfl,hb4⟩
 replace X0:=(hb4.block _ z0).trans X0
 replace z0:=lL z0 hb4.size
 replace X1:=(hb4.block _ z1).trans X1
 replace z1:=lL z1 hb4.size
 replace X2:=(hb4.block _ z2).trans X2
 replace z2:=lL z2 hb4.size
 replace X3:=(hb4.block _ z3).trans X3
 replace z3:=lL z3 hb4.size
 replace B:=bT B hb4
 clear hb4
 clear f0_0 f0_1 f0_2 f0_3 y0_0 y0_1 y0_2 y0_3 f1_0 f1_1 f1_2 f1_3 y1_0 y1_1 y1_2 y1_3 f2_0 f2_1 f2_2 f2_3 y2_0 y2_1 y2_2 y2_3 f3_0 f3_1 y3_0 y3_1
 obtain ⟨f0_0,f0_1,f0_2,f0_3,y0_0,y0_1,y0_2,y0_3⟩:=bx4 X0
 obtain ⟨f1_0,f1_1,f1_2,f1_3,y1_0,y1_1,y1_2,y1_3⟩:=bx4 X1
 obtain ⟨f2_0,f2_1,f2_2,f2_3,y2_0,y2_1,y2_2,y2_3⟩:=bx4 X2
 obtain ⟨f3_0,f3_1,y3_0,y3_1⟩:=bx2 X3
 go_upto_region 5 with fail
 obtain ⟨W5,hW5⟩:∃ W:World,W = W4.alloc (.cells #[.float .f64 l1,.float .f64 h1] 28):=⟨_,rfl⟩
 rw [<- hW5]
 replace X0:W5.heap[w.heap.size]? = some (.cells #[.float .f64 b.re.lo,.float .f64 b.re.hi,.float .f64 b.im.lo,.float .f64 b.im.hi] 65 (0,0)):=by rw [hW5]; exact ((heap_alloc_old _ _ (by first | omega | (simp <;> omega))).trans X0)
 replace X1:W5.heap[w.heap.size + 1]? = some (.cells #[.float .f64 c.re.lo,.float .f64 c.re.hi,.float .f64 c.im.lo,.float .f64 c.im.hi] 65 (0,0)):=by rw [hW5]; exact ((heap_alloc_old _ _ (by first | omega | (simp <;> omega))).trans X1)
 replace X2:W5.heap[w.heap.size + 2]? = some (.cells #[.float .f64 0,.float .f64 0,.float .f64 0,.float .f64 0] 65 (0,0)):=by rw [hW5]; exact ((heap_alloc_old _ _ (by first | omega | (simp <;> omega))).trans X2)
 replace X3:W5.heap[W2.heap.size]? = some (.cells #[.float .f64 l0,.float .f64 h0] 28 (0,0)):=by rw [hW5]; exact ((heap_alloc_old _ _ (by first | omega | (simp <;> omega))).trans X3)
 have X4:W5.heap[W4.heap.size]? = some (.cells #[.float .f64 l1,.float .f64 h1] 28 (0,0)):=by rw [hW5]; exact (alloc_at sP)
 have q0_4:w.heap.size < W4.heap.size:=oM
 have q1_4:w.heap.size + 1 < W4.heap.size:=oM
 have q2_4:w.heap.size + 2 < W4.heap.size:=oM
 have q3_4:W2.heap.size < W4.heap.size:=oM
 replace z0:w.heap.size < W5.heap.size:=by rw [hW5]; simp <;> omega
 replace z1:w.heap.size + 1 < W5.heap.size:=by rw [hW5]; simp <;> omega
 replace z2:w.heap.size + 2 < W5.heap.size:=by rw [hW5]; simp <;> omega
 replace z3:W2.heap.size < W5.heap.size:=by rw [hW5]; simp <;> omega
 have z4:W4.heap.size < W5.heap.size:=by rw [hW5]; simp <;> omega
 replace B:Below w.heap.size w W5:=by rw [hW5]; exact (bT B (below_alloc _ _))
 clear hW5
 clear f0_0 f0_1 f0_2 f0_3 y0_0 y0_1 y0_2 y0_3 f1_0 f1_1 f1_2 f1_3 y1_0 y1_1 y1_2 y1_3 f2_0 f2_1 f2_2 f2_3 y2_0 y2_1 y2_2 y2_3 f3_0 f3_1 y3_0 y3_1
 obtain ⟨f0_0,f0_1,f0_2,f0_3,y0_0,y0_1,y0_2,y0_3⟩:=bx4 X0
 obtain ⟨f1_0,f1_1,f1_2,f1_3,y1_0,y1_1,y1_2,y1_3⟩:=bx4 X1
 obtain ⟨f2_0,f2_1,f2_2,f2_3,y2_0,y2_1,y2_2,y2_3⟩:=bx4 X2
 obtain ⟨f3_0,f3_1,y3_0,y3_1⟩:=bx2 X3
 obtain ⟨f4_0,f4_1,y4_0,y4_1⟩:=bx2 X4
 go_wp2
 refine bodyPost_ret (v:=.tuple #[.agg #[.float .f64 l0,.float .f64 h0,.float .f64 l1,.float .f64 h1],.bool true]) (by simp [results,Tryz.results24,go_sem,f0_0,f0_1,f0_2,f0_3,y0_0,y0_1,y0_2,y0_3,f1_0,f1_1,f1_2,f1_3,y1_0,y1_1,y1_2,y1_3,f2_0,f2_1,f2_2,f2_3,y2_0,y2_1,y2_2,y2_3,f3_0,f3_1,y3_0,y3_1,f4_0,f4_1,y4_0,y4_1]) rfl ?_
 exact ⟨rfl,(Below.setCell (p:=⟨w.heap.size + 2,3,none⟩) (Below.setCell (p:=⟨w.heap.size + 2,2,none⟩) (Below.setCell (p:=⟨w.heap.size + 2,1,none⟩) (Below.setCell (p:=⟨w.heap.size + 2,0,none⟩) B (show w.heap.size <= w.heap.size + 2 by omega) _) (show w.heap.size <= w.heap.size + 2 by omega) _) (show w.heap.size <= w.heap.size + 2 by omega) _) (show w.heap.size <= w.heap.size + 2 by omega) _)⟩
theorem meetB_any (b c:Bx) (hb:b.Ok) (hc:c.Ok) (w:World):Calls Tryz.prog 24 #[b.v,c.v] w fun e w'=>e = .returned (.tuple #[(b.meet c).v,.bool (b.meets c)]) /\ Below w.heap.size w w':=by
 have H0:=fun W=>meet_any b.re c.re hb.re hc.re W
 have H1:=fun W=>meet_any b.im c.im hb.im hc.im W
 cases h0:b.re.meets c.re
 ·have e:b.meets c = false:=by unfold Bx.meets; rw [h0]; rfl
  have e2:b.meet c = .zero:=by unfold Bx.meet; rw [e]; rfl
  rw [e,e2]
  rw [h0] at H0
  cases h1:b.im.meets c.im
  ·rw [h1] at H1
   exact meetB_00 b c _ _ _ _ (hid H0) (hid H1) w
  ·rw [h1] at H1
   exact meetB_01 b c _ _ _ _ (hid H0) (hid H1) w
 ·rw [h0] at H0
  cases h1:b.im.meets c.im
  ·have e:b.meets c = false:=by unfold Bx.meets; rw [h0,h1]; rfl
   have e2:b.meet c = .zero:=by unfold Bx.meet; rw [e]; rfl
   rw [e,e2]
   rw [h1] at H1
   exact meetB_10 b c _ _ _ _ (hid H0) (hid H1) w
  ·have e:b.meets c = true:=by unfold Bx.meets; rw [h0,h1]; rfl
   have e2:b.meet c = ⟨b.re.meet c.re,b.im.meet c.im⟩:=by unfold Bx.meet Sp.meet; rw [e,h0,h1]; rfl
   rw [e,e2]
   rw [h1] at H1
   exact meetB_11 b c _ _ _ _ (hid H0) (hid H1) w
theorem inB_00 (b c:Bx) (H0:Hid (∀ W,Calls Tryz.prog 14 #[.agg #[.float .f64 b.re.lo,.float .f64 b.re.hi],.agg #[.float .f64 c.re.lo,.float .f64 c.re.hi]] W fun e w'=>e = .returned (.bool false) /\ Below W.heap.size W w')) (w:World):Calls Tryz.prog 31 #[.agg #[.float .f64 b.re.lo,.float .f64 b.re.hi,.float .f64 b.im.lo,.float .f64 b.im.hi],.agg #[.float .f64 c.re.lo,.float .f64 c.re.hi,.float .f64 c.im.lo,.float .f64 c.im.hi]] w fun e w'=>e = .returned (.bool false) /\ Below w.heap.size w w':=by
 have hfb:=floatbits_run
 have hsf:=store_float
 go_enter Tryz.func31,Tryz.ntmps31
 go_wp2_with fail
 obtain ⟨W1,hW1⟩:∃ W:World,W = (w.alloc (.cells #[.float .f64 b.re.lo,.float .f64 b.re.hi,.float .f64 b.im.lo,.float .f64 b.im.hi] 65)).alloc (.cells #[.float .f64 c.re.lo,.float .f64 c.re.hi,.float .f64 c.im.lo,.float .f64 c.im.hi] 65):=⟨_,rfl⟩
 rw [<- hW1]
 have X0:W1.heap[w.heap.size]? = some (.cells #[.float .f64 b.re.lo,.float .f64 b.re.hi,.float .f64 b.im.lo,.float .f64 b.im.hi] 65 (0,0)):=by rw [hW1]; exact ((heap_alloc_old _ _ (by first | omega | (simp <;> omega))).trans (alloc_at sP))
 have X1:W1.heap[w.heap.size + 1]? = some (.cells #[.float .f64 c.re.lo,.float .f64 c.re.hi,.float .f64 c.im.lo,.float .f64 c.im.hi] 65 (0,0)):=by rw [hW1]; exact (alloc_at sP)
 have z0:w.heap.size < W1.heap.size:=by rw [hW1]; simp <;> omega
 have z1:w.heap.size + 1 < W1.heap.size:=by rw [hW1]; simp <;> omega
 have B:Below w.heap.size w W1:=by rw [hW1]; exact (bT (bT (Below.refl w.heap.size w) (below_alloc _ _)) (below_alloc _ _))
 clear hW1
 refine (H0.out _).mono ?_
 rintro e W2 ⟨rfl,hb2⟩
 replace X0:=(hb2.block _ z0).trans X0
 replace z0:=lL z0 hb2.size
 replace X1:=(hb2.block _ z1).trans X1
 replace z1:=lL z1 hb2.size
 replace B:=bT B hb2
 clear hb2
 obtain ⟨f0_0,f0_1,f0_2,f0_3,y0_0,y0_1,y0_2,y0_3⟩:=bx4 X0
 obtain ⟨f1_0,f1_1,f1_2,f1_3,y1_0,y1_1,y1_2,y1_3⟩:=bx4 X1
 go_wp2
 go_ret
 exact ⟨rfl,B⟩
theorem inB_10 (b c:Bx) (H0:Hid (∀ W,Calls Tryz.prog 14 #[.agg #[.float .f64 b.re.lo,.float .f64 b.re.hi],.agg #[.float .f64 c.re.lo,.float .f64 c.re.hi]] W fun e w'=>e = .returned (.bool true) /\ Below W.heap.size W w')) (H1:Hid (∀ W,Calls Tryz.prog 14 #[.agg #[.float .f64 b.im.lo,.float .f64 b.im.hi],.agg #[.float .f64 c.im.lo,.float .f64 c.im.hi]] W fun e w'=>e = .returned (.bool false) /\ Below W.heap.size W w')) (w:World):Calls Tryz.prog 31 #[.agg #[.float .f64 b.re.lo,.float .f64 b.re.hi,.float .f64 b.im.lo,.float .f64 b.im.hi],.agg #[.float .f64 c.re.lo,.float .f64 c.re.hi,.float .f64 c.im.lo,.float .f64 c.im.hi]] w fun e w'=>e = .returned (.bool false) /\ Below w.heap.size w w':=by
 have hfb:=floatbits_run
 have hsf:=store_float
 go_enter Tryz.func31,Tryz.ntmps31
 go_wp2_with fail
 obtain ⟨W1,hW1⟩:∃ W:World,W = (w.alloc (.cells #[.float .f64 b.re.lo,.float .f64 b.re.hi,.float .f64 b.im.lo,.float .f64 b.im.hi] 65)).alloc (.cells #[.float .f64 c.re.lo,.float .f64 c.re.hi,.float .f64 c.im.lo,.float .f64 c.im.hi] 65):=⟨_,rfl⟩
 rw [<- hW1]
 have X0:W1.heap[w.heap.size]? = some (.cells #[.float .f64 b.re.lo,.float .f64 b.re.hi,.float .f64 b.im.lo,.float .f64 b.im.hi] 65 (0,0)):=by rw [hW1]; exact ((heap_alloc_old _ _ (by first | omega | (simp <;> omega))).trans (alloc_at sP))
 have X1:W1.heap[w.heap.size + 1]? = some (.cells #[.float .f64 c.re.lo,.float .f64 c.re.hi,.float .f64 c.im.lo,.float .f64 c.im.hi] 65 (0,0)):=by rw [hW1]; exact (alloc_at sP)
 have z0:w.heap.size < W1.heap.size:=by rw [hW1]; simp <;> omega
 have z1:w.heap.size + 1 < W1.heap.size:=by rw [hW1]; simp <;> omega
 have B:Below w.heap.size w W1:=by rw [hW1]; exact (bT (bT (Below.refl w.heap.size w) (below_alloc _ _)) (below_alloc _ _))
 clear hW1
 refine (H0.out _).mono ?_
 rintro e W2 ⟨rfl,hb2⟩
 replace X0:=(hb2.block _ z0).trans X0
 replace z0:=lL z0 hb2.size
 replace X1:=(hb2.block _ z1).trans X1
 replace z1:=lL z1 hb2.size
 replace B:=bT B hb2
 clear hb2
 obtain ⟨f0_0,f0_1,f0_2,f0_3,y0_0,y0_1,y0_2,y0_3⟩:=bx4 X0
 obtain ⟨f1_0,f1_1,f1_2,f1_3,y1_0,y1_1,y1_2,y1_3⟩:=bx4 X1
 go_wp2_with fail
 refine (H1.out _).mono ?_
 rintro e W3 ⟨rfl,hb3⟩
 replace X0:=(hb3.block _ z0).trans X0
 replace z0:=lL z0 hb3.size
 replace X1:=(hb3.block _ z1).trans X1
 replace z1:=lL z1 hb3.size
 replace B:=bT B hb3
 clear hb3
 clear f0_0 f0_1 f0_2 f0_3 y0_0 y0_1 y0_2 y0_3 f1_0 f1_1 f1_2 f1_3 y1_0 y1_1 y1_2 y1_3
 obtain ⟨f0_0,f0_1,f0_2,f0_3,y0_0,y0_1,y0_2,y0_3⟩:=bx4 X0
 obtain ⟨f1_0,f1_1,f1_2,f1_3,y1_0,y1_1,y1_2,y1_3⟩:=bx4 X1
 go_wp2
 go_ret
 exact ⟨rfl,B⟩
theorem inB_11 (b c:Bx) (H0:Hid (∀ W,Calls Tryz.prog 14 #[.agg #[.float .f64 b.re.lo,.float .f64 b.re.hi],.agg #[.float .f64 c.re.lo,.float .f64 c.re.hi]] W fun e w'=>e = .returned (.bool true) /\ Below W.heap.size W w')) (H1:Hid (∀ W,Calls Tryz.prog 14 #[.agg #[.float .f64 b.im.lo,.float .f64 b.im.hi],.agg #[.float .f64 c.im.lo,.float .f64 c.im.hi]] W fun e w'=>e = .returned (.bool true) /\ Below W.heap.size W w')) (w:World):Calls Tryz.prog 31 #[.agg #[.float .f64 b.re.lo,.float .f64 b.re.hi,.float .f64 b.im.lo,.float .f64 b.im.hi],.agg #[.float .f64 c.re.lo,.float .f64 c.re.hi,.float .f64 c.im.lo,.float .f64 c.im.hi]] w fun e w'=>e = .returned (.bool true) /\ Below w.heap.size w w':=by
 have hfb:=floatbits_run
 have hsf:=store_float
 go_enter Tryz.func31,Tryz.ntmps31
 go_wp2_with fail
 obtain ⟨W1,hW1⟩:∃ W:World,W = (w.alloc (.cells #[.float .f64 b.re.lo,.float .f64 b.re.hi,.float .f64 b.im.lo,.float .f64 b.im.hi] 65)).alloc (.cells #[.float .f64 c.re.lo,.float .f64 c.re.hi,.float .f64 c.im.lo,.float .f64 c.im.hi] 65):=⟨_,rfl⟩
 rw [<- hW1]
 have X0:W1.heap[w.heap.size]? = some (.cells #[.float .f64 b.re.lo,.float .f64 b.re.hi,.float .f64 b.im.lo,.float .f64 b.im.hi] 65 (0,0)):=by rw [hW1]; exact ((heap_alloc_old _ _ (by first | omega | (simp <;> omega))).trans (alloc_at sP))
 have X1:W1.heap[w.heap.size + 1]? = some (.cells #[.float .f64 c.re.lo,.float .f64 c.re.hi,.float .f64 c.im.lo,.float .f64 c.im.hi] 65 (0,0)):=by rw [hW1]; exact (alloc_at sP)
 have z0:w.heap.size < W1.heap.size:=by rw [hW1]; simp <;> omega
 have z1:w.heap.size + 1 < W1.heap.size:=by rw [hW1]; simp <;> omega
 have B:Below w.heap.size w W1:=by rw [hW1]; exact (bT (bT (Below.refl w.heap.size w) (below_alloc _ _)) (below_alloc _ _))
 clear hW1
 refine (H0.out _).mono ?_
 rintro e W2 ⟨rfl,hb2⟩
 replace X0:=(hb2.block _ z0).trans X0
 replace z0:=lL z0 hb2.size
 replace X1:=(hb2.block _ z1).trans X1
 replace z1:=lL z1 hb2.size
 replace B:=bT B hb2
 clear hb2
 obtain ⟨f0_0,f0_1,f0_2,f0_3,y0_0,y0_1,y0_2,y0_3⟩:=bx4 X0
 obtain ⟨f1_0,f1_1,f1_2,f1_3,y1_0,y1_1,y1_2,y1_3⟩:=bx4 X1
 go_wp2_with fail
 refine (H1.out _).mono ?_
 rintro e W3 ⟨rfl,hb3⟩
 replace X0:=(hb3.block _ z0).trans X0
 replace z0:=lL z0 hb3.size
 replace X1:=(hb3.block _ z1).trans X1
 replace z1:=lL z1 hb3.size
 replace B:=bT B hb3
 clear hb3
 clear f0_0 f0_1 f0_2 f0_3 y0_0 y0_1 y0_2 y0_3 f1_0 f1_1 f1_2 f1_3 y1_0 y1_1 y1_2 y1_3
 obtain ⟨f0_0,f0_1,f0_2,f0_3,y0_0,y0_1,y0_2,y0_3⟩:=bx4 X0
 obtain ⟨f1_0,f1_1,f1_2,f1_3,y1_0,y1_1,y1_2,y1_3⟩:=bx4 X1
 go_wp2
 go_ret
 exact ⟨rfl,B⟩
theorem inB_any (b c:Bx) (w:World):Calls Tryz.prog 31 #[b.v,c.v] w fun e w'=>e = .returned (.bool (b.within c)) /\ Below w.heap.size w w':=by
 have H0:∀ W,Calls Tryz.prog 14 #[b.re.v,c.re.v] W fun e w'=>e = .returned (.bool (b.re.within c.re)) /\ Below W.heap.size W w':=fun W=>in_any _ _ _ _ W
 have H1:∀ W,Calls Tryz.prog 14 #[b.im.v,c.im.v] W fun e w'=>e = .returned (.bool (b.im.within c.im)) /\ Below W.heap.size W w':=fun W=>in_any _ _ _ _ W
 unfold Bx.within
 cases h0:b.re.within c.re
 ·rw [h0] at H0
  exact inB_00 b c (hid H0) w
 ·rw [h0] at H0
  cases h1:b.im.within c.im
  ·rw [h1] at H1
   exact inB_10 b c (hid H0) (hid H1) w
  ·rw [h1] at H1
   exact inB_11 b c (hid H0) (hid H1) w
theorem sameB_any (b c:Bx) (w:World):Calls Tryz.prog 35 #[b.v,c.v] w fun e w'=>e = .returned (.bool (b.same c)) /\ Below w.heap.size w w':=by
 obtain ⟨⟨p,q⟩,r,s⟩:=b
 obtain ⟨⟨p',q'⟩,r',s'⟩:=c
 have e1:=fun x y W=>equalF 9997 x y W
 have e2:=fun x y W=>equalF 9998 x y W
 have e3:=fun x y W=>equalF 9996 x y W
 simp only [Nat.reduceAdd] at e1 e2 e3
 unfold Bx.same Sp.same eqb Bx.v
 simp only
 cases h1:(FloatKind.f64.format.order p p' == some Ordering.eq)
 ·go_enter Tryz.func35,Tryz.ntmps35
  go_wp2
  go_ret
  exact ⟨rfl,bT (below_alloc _ _) (below_alloc _ _)⟩
 ·cases h2:(FloatKind.f64.format.order q q' == some Ordering.eq)
  ·go_enter Tryz.func35,Tryz.ntmps35
   go_wp2
   go_ret
   exact ⟨rfl,bT (below_alloc _ _) (below_alloc _ _)⟩
  ·cases h3:(FloatKind.f64.format.order r r' == some Ordering.eq)
   ·go_enter Tryz.func35,Tryz.ntmps35
    go_wp2
    go_ret
    exact ⟨rfl,bT (below_alloc _ _) (below_alloc _ _)⟩
   ·cases h4:(FloatKind.f64.format.order s s' == some Ordering.eq)
    ·go_enter Tryz.func35,Tryz.ntmps35
     go_wp2
     go_ret
     exact ⟨rfl,bT (below_alloc _ _) (below_alloc _ _)⟩
    ·go_enter Tryz.func35,Tryz.ntmps35
     go_wp2
     go_ret
     exact ⟨rfl,bT (below_alloc _ _) (below_alloc _ _)⟩
end Go.Proofs.YtjodlmanheeajaaGreatDoor
