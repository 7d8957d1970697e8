import Derived.Test.YtjodlmanheeajaaGreatDoorR31
import Derived.Test.YtjodlmanheeajaaGreatDoorR02
set_option linter.unusedVariables false
set_option linter.unusedSimpArgs false
set_option maxRecDepth 100000
set_option maxHeartbeats 8000000
namespace Go.Proofs.YtjodlmanheeajaaGreatDoor
open Go.RowKit
theorem drop_4 (w:World):Calls Tryz.prog 177 #[.agg #[.bool true,.int .i64 (-4194304),.int .u64 0,.int .u64 0],.int .i64 4194180] w fun e w'=>e = .returned (.tuple #[.int .u64 0,.int .u64 0,.bool false]) /\ Below w.heap.size w w':=by
 have hfb:=floatbits_run
 have k0:bits BinOp.or IntKind.u64 0 0 = 0:=dK
 go_enter Tryz.func177,Tryz.ntmps177
 go_upto_region 6 with fail
 obtain ⟨W1,hW1⟩:∃ W:World,W = w.alloc (.cells #[.bool true,.int .i64 (-4194304),.int .u64 0,.int .u64 0] 125):=⟨_,rfl⟩
 rw [<- hW1]
 have X0:W1.heap[w.heap.size]? = some (.cells #[.bool true,.int .i64 (-4194304),.int .u64 0,.int .u64 0] 125 (0,0)):=by rw [hW1]; exact (alloc_at sP)
 have z0:w.heap.size < W1.heap.size:=by rw [hW1]; simp <;> omega
 have B:Below w.heap.size w W1:=by rw [hW1]; exact (bT (Below.refl w.heap.size w) (below_alloc _ _))
 clear hW1
 obtain ⟨f0_0,f0_1,f0_2,f0_3,y0_0,y0_1,y0_2,y0_3⟩:=bx4 X0
 refine region_lin [.val (kIs (.pointer (some ⟨w.heap.size,2,none⟩))),.val (kIs (.int .u64 0)),.val (kIs (.pointer (some ⟨w.heap.size,3,none⟩))),.val (kIs (.int .u64 0)),.val (kIs (.int .u64 0)),.val (kIs (.bool false)),.val (kIs (.int .u64 0)),.val (kIs (.int .u64 0)),.val (kIs (.bool false))]
  kR kR kR kR kR ⟨Stab.b (stab_is _),Stab.b (stab_is _),Stab.b (stab_is _),Stab.b (stab_is _),Stab.b (stab_is _),Stab.b (stab_is _),Stab.b (stab_is _),Stab.b (stab_is _),Stab.b (stab_is _),trivial⟩ sP ⟨?_,?_,?_,?_,?_,?_,?_,?_,?_,trivial⟩ ?_
 ·exact obq
 ·intro ts W hb hB hp; have h0:ts 0 = _:=hp 0 kR; intro K hK; simp only [fillT,zA,Nat.reduceAdd,sA,sB,sC,h0] at hK ⊢; have HK:=hid hK; clear hK hp; obtain ⟨p0,p1,p2,p3,-,-,-,-⟩:=bx4 ((hb.block _ z0).trans X0); refine ⟨?_⟩; go_simp; exact HK.out _ _ kk rfB
 ·exact obq
 ·intro ts W hb hB hp; have h2:ts 2 = _:=hp 2 kR; intro K hK; simp only [fillT,zA,Nat.reduceAdd,sA,sB,sC,h2] at hK ⊢; have HK:=hid hK; clear hK hp; obtain ⟨p0,p1,p2,p3,-,-,-,-⟩:=bx4 ((hb.block _ z0).trans X0); refine ⟨?_⟩; go_simp; exact HK.out _ _ kk rfB
 ·intro ts W hb hB hp; have h1:ts 1 = _:=hp 1 kR; have h3:ts 3 = _:=hp 3 kR; intro K hK; simp only [fillT,zA,Nat.reduceAdd,sA,sB,sC,h1,h3] at hK ⊢; have HK:=hid hK; clear hK hp; refine ⟨?_⟩; go_simp; exact HK.out _ _ kk rfB
 ·intro ts W hb hB hp; have h4:ts 4 = _:=hp 4 kR; intro K hK; simp only [fillT,zA,Nat.reduceAdd,sA,sB,sC,h4] at hK ⊢; have HK:=hid hK; clear hK hp; refine ⟨?_⟩; go_simp; exact HK.out _ _ kk rfB
 ·exact obq
 ·exact obq
 ·intro ts W hb hB hp; have h5:ts 5 = _:=hp 5 kR; intro K hK; simp only [fillT,zA,Nat.reduceAdd,sA,sB,sC,h5] at hK ⊢; have HK:=hid hK; clear hK hp; refine ⟨?_⟩; go_simp; exact HK.out _ _ kk rfB
 intro ts W2 hb2 hh hap
 have e0:=held_is (hh 0 sP) rfl
 have e1:=held_is (hh 1 sP) rfl
 have e2:=held_is (hh 2 sP) rfl
 have e3:=held_is (hh 3 sP) rfl
 have e4:=held_is (hh 4 sP) rfl
 have e5:=held_is (hh 5 sP) rfl
 have e6:=held_is (hh 6 sP) rfl
 have e7:=held_is (hh 7 sP) rfl
 have e8:=held_is (hh 8 sP) rfl
 simp only [fillT,zA,Nat.reduceAdd,sA,sB,sC,e0,e1,e2,e3,e4,e5,e6,e7,e8]
 clear hh hap e0 e1 e2 e3 e4 e5 e6 e7 e8
 replace X0:=(hb2.block _ z0).trans X0
 replace z0:=lL z0 hb2.size
 replace B:=bT B hb2
 clear hb2
 clear f0_0 f0_1 f0_2 f0_3 y0_0 y0_1 y0_2 y0_3
 obtain ⟨f0_0,f0_1,f0_2,f0_3,y0_0,y0_1,y0_2,y0_3⟩:=bx4 X0
 go_wp2
 refine bodyPost_ret (v:=.tuple #[.int .u64 0,.int .u64 0,.bool false]) (by simp [results,Tryz.results177]) rfl ?_
 exact ⟨rfl,B⟩
theorem down_4 (w:World):Calls Tryz.prog 174 #[.agg #[.bool true,.int .i64 (-4194304),.int .u64 0,.int .u64 0],.int .i64 4194180] w fun e w'=>e = .returned (.agg #[.bool true,.int .i64 (-124),.int .u64 0,.int .u64 0]) /\ Below w.heap.size w w':=by
 have hfb:=floatbits_run
 go_enter Tryz.func174,Tryz.ntmps174
 go_wp2_with fail
 obtain ⟨W1,hW1⟩:∃ W:World,W = (w.alloc (.cells #[.bool true,.int .i64 (-4194304),.int .u64 0,.int .u64 0] 125)).alloc (.cells #[.bool false,.int .i64 0,.int .u64 0,.int .u64 0] 125):=⟨_,rfl⟩
 rw [<- hW1]
 have X0:W1.heap[w.heap.size]? = some (.cells #[.bool true,.int .i64 (-4194304),.int .u64 0,.int .u64 0] 125 (0,0)):=by rw [hW1]; exact ((heap_alloc_old _ _ (by first | omega | (simp <;> omega))).trans (alloc_at sP))
 have X1:W1.heap[w.heap.size + 1]? = some (.cells #[.bool false,.int .i64 0,.int .u64 0,.int .u64 0] 125 (0,0)):=by rw [hW1]; exact (alloc_at sP)
 have z0:w.heap.size < W1.heap.size:=by rw [hW1]; simp <;> omega
 have z1:w.heap.size + 1 < W1.heap.size:=by rw [hW1]; simp <;> omega
 have B:Below w.heap.size w W1:=by rw [hW1]; exact (bT (bT (Below.refl w.heap.size w) (below_alloc _ _)) (below_alloc _ _))
 clear hW1
 refine (drop_4 _).mono ?_
 rintro e W2 ⟨rfl,hb2⟩
 replace X0:=(hb2.block _ z0).trans X0
 replace z0:=lL z0 hb2.size
 replace X1:=(hb2.block _ z1).trans X1
 replace z1:=lL z1 hb2.size
 replace B:=bT B hb2
 clear hb2
 obtain ⟨f0_0,f0_1,f0_2,f0_3,y0_0,y0_1,y0_2,y0_3⟩:=bx4 X0
 obtain ⟨f1_0,f1_1,f1_2,f1_3,y1_0,y1_1,y1_2,y1_3⟩:=bx4 X1
 go_wp2
 refine bodyPost_ret (v:=.agg #[.bool true,.int .i64 (-124),.int .u64 0,.int .u64 0]) (by simp [results,Tryz.results174,go_sem,f0_0,f0_1,f0_2,f0_3,y0_0,y0_1,y0_2,y0_3,f1_0,f1_1,f1_2,f1_3,y1_0,y1_1,y1_2,y1_3]) rfl ?_
 exact ⟨rfl,(Below.setCell (p:=⟨w.heap.size + 1,3,none⟩) (Below.setCell (p:=⟨w.heap.size + 1,2,none⟩) (Below.setCell (p:=⟨w.heap.size + 1,1,none⟩) (Below.setCell (p:=⟨w.heap.size + 1,0,none⟩) B (show w.heap.size <= w.heap.size + 1 by omega) _) (show w.heap.size <= w.heap.size + 1 by omega) _) (show w.heap.size <= w.heap.size + 1 by omega) _) (show w.heap.size <= w.heap.size + 1 by omega) _)⟩
theorem sub64_3 (W:World):(callFunc 176 #[.int .u64 4611686018427387904,.int .u64 0,.int .u64 0]).run Tryz.prog W = .ok (.value (.tuple #[.int .u64 4611686018427387904,.int .u64 0])) W:=sub_ex _ _ _ _ W rfl
theorem wadd_2 (w:World):Calls Tryz.prog 136 #[.agg #[.bool false,.int .i64 (-125),.int .u64 9223372036854775808,.int .u64 0],.agg #[.bool true,.int .i64 (-4194304),.int .u64 0,.int .u64 0]] w fun e w'=>e = .returned (.agg #[.bool false,.int .i64 (-125),.int .u64 9223372036854775808,.int .u64 0]) /\ Below w.heap.size w w':=by
 have hfb:=floatbits_run
 have k0:∀ W,(callFunc 176 #[.int .u64 0,.int .u64 0,.int .u64 0]).run Tryz.prog W = .ok (.value (.tuple #[.int .u64 0,.int .u64 0])) W:=sub64_1
 have k1:∀ W,(callFunc 176 #[.int .u64 4611686018427387904,.int .u64 0,.int .u64 0]).run Tryz.prog W = .ok (.value (.tuple #[.int .u64 4611686018427387904,.int .u64 0])) W:=sub64_3
 go_enter Tryz.func136,Tryz.ntmps136
 go_wp2_with fail
 obtain ⟨W1,hW1⟩:∃ W:World,W = ((w.alloc (.cells #[.bool false,.int .i64 (-125),.int .u64 9223372036854775808,.int .u64 0] 125)).alloc (.cells #[.bool true,.int .i64 (-4194304),.int .u64 0,.int .u64 0] 125)).alloc (.cells #[.bool false,.int .i64 0,.int .u64 0,.int .u64 0] 125):=⟨_,rfl⟩
 rw [<- hW1]
 have X0:W1.heap[w.heap.size]? = some (.cells #[.bool false,.int .i64 (-125),.int .u64 9223372036854775808,.int .u64 0] 125 (0,0)):=by rw [hW1]; exact ((heap_alloc_old _ _ (by first | omega | (simp <;> omega))).trans ((heap_alloc_old _ _ (by first | omega | (simp <;> omega))).trans (alloc_at sP)))
 have X1:W1.heap[w.heap.size + 1]? = some (.cells #[.bool true,.int .i64 (-4194304),.int .u64 0,.int .u64 0] 125 (0,0)):=by rw [hW1]; exact ((heap_alloc_old _ _ (by first | omega | (simp <;> omega))).trans (alloc_at sP))
 have X2:W1.heap[w.heap.size + 2]? = some (.cells #[.bool false,.int .i64 0,.int .u64 0,.int .u64 0] 125 (0,0)):=by rw [hW1]; exact (alloc_at sP)
 have z0:w.heap.size < W1.heap.size:=by rw [hW1]; simp <;> omega
 have z1:w.heap.size + 1 < W1.heap.size:=by rw [hW1]; simp <;> omega
 have z2:w.heap.size + 2 < W1.heap.size:=by rw [hW1]; simp <;> omega
 have B:Below w.heap.size w W1:=by rw [hW1]; exact (bT (bT (bT (Below.refl w.heap.size w) (below_alloc _ _)) (below_alloc _ _)) (below_alloc _ _))
 clear hW1
 refine (smaller_10 _).mono ?_
 rintro e W2 ⟨rfl,hb2⟩
 replace X0:=(hb2.block _ z0).trans X0
 replace z0:=lL z0 hb2.size
 replace X1:=(hb2.block _ z1).trans X1
 replace z1:=lL z1 hb2.size
 replace X2:=(hb2.block _ z2).trans X2
 replace z2:=lL z2 hb2.size
 replace B:=bT B hb2
 clear hb2
 obtain ⟨f0_0,f0_1,f0_2,f0_3,y0_0,y0_1,y0_2,y0_3⟩:=bx4 X0
 obtain ⟨f1_0,f1_1,f1_2,f1_3,y1_0,y1_1,y1_2,y1_3⟩:=bx4 X1
 obtain ⟨f2_0,f2_1,f2_2,f2_3,y2_0,y2_1,y2_2,y2_3⟩:=bx4 X2
 go_wp2_with fail
 refine (down_3 _).mono ?_
 rintro e W3 ⟨rfl,hb3⟩
 replace X0:=(hb3.block _ z0).trans X0
 replace z0:=lL z0 hb3.size
 replace X1:=(hb3.block _ z1).trans X1
 replace z1:=lL z1 hb3.size
 replace X2:=(hb3.block _ z2).trans X2
 replace z2:=lL z2 hb3.size
 replace B:=bT B hb3
 clear hb3
 clear f0_0 f0_1 f0_2 f0_3 y0_0 y0_1 y0_2 y0_3 f1_0 f1_1 f1_2 f1_3 y1_0 y1_1 y1_2 y1_3 f2_0 f2_1 f2_2 f2_3 y2_0 y2_1 y2_2 y2_3
 obtain ⟨f0_0,f0_1,f0_2,f0_3,y0_0,y0_1,y0_2,y0_3⟩:=bx4 X0
 obtain ⟨f1_0,f1_1,f1_2,f1_3,y1_0,y1_1,y1_2,y1_3⟩:=bx4 X1
 obtain ⟨f2_0,f2_1,f2_2,f2_3,y2_0,y2_1,y2_2,y2_3⟩:=bx4 X2
 go_wp2_with fail
 obtain ⟨W4,hW4⟩:∃ W:World,W = (((W3.setCell ⟨w.heap.size,0,none⟩ (.bool false)).setCell ⟨w.heap.size,1,none⟩ (.int .i64 (-124))).setCell ⟨w.heap.size,2,none⟩ (.int .u64 4611686018427387904)).setCell ⟨w.heap.size,3,none⟩ (.int .u64 0):=⟨_,rfl⟩
 rw [<- hW4]
 replace X0:W4.heap[w.heap.size]? = some (.cells #[.bool false,.int .i64 (-124),.int .u64 4611686018427387904,.int .u64 0] 125 (0,0)):=by rw [hW4]; exact (set_same (set_same (set_same (set_same X0 _) _) _) _)
 replace X1:W4.heap[w.heap.size + 1]? = some (.cells #[.bool true,.int .i64 (-4194304),.int .u64 0,.int .u64 0] 125 (0,0)):=by rw [hW4]; exact (set_other (set_other (set_other (set_other X1 oM _) oM _) oM _) oM _)
 replace X2:W4.heap[w.heap.size + 2]? = some (.cells #[.bool false,.int .i64 0,.int .u64 0,.int .u64 0] 125 (0,0)):=by rw [hW4]; exact (set_other (set_other (set_other (set_other X2 oM _) oM _) oM _) oM _)
 replace z0:w.heap.size < W4.heap.size:=by rw [hW4]; simp <;> omega
 replace z1:w.heap.size + 1 < W4.heap.size:=by rw [hW4]; simp <;> omega
 replace z2:w.heap.size + 2 < W4.heap.size:=by rw [hW4]; simp <;> omega
 replace B:Below w.heap.size w W4:=by rw [hW4]; exact (Below.setCell (p:=⟨w.heap.size,3,none⟩) (Below.setCell (p:=⟨w.heap.size,2,none⟩) (Below.setCell (p:=⟨w.heap.size,1,none⟩) (Below.setCell (p:=⟨w.heap.size,0,none⟩) B (show w.heap.size <= w.heap.size by omega) _) (show w.heap.size <= w.heap.size by omega) _) (show w.heap.size <= w.heap.size by omega) _) (show w.heap.size <= w.heap.size by omega) _)
 clear hW4
 refine (down_4 _).mono ?_
 rintro e W5 ⟨rfl,hb5⟩
 replace X0:=(hb5.block _ z0).trans X0
 replace z0:=lL z0 hb5.size
 replace X1:=(hb5.block _ z1).trans X1
 replace z1:=lL z1 hb5.size
 replace X2:=(hb5.block _ z2).trans X2
 replace z2:=lL z2 hb5.size
 replace B:=bT B hb5
 clear hb5
 clear f0_0 f0_1 f0_2 f0_3 y0_0 y0_1 y0_2 y0_3 f1_0 f1_1 f1_2 f1_3 y1_0 y1_1 y1_2 y1_3 f2_0 f2_1 f2_2 f2_3 y2_0 y2_1 y2_2 y2_3
 obtain ⟨f0_0,f0_1,f0_2,f0_3,y0_0,y0_1,y0_2,y0_3⟩:=bx4 X0
 obtain ⟨f1_0,f1_1,f1_2,f1_3,y1_0,y1_1,y1_2,y1_3⟩:=bx4 X1
 obtain ⟨f2_0,f2_1,f2_2,f2_3,y2_0,y2_1,y2_2,y2_3⟩:=bx4 X2
 go_wp2_with fail
 obtain ⟨W6,hW6⟩:∃ W:World,W = (((((W5.setCell ⟨w.heap.size + 1,0,none⟩ (.bool true)).setCell ⟨w.heap.size + 1,1,none⟩ (.int .i64 (-124))).setCell ⟨w.heap.size + 1,2,none⟩ (.int .u64 0)).setCell ⟨w.heap.size + 1,3,none⟩ (.int .u64 0)).setCell ⟨w.heap.size,3,none⟩ (.int .u64 0)).setCell ⟨w.heap.size,2,none⟩ (.int .u64 4611686018427387904):=⟨_,rfl⟩
 rw [<- hW6]
 replace X0:W6.heap[w.heap.size]? = some (.cells #[.bool false,.int .i64 (-124),.int .u64 4611686018427387904,.int .u64 0] 125 (0,0)):=by rw [hW6]; exact (set_same (set_same (set_other (set_other (set_other (set_other X0 oM _) oM _) oM _) oM _) _) _)
 replace X1:W6.heap[w.heap.size + 1]? = some (.cells #[.bool true,.int .i64 (-124),.int .u64 0,.int .u64 0] 125 (0,0)):=by rw [hW6]; exact (set_other (set_other (set_same (set_same (set_same (set_same X1 _) _) _) _) oM _) oM _)
 replace X2:W6.heap[w.heap.size + 2]? = some (.cells #[.bool false,.int .i64 0,.int .u64 0,.int .u64 0] 125 (0,0)):=by rw [hW6]; exact (set_other (set_other (set_other (set_other (set_other (set_other X2 oM _) oM _) oM _) oM _) oM _) oM _)
 replace z0:w.heap.size < W6.heap.size:=by rw [hW6]; simp <;> omega
 replace z1:w.heap.size + 1 < W6.heap.size:=by rw [hW6]; simp <;> omega
 replace z2:w.heap.size + 2 < W6.heap.size:=by rw [hW6]; simp <;> omega
 replace B:Below w.heap.size w W6:=by rw [hW6]; exact (Below.setCell (p:=⟨w.heap.size,2,none⟩) (Below.setCell (p:=⟨w.heap.size,3,none⟩) (Below.setCell (p:=⟨w.heap.size + 1,3,none⟩) (Below.setCell (p:=⟨w.heap.size + 1,2,none⟩) (Below.setCell (p:=⟨w.heap.size + 1,1,none⟩) (Below.setCell (p:=⟨w.heap.size + 1,0,none⟩) B (show w.heap.size <= w.heap.size + 1 by omega) _) (show w.heap.size <= w.heap.size + 1 by omega) _) (show w.heap.size <= w.heap.size + 1 by omega) _) (show w.heap.size <= w.heap.size + 1 by omega) _) (show w.heap.size <= w.heap.size by omega) _) (show w.heap.size <= w.heap.size by omega) _)
 clear hW6
 refine (norm_124 _).mono ?_
 rintro e W7 ⟨rfl,hb7⟩
 replace X0:=(hb7.block _ z0).trans X0
 replace z0:=lL z0 hb7.size
 replace X1:=(hb7.block _ z1).trans X1
 replace z1:=lL z1 hb7.size
 replace X2:=(hb7.block _ z2).trans X2
 replace z2:=lL z2 hb7.size
 replace B:=bT B hb7
 clear hb7
 clear f0_0 f0_1 f0_2 f0_3 y0_0 y0_1 y0_2 y0_3 f1_0 f1_1 f1_2 f1_3 y1_0 y1_1 y1_2 y1_3 f2_0 f2_1 f2_2 f2_3 y2_0 y2_1 y2_2 y2_3
 obtain ⟨f0_0,f0_1,f0_2,f0_3,y0_0,y0_1,y0_2,y0_3⟩:=bx4 X0
 obtain ⟨f1_0,f1_1,f1_2,f1_3,y1_0,y1_1,y1_2,y1_3⟩:=bx4 X1
 obtain ⟨f2_0,f2_1,f2_2,f2_3,y2_0,y2_1,y2_2,y2_3⟩:=bx4 X2
 go_wp2
 refine bodyPost_ret (v:=.agg #[.bool false,.int .i64 (-125),.int .u64 9223372036854775808,.int .u64 0]) (by simp [results,Tryz.results136,go_sem,f0_0,f0_1,f0_2,f0_3,y0_0,y0_1,y0_2,y0_3,f1_0,f1_1,f1_2,f1_3,y1_0,y1_1,y1_2,y1_3,f2_0,f2_1,f2_2,f2_3,y2_0,y2_1,y2_2,y2_3]) rfl ?_
 exact ⟨rfl,(Below.setCell (p:=⟨w.heap.size + 2,3,none⟩) (Below.setCell (p:=⟨w.heap.size + 2,2,none⟩) (Below.setCell (p:=⟨w.heap.size + 2,1,none⟩) (Below.setCell (p:=⟨w.heap.size + 2,0,none⟩) B (show w.heap.size <= w.heap.size + 2 by omega) _) (show w.heap.size <= w.heap.size + 2 by omega) _) (show w.heap.size <= w.heap.size + 2 by omega) _) (show w.heap.size <= w.heap.size + 2 by omega) _)⟩
theorem radd_1 (w:World):Calls Tryz.prog 88 #[.agg #[.bool false,.int .i64 (-127),.int .u64 9223372036854775808,.int .u64 0,.bool false,.int .i64 (-125),.int .u64 9223372036854775808,.int .u64 0],.agg #[.bool true,.int .i64 (-127),.int .u64 9223372036854775808,.int .u64 0,.bool true,.int .i64 (-4194304),.int .u64 0,.int .u64 0]] w fun e w'=>e = .returned (.agg #[.bool false,.int .i64 (-4194304),.int .u64 0,.int .u64 0,.bool false,.int .i64 (-125),.int .u64 9223372036854775808,.int .u64 0]) /\ Below w.heap.size w w':=by
 have hfb:=floatbits_run
 go_enter Tryz.func88,Tryz.ntmps88
 go_upto_region 1 with fail
 obtain ⟨W1,hW1⟩:∃ W:World,W = ((w.alloc (.cells #[.bool false,.int .i64 (-127),.int .u64 9223372036854775808,.int .u64 0,.bool false,.int .i64 (-125),.int .u64 9223372036854775808,.int .u64 0] 127)).alloc (.cells #[.bool true,.int .i64 (-127),.int .u64 9223372036854775808,.int .u64 0,.bool true,.int .i64 (-4194304),.int .u64 0,.int .u64 0] 127)).alloc (.cells #[.bool false,.int .i64 0,.int .u64 0,.int .u64 0,.bool false,.int .i64 0,.int .u64 0,.int .u64 0] 127):=⟨_,rfl⟩
 rw [<- hW1]
 have X0:W1.heap[w.heap.size]? = some (.cells #[.bool false,.int .i64 (-127),.int .u64 9223372036854775808,.int .u64 0,.bool false,.int .i64 (-125),.int .u64 9223372036854775808,.int .u64 0] 127 (0,0)):=by rw [hW1]; exact ((heap_alloc_old _ _ (by first | omega | (simp <;> omega))).trans ((heap_alloc_old _ _ (by first | omega | (simp <;> omega))).trans (alloc_at sP)))
 have X1:W1.heap[w.heap.size + 1]? = some (.cells #[.bool true,.int .i64 (-127),.int .u64 9223372036854775808,.int .u64 0,.bool true,.int .i64 (-4194304),.int .u64 0,.int .u64 0] 127 (0,0)):=by rw [hW1]; exact ((heap_alloc_old _ _ (by first | omega | (simp <;> omega))).trans (alloc_at sP))
 have X2:W1.heap[w.heap.size + 2]? = some (.cells #[.bool false,.int .i64 0,.int .u64 0,.int .u64 0,.bool false,.int .i64 0,.int .u64 0,.int .u64 0] 127 (0,0)):=by rw [hW1]; exact (alloc_at sP)
 have z0:w.heap.size < W1.heap.size:=by rw [hW1]; simp <;> omega
 have z1:w.heap.size + 1 < W1.heap.size:=by rw [hW1]; simp <;> omega
 have z2:w.heap.size + 2 < W1.heap.size:=by rw [hW1]; simp <;> omega
 have B:Below w.heap.size w W1:=by rw [hW1]; exact (bT (bT (bT (Below.refl w.heap.size w) (below_alloc _ _)) (below_alloc _ _)) (below_alloc _ _))
 clear hW1
 obtain ⟨f0_0,f0_1,f0_2,f0_3,f0_4,f0_5,f0_6,f0_7,y0_0,y0_1,y0_2,y0_3,y0_4,y0_5,y0_6,y0_7⟩:=bx8 X0
 obtain ⟨f1_0,f1_1,f1_2,f1_3,f1_4,f1_5,f1_6,f1_7,y1_0,y1_1,y1_2,y1_3,y1_4,y1_5,y1_6,y1_7⟩:=bx8 X1
 obtain ⟨f2_0,f2_1,f2_2,f2_3,f2_4,f2_5,f2_6,f2_7,y2_0,y2_1,y2_2,y2_3,y2_4,y2_5,y2_6,y2_7⟩:=bx8 X2
 refine region_last [.val (kIs (.pointer (some ⟨w.heap.size,0,none⟩))),.val (kIs (.agg #[.bool false,.int .i64 (-127),.int .u64 9223372036854775808,.int .u64 0])),.val (kIs (.pointer (some ⟨w.heap.size + 1,0,none⟩))),.val (kIs (.agg #[.bool true,.int .i64 (-127),.int .u64 9223372036854775808,.int .u64 0])),.val (kIs (.agg #[.bool false,.int .i64 (-4194304),.int .u64 0,.int .u64 0])),.val (kIs (.pointer (some ⟨w.heap.size,4,none⟩))),.val (kIs (.agg #[.bool false,.int .i64 (-125),.int .u64 9223372036854775808,.int .u64 0])),.val (kIs (.pointer (some ⟨w.heap.size + 1,4,none⟩))),.val (kIs (.agg #[.bool true,.int .i64 (-4194304),.int .u64 0,.int .u64 0])),.val (kIs (.agg #[.bool false,.int .i64 (-125),.int .u64 9223372036854775808,.int .u64 0])),.val (kIs (.agg #[.bool false,.int .i64 (-4194304),.int .u64 0,.int .u64 0,.bool false,.int .i64 (-125),.int .u64 9223372036854775808,.int .u64 0]))]
  kR kR kR kR kR ⟨Stab.b (stab_is _),Stab.b (stab_is _),Stab.b (stab_is _),Stab.b (stab_is _),Stab.b (stab_is _),Stab.b (stab_is _),Stab.b (stab_is _),Stab.b (stab_is _),Stab.b (stab_is _),Stab.b (stab_is _),Stab.b (stab_is _),trivial⟩ sP (ol:=_) rfl kR ⟨?_,?_,?_,?_,?_,?_,?_,?_,?_,?_,?_,trivial⟩ ?_
 ·exact obq
 ·intro ts W hb hB hp; have h0:ts 0 = _:=hp 0 kR; intro K hK; simp only [fillT,zA,Nat.reduceAdd,sA,sB,sC,h0] at hK ⊢; have HK:=hid hK; clear hK hp; obtain ⟨p0,p1,p2,p3,p4,p5,p6,p7,-,-,-,-,-,-,-,-⟩:=bx8 ((hb.block _ z0).trans X0); refine ⟨?_⟩; go_simp; exact HK.out _ _ kk rfB
 ·exact obq
 ·intro ts W hb hB hp; have h2:ts 2 = _:=hp 2 kR; intro K hK; simp only [fillT,zA,Nat.reduceAdd,sA,sB,sC,h2] at hK ⊢; have HK:=hid hK; clear hK hp; obtain ⟨p0,p1,p2,p3,p4,p5,p6,p7,-,-,-,-,-,-,-,-⟩:=bx8 ((hb.block _ z1).trans X1); refine ⟨?_⟩; go_simp; exact HK.out _ _ kk rfB
 ·intro ts W hb hB hp; have h1:ts 1 = _:=hp 1 kR; have h3:ts 3 = _:=hp 3 kR; intro K hK; simp only [fillT,zA,Nat.reduceAdd,sA,sB,sC,h1,h3] at hK ⊢; have HK:=hid hK; clear hK hp; refine ⟨?_⟩; go_simp; refine (wadd_1 _).mono ?_; rintro e W9 ⟨rfl,hb9⟩; exact HK.out _ _ rfl hb9
 ·exact obq
 ·intro ts W hb hB hp; have h5:ts 5 = _:=hp 5 kR; intro K hK; simp only [fillT,zA,Nat.reduceAdd,sA,sB,sC,h5] at hK ⊢; have HK:=hid hK; clear hK hp; obtain ⟨p0,p1,p2,p3,p4,p5,p6,p7,-,-,-,-,-,-,-,-⟩:=bx8 ((hb.block _ z0).trans X0); refine ⟨?_⟩; go_simp; exact HK.out _ _ kk rfB
 ·exact obq
 ·intro ts W hb hB hp; have h7:ts 7 = _:=hp 7 kR; intro K hK; simp only [fillT,zA,Nat.reduceAdd,sA,sB,sC,h7] at hK ⊢; have HK:=hid hK; clear hK hp; obtain ⟨p0,p1,p2,p3,p4,p5,p6,p7,-,-,-,-,-,-,-,-⟩:=bx8 ((hb.block _ z1).trans X1); refine ⟨?_⟩; go_simp; exact HK.out _ _ kk rfB
 ·intro ts W hb hB hp; have h6:ts 6 = _:=hp 6 kR; have h8:ts 8 = _:=hp 8 kR; intro K hK; simp only [fillT,zA,Nat.reduceAdd,sA,sB,sC,h6,h8] at hK ⊢; have HK:=hid hK; clear hK hp; refine ⟨?_⟩; go_simp; refine (wadd_2 _).mono ?_; rintro e W9 ⟨rfl,hb9⟩; exact HK.out _ _ rfl hb9
 ·intro ts W hb hB hp; have h4:ts 4 = _:=hp 4 kR; have h9:ts 9 = _:=hp 9 kR; intro K hK; simp only [fillT,zA,Nat.reduceAdd,sA,sB,sC,h4,h9] at hK ⊢; have HK:=hid hK; clear hK hp; refine ⟨?_⟩; go_simp; exact HK.out _ _ kk rfB
 intro ts W2 hb2 hh hap K hK
 have e0:=held_is (hh 0 sP) rfl
 have e1:=held_is (hh 1 sP) rfl
 have e2:=held_is (hh 2 sP) rfl
 have e3:=held_is (hh 3 sP) rfl
 have e4:=held_is (hh 4 sP) rfl
 have e5:=held_is (hh 5 sP) rfl
 have e6:=held_is (hh 6 sP) rfl
 have e7:=held_is (hh 7 sP) rfl
 have e8:=held_is (hh 8 sP) rfl
 have e9:=held_is (hh 9 sP) rfl
 have e10:=held_is (hh 10 sP) rfl
 have HK:=hid hK
 clear hK
 simp only [fillT,zA,Nat.reduceAdd,sA,sB,sC,e0,e1,e2,e3,e4,e5,e6,e7,e8,e9,e10]
 clear hh hap e0 e1 e2 e3 e4 e5 e6 e7 e8 e9 e10
 replace X0:=(hb2.block _ z0).trans X0
 replace z0:=lL z0 hb2.size
 replace X1:=(hb2.block _ z1).trans X1
 replace z1:=lL z1 hb2.size
 replace X2:=(hb2.block _ z2).trans X2
 replace z2:=lL z2 hb2.size
 replace B:=bT B hb2
 clear hb2
 clear f0_0 f0_1 f0_2 f0_3 f0_4 f0_5 f0_6 f0_7 y0_0 y0_1 y0_2 y0_3 y0_4 y0_5 y0_6 y0_7 f1_0 f1_1 f1_2 f1_3 f1_4 f1_5 f1_6 f1_7 y1_0 y1_1 y1_2 y1_3 y1_4 y1_5 y1_6 y1_7 f2_0 f2_1 f2_2 f2_3 f2_4 f2_5 f2_6 f2_7 y2_0 y2_1 y2_2 y2_3 y2_4 y2_5 y2_6 y2_7
 obtain ⟨f0_0,f0_1,f0_2,f0_3,f0_4,f0_5,f0_6,f0_7,y0_0,y0_1,y0_2,y0_3,y0_4,y0_5,y0_6,y0_7⟩:=bx8 X0
 obtain ⟨f1_0,f1_1,f1_2,f1_3,f1_4,f1_5,f1_6,f1_7,y1_0,y1_1,y1_2,y1_3,y1_4,y1_5,y1_6,y1_7⟩:=bx8 X1
 obtain ⟨f2_0,f2_1,f2_2,f2_3,f2_4,f2_5,f2_6,f2_7,y2_0,y2_1,y2_2,y2_3,y2_4,y2_5,y2_6,y2_7⟩:=bx8 X2
 refine ⟨?_⟩
 refine wp_store_row _ _ _ rfl (w.heap.size + 2) _ rfl rfl _ _ X2 kR rfl (by simp [Value.oneCell']) (HK.out _ _ ?_)
 have hput:=putAt_setRow (cs:=#[.bool false,.int .i64 (-4194304),.int .u64 0,.int .u64 0,.bool false,.int .i64 (-125),.int .u64 9223372036854775808,.int .u64 0]) X2
 replace B:=hput.below B oM
 clear HK f0_0 f0_1 f0_2 f0_3 f0_4 f0_5 f0_6 f0_7 y0_0 y0_1 y0_2 y0_3 y0_4 y0_5 y0_6 y0_7 f1_0 f1_1 f1_2 f1_3 f1_4 f1_5 f1_6 f1_7 y1_0 y1_1 y1_2 y1_3 y1_4 y1_5 y1_6 y1_7 f2_0 f2_1 f2_2 f2_3 f2_4 f2_5 f2_6 f2_7 y2_0 y2_1 y2_2 y2_3 y2_4 y2_5 y2_6 y2_7 X0 X1 X2
 generalize W2.setRow (w.heap.size + 2) #[.bool false,.int .i64 (-4194304),.int .u64 0,.int .u64 0,.bool false,.int .i64 (-125),.int .u64 9223372036854775808,.int .u64 0] = W3 at *
 have X2:=hput.here
 clear hput
 obtain ⟨f2_0,f2_1,f2_2,f2_3,f2_4,f2_5,f2_6,f2_7,y2_0,y2_1,y2_2,y2_3,y2_4,y2_5,y2_6,y2_7⟩:=bx8 X2
 go_wp2
 refine bodyPost_ret (v:=.agg #[.bool false,.int .i64 (-4194304),.int .u64 0,.int .u64 0,.bool false,.int .i64 (-125),.int .u64 9223372036854775808,.int .u64 0]) (by simp [results,Tryz.results88,go_sem,f2_0,f2_1,f2_2,f2_3,f2_4,f2_5,f2_6,f2_7,y2_0,y2_1,y2_2,y2_3,y2_4,y2_5,y2_6,y2_7]) rfl ?_
 exact ⟨rfl,B⟩
theorem bs_3 (W:World):(Instr.buildSlice 202 4 #[(0,.agg #[.bool false,.int .i64 (-4194304),.int .u64 0,.int .u64 0]),(1,.agg #[.bool false,.int .i64 (-127),.int .u64 9223372036854775808,.int .u64 0]),(2,.agg #[.bool false,.int .i64 (-4194304),.int .u64 0,.int .u64 0]),(3,.agg #[.bool false,.int .i64 (-126),.int .u64 9223372036854775808,.int .u64 0])]).run Tryz.prog W = .ok (.slice (some ⟨W.heap.size,0,none⟩) 4 4) (W.alloc (.cells #[.bool false,.int .i64 (-4194304),.int .u64 0,.int .u64 0,.bool false,.int .i64 (-127),.int .u64 9223372036854775808,.int .u64 0,.bool false,.int .i64 (-4194304),.int .u64 0,.int .u64 0,.bool false,.int .i64 (-126),.int .u64 9223372036854775808,.int .u64 0] 125)):=sG
theorem smaller_11 (w:World):Calls Tryz.prog 173 #[.agg #[.bool false,.int .i64 (-126),.int .u64 9223372036854775808,.int .u64 0],.agg #[.bool false,.int .i64 (-4194304),.int .u64 0,.int .u64 0]] w fun e w'=>e = .returned (.bool false) /\ Below w.heap.size w w':=by
 have hfb:=floatbits_run
 go_enter Tryz.func173,Tryz.ntmps173
 go_wp2
 go_ret
 exact ⟨rfl,(bT (bT (Below.refl w.heap.size w) (below_alloc _ _)) (below_alloc _ _))⟩
theorem less_9 (w:World):Calls Tryz.prog 169 #[.agg #[.bool false,.int .i64 (-126),.int .u64 9223372036854775808,.int .u64 0],.agg #[.bool false,.int .i64 (-4194304),.int .u64 0,.int .u64 0]] w fun e w'=>e = .returned (.bool false) /\ Below w.heap.size w w':=by
 have hfb:=floatbits_run
 go_enter Tryz.func169,Tryz.ntmps169
 go_wp2_with fail
 obtain ⟨W1,hW1⟩:∃ W:World,W = (w.alloc (.cells #[.bool false,.int .i64 (-126),.int .u64 9223372036854775808,.int .u64 0] 125)).alloc (.cells #[.bool false,.int .i64 (-4194304),.int .u64 0,.int .u64 0] 125):=⟨_,rfl⟩
 rw [<- hW1]
 have X0:W1.heap[w.heap.size]? = some (.cells #[.bool false,.int .i64 (-126),.int .u64 9223372036854775808,.int .u64 0] 125 (0,0)):=by rw [hW1]; exact ((heap_alloc_old _ _ (by first | omega | (simp <;> omega))).trans (alloc_at sP))
 have X1:W1.heap[w.heap.size + 1]? = some (.cells #[.bool false,.int .i64 (-4194304),.int .u64 0,.int .u64 0] 125 (0,0)):=by rw [hW1]; exact (alloc_at sP)
 have z0:w.heap.size < W1.heap.size:=by rw [hW1]; simp <;> omega
 have z1:w.heap.size + 1 < W1.heap.size:=by rw [hW1]; simp <;> omega
 have B:Below w.heap.size w W1:=by rw [hW1]; exact (bT (bT (Below.refl w.heap.size w) (below_alloc _ _)) (below_alloc _ _))
 clear hW1
 refine (smaller_11 _).mono ?_
 rintro e W2 ⟨rfl,hb2⟩
 replace X0:=(hb2.block _ z0).trans X0
 replace z0:=lL z0 hb2.size
 replace X1:=(hb2.block _ z1).trans X1
 replace z1:=lL z1 hb2.size
 replace B:=bT B hb2
 clear hb2
 obtain ⟨f0_0,f0_1,f0_2,f0_3,y0_0,y0_1,y0_2,y0_3⟩:=bx4 X0
 obtain ⟨f1_0,f1_1,f1_2,f1_3,y1_0,y1_1,y1_2,y1_3⟩:=bx4 X1
 go_wp2
 go_ret
 exact ⟨rfl,B⟩
theorem spread_3 (w:World) (g:Nat) (X0:w.heap[g]? = some (.cells #[.bool false,.int .i64 (-4194304),.int .u64 0,.int .u64 0,.bool false,.int .i64 (-127),.int .u64 9223372036854775808,.int .u64 0,.bool false,.int .i64 (-4194304),.int .u64 0,.int .u64 0,.bool false,.int .i64 (-126),.int .u64 9223372036854775808,.int .u64 0] 125 (0,0))) (z0:g < w.heap.size):Calls Tryz.prog 131 #[.slice (some ⟨g,0,none⟩) 4 4] w fun e w'=>e = .returned (.agg #[.bool false,.int .i64 (-4194304),.int .u64 0,.int .u64 0,.bool false,.int .i64 (-126),.int .u64 9223372036854775808,.int .u64 0]) /\ Below w.heap.size w w':=by
 have hfb:=floatbits_run
 go_enter Tryz.func131,Tryz.ntmps131
 have B:=Below.refl w.heap.size w
 obtain ⟨f0_0,f0_1,f0_2,f0_3,f0_4,f0_5,f0_6,f0_7,f0_8,f0_9,f0_10,f0_11,f0_12,f0_13,f0_14,f0_15,y0_0,y0_1,y0_2,y0_3,y0_4,y0_5,y0_6,y0_7,y0_8,y0_9,y0_10,y0_11,y0_12,y0_13,y0_14,y0_15⟩:=bx16 X0
 go_upto_region 1 with fail
 obtain ⟨W1,hW1⟩:∃ W:World,W = w.alloc (.cells #[.bool false,.int .i64 0,.int .u64 0,.int .u64 0,.bool false,.int .i64 0,.int .u64 0,.int .u64 0] 127):=⟨_,rfl⟩
 rw [<- hW1]
 replace X0:W1.heap[g]? = some (.cells #[.bool false,.int .i64 (-4194304),.int .u64 0,.int .u64 0,.bool false,.int .i64 (-127),.int .u64 9223372036854775808,.int .u64 0,.bool false,.int .i64 (-4194304),.int .u64 0,.int .u64 0,.bool false,.int .i64 (-126),.int .u64 9223372036854775808,.int .u64 0] 125 (0,0)):=by rw [hW1]; exact ((heap_alloc_old _ _ (by first | omega | (simp <;> omega))).trans X0)
 have X1:W1.heap[w.heap.size]? = some (.cells #[.bool false,.int .i64 0,.int .u64 0,.int .u64 0,.bool false,.int .i64 0,.int .u64 0,.int .u64 0] 127 (0,0)):=by rw [hW1]; exact (alloc_at sP)
 have q0_1:g < w.heap.size:=oM
 replace z0:g < W1.heap.size:=by rw [hW1]; simp <;> omega
 have z1:w.heap.size < W1.heap.size:=by rw [hW1]; simp <;> omega
 replace B:Below w.heap.size w W1:=by rw [hW1]; exact (bT B (below_alloc _ _))
 clear hW1
 clear f0_0 f0_1 f0_2 f0_3 f0_4 f0_5 f0_6 f0_7 f0_8 f0_9 f0_10 f0_11 f0_12 f0_13 f0_14 f0_15 y0_0 y0_1 y0_2 y0_3 y0_4 y0_5 y0_6 y0_7 y0_8 y0_9 y0_10 y0_11 y0_12 y0_13 y0_14 y0_15
 obtain ⟨f0_0,f0_1,f0_2,f0_3,f0_4,f0_5,f0_6,f0_7,f0_8,f0_9,f0_10,f0_11,f0_12,f0_13,f0_14,f0_15,y0_0,y0_1,y0_2,y0_3,y0_4,y0_5,y0_6,y0_7,y0_8,y0_9,y0_10,y0_11,y0_12,y0_13,y0_14,y0_15⟩:=bx16 X0
 obtain ⟨f1_0,f1_1,f1_2,f1_3,f1_4,f1_5,f1_6,f1_7,y1_0,y1_1,y1_2,y1_3,y1_4,y1_5,y1_6,y1_7⟩:=bx8 X1
 refine region_lin [.val (kIs (.slice (some ⟨g,0,none⟩) 4 4)),.val (kIs (.pointer (some ⟨g,0,none⟩))),.val (kIs (.agg #[.bool false,.int .i64 (-4194304),.int .u64 0,.int .u64 0])),.val (kIs (.slice (some ⟨g,0,none⟩) 4 4)),.val (kIs (.pointer (some ⟨g,0,none⟩))),.val (kIs (.agg #[.bool false,.int .i64 (-4194304),.int .u64 0,.int .u64 0])),.val (kIs (.agg #[.bool false,.int .i64 (-4194304),.int .u64 0,.int .u64 0,.bool false,.int .i64 (-4194304),.int .u64 0,.int .u64 0])),.box 127 #[.bool false,.int .i64 0,.int .u64 0,.int .u64 0,.bool false,.int .i64 0,.int .u64 0,.int .u64 0],.put 7 6]
  kR kR kR kR kR ⟨stab_is _,stab_is _,stab_is _,stab_is _,stab_is _,stab_is _,stab_is _,trivial⟩ sP ⟨?_,?_,?_,?_,?_,?_,?_,(fun W=>sG),⟨kR,fun v W h=>⟨_,h,rfl,by simp [Value.oneCell']⟩⟩,trivial⟩ ?_
 ·exact obq
 ·intro ts W hb hB hp; have h0:ts 0 = _:=hp 0 kR; intro K hK; simp only [fillT,zA,Nat.reduceAdd,sA,sB,sC,h0] at hK ⊢; have HK:=hid hK; clear hK hp; refine ⟨?_⟩; go_simp; exact HK.out _ _ kk rfB
 ·intro ts W hb hB hp; have h1:ts 1 = _:=hp 1 kR; intro K hK; simp only [fillT,zA,Nat.reduceAdd,sA,sB,sC,h1] at hK ⊢; have HK:=hid hK; clear hK hp; obtain ⟨p0,p1,p2,p3,p4,p5,p6,p7,p8,p9,p10,p11,p12,p13,p14,p15,-,-,-,-,-,-,-,-,-,-,-,-,-,-,-,-⟩:=bx16 ((hb.block _ z0).trans X0); refine ⟨?_⟩; go_simp; exact HK.out _ _ kk rfB
 ·exact obq
 ·intro ts W hb hB hp; have h3:ts 3 = _:=hp 3 kR; intro K hK; simp only [fillT,zA,Nat.reduceAdd,sA,sB,sC,h3] at hK ⊢; have HK:=hid hK; clear hK hp; refine ⟨?_⟩; go_simp; exact HK.out _ _ kk rfB
 ·intro ts W hb hB hp; have h4:ts 4 = _:=hp 4 kR; intro K hK; simp only [fillT,zA,Nat.reduceAdd,sA,sB,sC,h4] at hK ⊢; have HK:=hid hK; clear hK hp; obtain ⟨p0,p1,p2,p3,p4,p5,p6,p7,p8,p9,p10,p11,p12,p13,p14,p15,-,-,-,-,-,-,-,-,-,-,-,-,-,-,-,-⟩:=bx16 ((hb.block _ z0).trans X0); refine ⟨?_⟩; go_simp; exact HK.out _ _ kk rfB
 ·intro ts W hb hB hp; have h2:ts 2 = _:=hp 2 kR; have h5:ts 5 = _:=hp 5 kR; intro K hK; simp only [fillT,zA,Nat.reduceAdd,sA,sB,sC,h2,h5] at hK ⊢; have HK:=hid hK; clear hK hp; refine ⟨?_⟩; go_simp; exact HK.out _ _ kk rfB
 intro ts W2 hb2 hh hap
 have e0:=held_is (hh 0 sP) rfl
 have e1:=held_is (hh 1 sP) rfl
 have e2:=held_is (hh 2 sP) rfl
 have e3:=held_is (hh 3 sP) rfl
 have e4:=held_is (hh 4 sP) rfl
 have e5:=held_is (hh 5 sP) rfl
 have e6:=held_is (hh 6 sP) rfl
 obtain ⟨g2,e7,lo9,z2,X2⟩:=held_boxG (hh 7 sP) rfl (hh 8 sP) rfl (hh 6 sP) rfl
 simp only [fillT,zA,Nat.reduceAdd,sA,sB,sC,e0,e1,e2,e3,e4,e5,e6,e7]
 clear hh hap e0 e1 e2 e3 e4 e5 e6 e7
 have q0_2:g < g2:=oM
 have q1_2:w.heap.size < g2:=oM
 clear lo9
 replace X0:=(hb2.block _ z0).trans X0
 replace z0:=lL z0 hb2.size
 replace X1:=(hb2.block _ z1).trans X1
 replace z1:=lL z1 hb2.size
 replace B:=bT B hb2
 clear hb2
 clear f0_0 f0_1 f0_2 f0_3 f0_4 f0_5 f0_6 f0_7 f0_8 f0_9 f0_10 f0_11 f0_12 f0_13 f0_14 f0_15 y0_0 y0_1 y0_2 y0_3 y0_4 y0_5 y0_6 y0_7 y0_8 y0_9 y0_10 y0_11 y0_12 y0_13 y0_14 y0_15 f1_0 f1_1 f1_2 f1_3 f1_4 f1_5 f1_6 f1_7 y1_0 y1_1 y1_2 y1_3 y1_4 y1_5 y1_6 y1_7
 obtain ⟨f0_0,f0_1,f0_2,f0_3,f0_4,f0_5,f0_6,f0_7,f0_8,f0_9,f0_10,f0_11,f0_12,f0_13,f0_14,f0_15,y0_0,y0_1,y0_2,y0_3,y0_4,y0_5,y0_6,y0_7,y0_8,y0_9,y0_10,y0_11,y0_12,y0_13,y0_14,y0_15⟩:=bx16 X0
 obtain ⟨f1_0,f1_1,f1_2,f1_3,f1_4,f1_5,f1_6,f1_7,y1_0,y1_1,y1_2,y1_3,y1_4,y1_5,y1_6,y1_7⟩:=bx8 X1
 clear f0_0 f0_1 f0_2 f0_3 f0_4 f0_5 f0_6 f0_7 f0_8 f0_9 f0_10 f0_11 f0_12 f0_13 f0_14 f0_15 y0_0 y0_1 y0_2 y0_3 y0_4 y0_5 y0_6 y0_7 y0_8 y0_9 y0_10 y0_11 y0_12 y0_13 y0_14 y0_15 f1_0 f1_1 f1_2 f1_3 f1_4 f1_5 f1_6 f1_7 y1_0 y1_1 y1_2 y1_3 y1_4 y1_5 y1_6 y1_7
 obtain ⟨f0_0,f0_1,f0_2,f0_3,f0_4,f0_5,f0_6,f0_7,f0_8,f0_9,f0_10,f0_11,f0_12,f0_13,f0_14,f0_15,y0_0,y0_1,y0_2,y0_3,y0_4,y0_5,y0_6,y0_7,y0_8,y0_9,y0_10,y0_11,y0_12,y0_13,y0_14,y0_15⟩:=bx16 X0
 obtain ⟨f1_0,f1_1,f1_2,f1_3,f1_4,f1_5,f1_6,f1_7,y1_0,y1_1,y1_2,y1_3,y1_4,y1_5,y1_6,y1_7⟩:=bx8 X1
 obtain ⟨f2_0,f2_1,f2_2,f2_3,f2_4,f2_5,f2_6,f2_7,y2_0,y2_1,y2_2,y2_3,y2_4,y2_5,y2_6,y2_7⟩:=bx8 X2
 go_wp2_with fail
 refine wp_loop_rounds 4 ?_
 rw [rounds_succ]
 go_wp2_with fail
 obtain ⟨W3,hW3⟩:∃ W:World,W = W2.alloc (.cells #[.bool false,.int .i64 (-127),.int .u64 9223372036854775808,.int .u64 0] 125):=⟨_,rfl⟩
 rw [<- hW3]
 replace X0:W3.heap[g]? = some (.cells #[.bool false,.int .i64 (-4194304),.int .u64 0,.int .u64 0,.bool false,.int .i64 (-127),.int .u64 9223372036854775808,.int .u64 0,.bool false,.int .i64 (-4194304),.int .u64 0,.int .u64 0,.bool false,.int .i64 (-126),.int .u64 9223372036854775808,.int .u64 0] 125 (0,0)):=by rw [hW3]; exact ((heap_alloc_old _ _ (by first | omega | (simp <;> omega))).trans X0)
 replace X1:W3.heap[w.heap.size]? = some (.cells #[.bool false,.int .i64 0,.int .u64 0,.int .u64 0,.bool false,.int .i64 0,.int .u64 0,.int .u64 0] 127 (0,0)):=by rw [hW3]; exact ((heap_alloc_old _ _ (by first | omega | (simp <;> omega))).trans X1)
 replace X2:W3.heap[g2]? = some (.cells #[.bool false,.int .i64 (-4194304),.int .u64 0,.int .u64 0,.bool false,.int .i64 (-4194304),.int .u64 0,.int .u64 0] 127 (0,0)):=by rw [hW3]; exact ((heap_alloc_old _ _ (by first | omega | (simp <;> omega))).trans X2)
 have X3:W3.heap[W2.heap.size]? = some (.cells #[.bool false,.int .i64 (-127),.int .u64 9223372036854775808,.int .u64 0] 125 (0,0)):=by rw [hW3]; exact (alloc_at sP)
 have q0_3:g < W2.heap.size:=oM
 have q1_3:w.heap.size < W2.heap.size:=oM
 have q2_3:g2 < W2.heap.size:=oM
 replace z0:g < W3.heap.size:=by rw [hW3]; simp <;> omega
 replace z1:w.heap.size < W3.heap.size:=by rw [hW3]; simp <;> omega
 replace z2:g2 < W3.heap.size:=by rw [hW3]; simp <;> omega
 have z3:W2.heap.size < W3.heap.size:=by rw [hW3]; simp <;> omega
 replace B:Below w.heap.size w W3:=by rw [hW3]; exact (bT B (below_alloc _ _))
 clear hW3
 refine (less_7 _).mono ?_
 rintro e W4 ⟨rfl,hb4⟩
 replace X0:=(hb4.block _ z0).trans X0
 replace z0:=lL z0 hb4.size
 replace X1:=(hb4.block _ z1).trans X1
 replace z1:=lL z1 hb4.size
 replace X2:=(hb4.block _ z2).trans X2
 replace z2:=lL z2 hb4.size
 replace X3:=(hb4.block _ z3).trans X3
 replace z3:=lL z3 hb4.size
 replace B:=bT B hb4
 clear hb4
 clear f0_0 f0_1 f0_2 f0_3 f0_4 f0_5 f0_6 f0_7 f0_8 f0_9 f0_10 f0_11 f0_12 f0_13 f0_14 f0_15 y0_0 y0_1 y0_2 y0_3 y0_4 y0_5 y0_6 y0_7 y0_8 y0_9 y0_10 y0_11 y0_12 y0_13 y0_14 y0_15 f1_0 f1_1 f1_2 f1_3 f1_4 f1_5 f1_6 f1_7 y1_0 y1_1 y1_2 y1_3 y1_4 y1_5 y1_6 y1_7 f2_0 f2_1 f2_2 f2_3 f2_4 f2_5 f2_6 f2_7 y2_0 y2_1 y2_2 y2_3 y2_4 y2_5 y2_6 y2_7
 obtain ⟨f0_0,f0_1,f0_2,f0_3,f0_4,f0_5,f0_6,f0_7,f0_8,f0_9,f0_10,f0_11,f0_12,f0_13,f0_14,f0_15,y0_0,y0_1,y0_2,y0_3,y0_4,y0_5,y0_6,y0_7,y0_8,y0_9,y0_10,y0_11,y0_12,y0_13,y0_14,y0_15⟩:=bx16 X0
 obtain ⟨f1_0,f1_1,f1_2,f1_3,f1_4,f1_5,f1_6,f1_7,y1_0,y1_1,y1_2,y1_3,y1_4,y1_5,y1_6,y1_7⟩:=bx8 X1
 obtain ⟨f2_0,f2_1,f2_2,f2_3,f2_4,f2_5,f2_6,f2_7,y2_0,y2_1,y2_2,y2_3,y2_4,y2_5,y2_6,y2_7⟩:=bx8 X2
 obtain ⟨f3_0,f3_1,f3_2,f3_3,y3_0,y3_1,y3_2,y3_3⟩:=bx4 X3
 go_wp2_with fail
 refine (less_8 _).mono ?_
 rintro e W5 ⟨rfl,hb5⟩
 replace X0:=(hb5.block _ z0).trans X0
 replace z0:=lL z0 hb5.size
 replace X1:=(hb5.block _ z1).trans X1
 replace z1:=lL z1 hb5.size
 replace X2:=(hb5.block _ z2).trans X2
 replace z2:=lL z2 hb5.size
 replace X3:=(hb5.block _ z3).trans X3
 replace z3:=lL z3 hb5.size
 replace B:=bT B hb5
 clear hb5
 clear f0_0 f0_1 f0_2 f0_3 f0_4 f0_5 f0_6 f0_7 f0_8 f0_9 f0_10 f0_11 f0_12 f0_13 f0_14 f0_15 y0_0 y0_1 y0_2 y0_3 y0_4 y0_5 y0_6 y0_7 y0_8 y0_9 y0_10 y0_11 y0_12 y0_13 y0_14 y0_15 f1_0 f1_1 f1_2 f1_3 f1_4 f1_5 f1_6 f1_7 y1_0 y1_1 y1_2 y1_3 y1_4 y1_5 y1_6 y1_7 f2_0 f2_1 f2_2 f2_3 f2_4 f2_5 f2_6 f2_7 y2_0 y2_1 y2_2 y2_3 y2_4 y2_5 y2_6 y2_7 f3_0 f3_1 f3_2 f3_3 y3_0 y3_1 y3_2 y3_3
 obtain ⟨f0_0,f0_1,f0_2,f0_3,f0_4,f0_5,f0_6,f0_7,f0_8,f0_9,f0_10,f0_11,f0_12,f0_13,f0_14,f0_15,y0_0,y0_1,y0_2,y0_3,y0_4,y0_5,y0_6,y0_7,y0_8,y0_9,y0_10,y0_11,y0_12,y0_13,y0_14,y0_15⟩:=bx16 X0
 obtain ⟨f1_0,f1_1,f1_2,f1_3,f1_4,f1_5,f1_6,f1_7,y1_0,y1_1,y1_2,y1_3,y1_4,y1_5,y1_6,y1_7⟩:=bx8 X1
 obtain ⟨f2_0,f2_1,f2_2,f2_3,f2_4,f2_5,f2_6,f2_7,y2_0,y2_1,y2_2,y2_3,y2_4,y2_5,y2_6,y2_7⟩:=bx8 X2
 obtain ⟨f3_0,f3_1,f3_2,f3_3,y3_0,y3_1,y3_2,y3_3⟩:=bx4 X3
 go_wp2_with fail
 rw [rounds_succ]
 go_wp2_with fail
 obtain ⟨W6,hW6⟩:∃ W:World,W = ((((W5.setCell ⟨g2,4,none⟩ (.bool false)).setCell ⟨g2,5,none⟩ (.int .i64 (-127))).setCell ⟨g2,6,none⟩ (.int .u64 9223372036854775808)).setCell ⟨g2,7,none⟩ (.int .u64 0)).alloc (.cells #[.bool false,.int .i64 (-4194304),.int .u64 0,.int .u64 0] 125):=⟨_,rfl⟩
 rw [<- hW6]
 replace X0:W6.heap[g]? = some (.cells #[.bool false,.int .i64 (-4194304),.int .u64 0,.int .u64 0,.bool false,.int .i64 (-127),.int .u64 9223372036854775808,.int .u64 0,.bool false,.int .i64 (-4194304),.int .u64 0,.int .u64 0,.bool false,.int .i64 (-126),.int .u64 9223372036854775808,.int .u64 0] 125 (0,0)):=by rw [hW6]; exact ((heap_alloc_old _ _ (by first | omega | (simp <;> omega))).trans (set_other (set_other (set_other (set_other X0 oM _) oM _) oM _) oM _))
 replace X1:W6.heap[w.heap.size]? = some (.cells #[.bool false,.int .i64 0,.int .u64 0,.int .u64 0,.bool false,.int .i64 0,.int .u64 0,.int .u64 0] 127 (0,0)):=by rw [hW6]; exact ((heap_alloc_old _ _ (by first | omega | (simp <;> omega))).trans (set_other (set_other (set_other (set_other X1 oM _) oM _) oM _) oM _))
 replace X2:W6.heap[g2]? = some (.cells #[.bool false,.int .i64 (-4194304),.int .u64 0,.int .u64 0,.bool false,.int .i64 (-127),.int .u64 9223372036854775808,.int .u64 0] 127 (0,0)):=by rw [hW6]; exact ((heap_alloc_old _ _ (by first | omega | (simp <;> omega))).trans (set_same (set_same (set_same (set_same X2 _) _) _) _))
 replace X3:W6.heap[W2.heap.size]? = some (.cells #[.bool false,.int .i64 (-127),.int .u64 9223372036854775808,.int .u64 0] 125 (0,0)):=by rw [hW6]; exact ((heap_alloc_old _ _ (by first | omega | (simp <;> omega))).trans (set_other (set_other (set_other (set_other X3 oM _) oM _) oM _) oM _))
 have X4:W6.heap[W5.heap.size]? = some (.cells #[.bool false,.int .i64 (-4194304),.int .u64 0,.int .u64 0] 125 (0,0)):=by rw [hW6]; exact (alloc_at sP)
 have q0_4:g < W5.heap.size:=oM
 have q1_4:w.heap.size < W5.heap.size:=oM
 have q2_4:g2 < W5.heap.size:=oM
 have q3_4:W2.heap.size < W5.heap.size:=oM
 replace z0:g < W6.heap.size:=by rw [hW6]; simp <;> omega
 replace z1:w.heap.size < W6.heap.size:=by rw [hW6]; simp <;> omega
 replace z2:g2 < W6.heap.size:=by rw [hW6]; simp <;> omega
 replace z3:W2.heap.size < W6.heap.size:=by rw [hW6]; simp <;> omega
 have z4:W5.heap.size < W6.heap.size:=by rw [hW6]; simp <;> omega
 replace B:Below w.heap.size w W6:=by rw [hW6]; exact (bT (Below.setCell (p:=⟨g2,7,none⟩) (Below.setCell (p:=⟨g2,6,none⟩) (Below.setCell (p:=⟨g2,5,none⟩) (Below.setCell (p:=⟨g2,4,none⟩) B (show w.heap.size <= g2 by omega) _) (show w.heap.size <= g2 by omega) _) (show w.heap.size <= g2 by omega) _) (show w.heap.size <= g2 by omega) _) (below_alloc _ _))
 clear hW6
 refine (less_6 _).mono ?_
 rintro e W7 ⟨rfl,hb7⟩
 replace X0:=(hb7.block _ z0).trans X0
 replace z0:=lL z0 hb7.size
 replace X1:=(hb7.block _ z1).trans X1
 replace z1:=lL z1 hb7.size
 replace X2:=(hb7.block _ z2).trans X2
 replace z2:=lL z2 hb7.size
 replace X3:=(hb7.block _ z3).trans X3
 replace z3:=lL z3 hb7.size
 replace X4:=(hb7.block _ z4).trans X4
 replace z4:=lL z4 hb7.size
 replace B:=bT B hb7
 clear hb7
 clear f0_0 f0_1 f0_2 f0_3 f0_4 f0_5 f0_6 f0_7 f0_8 f0_9 f0_10 f0_11 f0_12 f0_13 f0_14 f0_15 y0_0 y0_1 y0_2 y0_3 y0_4 y0_5 y0_6 y0_7 y0_8 y0_9 y0_10 y0_11 y0_12 y0_13 y0_14 y0_15 f1_0 f1_1 f1_2 f1_3 f1_4 f1_5 f1_6 f1_7 y1_0 y1_1 y1_2 y1_3 y1_4 y1_5 y1_6 y1_7 f2_0 f2_1 f2_2 f2_3 f2_4 f2_5 f2_6 f2_7 y2_0 y2_1 y2_2 y2_3 y2_4 y2_5 y2_6 y2_7 f3_0 f3_1 f3_2 f3_3 y3_0 y3_1 y3_2 y3_3
 obtain ⟨f0_0,f0_1,f0_2,f0_3,f0_4,f0_5,f0_6,f0_7,f0_8,f0_9,f0_10,f0_11,f0_12,f0_13,f0_14,f0_15,y0_0,y0_1,y0_2,y0_3,y0_4,y0_5,y0_6,y0_7,y0_8,y0_9,y0_10,y0_11,y0_12,y0_13,y0_14,y0_15⟩:=bx16 X0
 obtain ⟨f1_0,f1_1,f1_2,f1_3,f1_4,f1_5,f1_6,f1_7,y1_0,y1_1,y1_2,y1_3,y1_4,y1_5,y1_6,y1_7⟩:=bx8 X1
 obtain ⟨f2_0,f2_1,f2_2,f2_3,f2_4,f2_5,f2_6,f2_7,y2_0,y2_1,y2_2,y2_3,y2_4,y2_5,y2_6,y2_7⟩:=bx8 X2
 obtain ⟨f3_0,f3_1,f3_2,f3_3,y3_0,y3_1,y3_2,y3_3⟩:=bx4 X3
 obtain ⟨f4_0,f4_1,f4_2,f4_3,y4_0,y4_1,y4_2,y4_3⟩:=bx4 X4
 go_wp2_with fail
 refine (less_7 _).mono ?_
 rintro e W8 ⟨rfl,hb8⟩
 replace X0:=(hb8.block _ z0).trans X0
 replace z0:=lL z0 hb8.size
 replace X1:=(hb8.block _ z1).trans X1
 replace z1:=lL z1 hb8.size
 replace X2:=(hb8.block _ z2).trans X2
 replace z2:=lL z2 hb8.size
 replace X3:=(hb8.block _ z3).trans X3
 replace z3:=lL z3 hb8.size
 replace X4:=(hb8.block _ z4).trans X4
 replace z4:=lL z4 hb8.size
 replace B:=bT B hb8
 clear hb8
 clear f0_0 f0_1 f0_2 f0_3 f0_4 f0_5 f0_6 f0_7 f0_8 f0_9 f0_10 f0_11 f0_12 f0_13 f0_14 f0_15 y0_0 y0_1 y0_2 y0_3 y0_4 y0_5 y0_6 y0_7 y0_8 y0_9 y0_10 y0_11 y0_12 y0_13 y0_14 y0_15 f1_0 f1_1 f1_2 f1_3 f1_4 f1_5 f1_6 f1_7 y1_0 y1_1 y1_2 y1_3 y1_4 y1_5 y1_6 y1_7 f2_0 f2_1 f2_2 f2_3 f2_4 f2_5 f2_6 f2_7 y2_0 y2_1 y2_2 y2_3 y2_4 y2_5 y2_6 y2_7 f3_0 f3_1 f3_2 f3_3 y3_0 y3_1 y3_2 y3_3 f4_0 f4_1 f4_2 f4_3 y4_0 y4_1 y4_2 y4_3
 obtain ⟨f0_0,f0_1,f0_2,f0_3,f0_4,f0_5,f0_6,f0_7,f0_8,f0_9,f0_10,f0_11,f0_12,f0_13,f0_14,f0_15,y0_0,y0_1,y0_2,y0_3,y0_4,y0_5,y0_6,y0_7,y0_8,y0_9,y0_10,y0_11,y0_12,y0_13,y0_14,y0_15⟩:=bx16 X0
 obtain ⟨f1_0,f1_1,f1_2,f1_3,f1_4,f1_5,f1_6,f1_7,y1_0,y1_1,y1_2,y1_3,y1_4,y1_5,y1_6,y1_7⟩:=bx8 X1
 obtain ⟨f2_0,f2_1,f2_2,f2_3,f2_4,f2_5,f2_6,f2_7,y2_0,y2_1,y2_2,y2_3,y2_4,y2_5,y2_6,y2_7⟩:=bx8 X2
 obtain ⟨f3_0,f3_1,f3_2,f3_3,y3_0,y3_1,y3_2,y3_3⟩:=bx4 X3
 obtain ⟨f4_0,f4_1,f4_2,f4_3,y4_0,y4_1,y4_2,y4_3⟩:=bx4 X4
 go_wp2_with fail
 rw [rounds_succ]
 go_wp2_with fail
 obtain ⟨W9,hW9⟩:∃ W:World,W = W8.alloc (.cells #[.bool false,.int .i64 (-126),.int .u64 9223372036854775808,.int .u64 0] 125):=⟨_,rfl⟩
 rw [<- hW9]
 replace X0:W9.heap[g]? = some (.cells #[.bool false,.int .i64 (-4194304),.int .u64 0,.int .u64 0,.bool false,.int .i64 (-127),.int .u64 9223372036854775808,.int .u64 0,.bool false,.int .i64 (-4194304),.int .u64 0,.int .u64 0,.bool false,.int .i64 (-126),.int .u64 9223372036854775808,.int .u64 0] 125 (0,0)):=by rw [hW9]; exact ((heap_alloc_old _ _ (by first | omega | (simp <;> omega))).trans X0)
 replace X1:W9.heap[w.heap.size]? = some (.cells #[.bool false,.int .i64 0,.int .u64 0,.int .u64 0,.bool false,.int .i64 0,.int .u64 0,.int .u64 0] 127 (0,0)):=by rw [hW9]; exact ((heap_alloc_old _ _ (by first | omega | (simp <;> omega))).trans X1)
 replace X2:W9.heap[g2]? = some (.cells #[.bool false,.int .i64 (-4194304),.int .u64 0,.int .u64 0,.bool false,.int .i64 (-127),.int .u64 9223372036854775808,.int .u64 0] 127 (0,0)):=by rw [hW9]; exact ((heap_alloc_old _ _ (by first | omega | (simp <;> omega))).trans X2)
 replace X3:W9.heap[W2.heap.size]? = some (.cells #[.bool false,.int .i64 (-127),.int .u64 9223372036854775808,.int .u64 0] 125 (0,0)):=by rw [hW9]; exact ((heap_alloc_old _ _ (by first | omega | (simp <;> omega))).trans X3)
 replace X4:W9.heap[W5.heap.size]? = some (.cells #[.bool false,.int .i64 (-4194304),.int .u64 0,.int .u64 0] 125 (0,0)):=by rw [hW9]; exact ((heap_alloc_old _ _ (by first | omega | (simp <;> omega))).trans X4)
 have X5:W9.heap[W8.heap.size]? = some (.cells #[.bool false,.int .i64 (-126),.int .u64 9223372036854775808,.int .u64 0] 125 (0,0)):=by rw [hW9]; exact (alloc_at sP)
 have q0_5:g < W8.heap.size:=oM
 have q1_5:w.heap.size < W8.heap.size:=oM
 have q2_5:g2 < W8.heap.size:=oM
 have q3_5:W2.heap.size < W8.heap.size:=oM
 have q4_5:W5.heap.size < W8.heap.size:=oM
 replace z0:g < W9.heap.size:=by rw [hW9]; simp <;> omega
 replace z1:w.heap.size < W9.heap.size:=by rw [hW9]; simp <;> omega
 replace z2:g2 < W9.heap.size:=by rw [hW9]; simp <;> omega
 replace z3:W2.heap.size < W9.heap.size:=by rw [hW9]; simp <;> omega
 replace z4:W5.heap.size < W9.heap.size:=by rw [hW9]; simp <;> omega
 have z5:W8.heap.size < W9.heap.size:=by rw [hW9]; simp <;> omega
 replace B:Below w.heap.size w W9:=by rw [hW9]; exact (bT B (below_alloc _ _))
 clear hW9
 refine (less_9 _).mono ?_
 rintro e W10 ⟨rfl,hb10⟩
 replace X0:=(hb10.block _ z0).trans X0
 replace z0:=lL z0 hb10.size
 replace X1:=(hb10.block _ z1).trans X1
 replace z1:=lL z1 hb10.size
 replace X2:=(hb10.block _ z2).trans X2
 replace z2:=lL z2 hb10.size
 replace X3:=(hb10.block _ z3).trans X3
 replace z3:=lL z3 hb10.size
 replace X4:=(hb10.block _ z4).trans X4
 replace z4:=lL z4 hb10.size
 replace X5:=(hb10.block _ z5).trans X5
 replace z5:=lL z5 hb10.size
 replace B:=bT B hb10
 clear hb10
 clear f0_0 f0_1 f0_2 f0_3 f0_4 f0_5 f0_6 f0_7 f0_8 f0_9 f0_10 f0_11 f0_12 f0_13 f0_14 f0_15 y0_0 y0_1 y0_2 y0_3 y0_4 y0_5 y0_6 y0_7 y0_8 y0_9 y0_10 y0_11 y0_12 y0_13 y0_14 y0_15 f1_0 f1_1 f1_2 f1_3 f1_4 f1_5 f1_6 f1_7 y1_0 y1_1 y1_2 y1_3 y1_4 y1_5 y1_6 y1_7 f2_0 f2_1 f2_2 f2_3 f2_4 f2_5 f2_6 f2_7 y2_0 y2_1 y2_2 y2_3 y2_4 y2_5 y2_6 y2_7 f3_0 f3_1 f3_2 f3_3 y3_0 y3_1 y3_2 y3_3 f4_0 f4_1 f4_2 f4_3 y4_0 y4_1 y4_2 y4_3
 obtain ⟨f0_0,f0_1,f0_2,f0_3,f0_4,f0_5,f0_6,f0_7,f0_8,f0_9,f0_10,f0_11,f0_12,f0_13,f0_14,f0_15,y0_0,y0_1,y0_2,y0_3,y0_4,y0_5,y0_6,y0_7,y0_8,y0_9,y0_10,y0_11,y0_12,y0_13,y0_14,y0_15⟩:=bx16 X0
 obtain ⟨f1_0,f1_1,f1_2,f1_3,f1_4,f1_5,f1_6,f1_7,y1_0,y1_1,y1_2,y1_3,y1_4,y1_5,y1_6,y1_7⟩:=bx8 X1
 obtain ⟨f2_0,f2_1,f2_2,f2_3,f2_4,f2_5,f2_6,f2_7,y2_0,y2_1,y2_2,y2_3,y2_4,y2_5,y2_6,y2_7⟩:=bx8 X2
 obtain ⟨f3_0,f3_1,f3_2,f3_3,y3_0,y3_1,y3_2,y3_3⟩:=bx4 X3
 obtain ⟨f4_0,f4_1,f4_2,f4_3,y4_0,y4_1,y4_2,y4_3⟩:=bx4 X4
 obtain ⟨f5_0,f5_1,f5_2,f5_3,y5_0,y5_1,y5_2,y5_3⟩:=bx4 X5
 go_wp2_with fail
 refine (less_2 _).mono ?_
 rintro e W11 ⟨rfl,hb11⟩
 replace X0:=(hb11.block _ z0).trans X0
 replace z0:=lL z0 hb11.size
 replace X1:=(hb11.block _ z1).trans X1
 replace z1:=lL z1 hb11.size
 replace X2:=(hb11.block _ z2).trans X2
 replace z2:=lL z2 hb11.size
 replace X3:=(hb11.block _ z3).trans X3
 replace z3:=lL z3 hb11.size
 replace X4:=(hb11.block _ z4).trans X4
 replace z4:=lL z4 hb11.size
 replace X5:=(hb11.block _ z5).trans X5
 replace z5:=lL z5 hb11.size
 replace B:=bT B hb11
 clear hb11
 clear f0_0 f0_1 f0_2 f0_3 f0_4 f0_5 f0_6 f0_7 f0_8 f0_9 f0_10 f0_11 f0_12 f0_13 f0_14 f0_15 y0_0 y0_1 y0_2 y0_3 y0_4 y0_5 y0_6 y0_7 y0_8 y0_9 y0_10 y0_11 y0_12 y0_13 y0_14 y0_15 f1_0 f1_1 f1_2 f1_3 f1_4 f1_5 f1_6 f1_7 y1_0 y1_1 y1_2 y1_3 y1_4 y1_5 y1_6 y1_7 f2_0 f2_1 f2_2 f2_3 f2_4 f2_5 f2_6 f2_7 y2_0 y2_1 y2_2 y2_3 y2_4 y2_5 y2_6 y2_7 f3_0 f3_1 f3_2 f3_3 y3_0 y3_1 y3_2 y3_3 f4_0 f4_1 f4_2 f4_3 y4_0 y4_1 y4_2 y4_3 f5_0 f5_1 f5_2 f5_3 y5_0 y5_1 y5_2 y5_3
 obtain ⟨f0_0,f0_1,f0_2,f0_3,f0_4,f0_5,f0_6,f0_7,f0_8,f0_9,f0_10,f0_11,f0_12,f0_13,f0_14,f0_15,y0_0,y0_1,y0_2,y0_3,y0_4,y0_5,y0_6,y0_7,y0_8,y0_9,y0_10,y0_11,y0_12,y0_13,y0_14,y0_15⟩:=bx16 X0
 obtain ⟨f1_0,f1_1,f1_2,f1_3,f1_4,f1_5,f1_6,f1_7,y1_0,y1_1,y1_2,y1_3,y1_4,y1_5,y1_6,y1_7⟩:=bx8 X1
 obtain ⟨f2_0,f2_1,f2_2,f2_3,f2_4,f2_5,f2_6,f2_7,y2_0,y2_1,y2_2,y2_3,y2_4,y2_5,y2_6,y2_7⟩:=bx8 X2
 obtain ⟨f3_0,f3_1,f3_2,f3_3,y3_0,y3_1,y3_2,y3_3⟩:=bx4 X3
 obtain ⟨f4_0,f4_1,f4_2,f4_3,y4_0,y4_1,y4_2,y4_3⟩:=bx4 X4
 obtain ⟨f5_0,f5_1,f5_2,f5_3,y5_0,y5_1,y5_2,y5_3⟩:=bx4 X5
 go_wp2_with fail
 rw [rounds_succ]
 go_upto_region 10 with fail
 obtain ⟨W12,hW12⟩:∃ W:World,W = (((W11.setCell ⟨g2,4,none⟩ (.bool false)).setCell ⟨g2,5,none⟩ (.int .i64 (-126))).setCell ⟨g2,6,none⟩ (.int .u64 9223372036854775808)).setCell ⟨g2,7,none⟩ (.int .u64 0):=⟨_,rfl⟩
 rw [<- hW12]
 replace X0:W12.heap[g]? = some (.cells #[.bool false,.int .i64 (-4194304),.int .u64 0,.int .u64 0,.bool false,.int .i64 (-127),.int .u64 9223372036854775808,.int .u64 0,.bool false,.int .i64 (-4194304),.int .u64 0,.int .u64 0,.bool false,.int .i64 (-126),.int .u64 9223372036854775808,.int .u64 0] 125 (0,0)):=by rw [hW12]; exact (set_other (set_other (set_other (set_other X0 oM _) oM _) oM _) oM _)
 replace X1:W12.heap[w.heap.size]? = some (.cells #[.bool false,.int .i64 0,.int .u64 0,.int .u64 0,.bool false,.int .i64 0,.int .u64 0,.int .u64 0] 127 (0,0)):=by rw [hW12]; exact (set_other (set_other (set_other (set_other X1 oM _) oM _) oM _) oM _)
 replace X2:W12.heap[g2]? = some (.cells #[.bool false,.int .i64 (-4194304),.int .u64 0,.int .u64 0,.bool false,.int .i64 (-126),.int .u64 9223372036854775808,.int .u64 0] 127 (0,0)):=by rw [hW12]; exact (set_same (set_same (set_same (set_same X2 _) _) _) _)
 replace X3:W12.heap[W2.heap.size]? = some (.cells #[.bool false,.int .i64 (-127),.int .u64 9223372036854775808,.int .u64 0] 125 (0,0)):=by rw [hW12]; exact (set_other (set_other (set_other (set_other X3 oM _) oM _) oM _) oM _)
 replace X4:W12.heap[W5.heap.size]? = some (.cells #[.bool false,.int .i64 (-4194304),.int .u64 0,.int .u64 0] 125 (0,0)):=by rw [hW12]; exact (set_other (set_other (set_other (set_other X4 oM _) oM _) oM _) oM _)
 replace X5:W12.heap[W8.heap.size]? = some (.cells #[.bool false,.int .i64 (-126),.int .u64 9223372036854775808,.int .u64 0] 125 (0,0)):=by rw [hW12]; exact (set_other (set_other (set_other (set_other X5 oM _) oM _) oM _) oM _)
 replace z0:g < W12.heap.size:=by rw [hW12]; simp <;> omega
 replace z1:w.heap.size < W12.heap.size:=by rw [hW12]; simp <;> omega
 replace z2:g2 < W12.heap.size:=by rw [hW12]; simp <;> omega
 replace z3:W2.heap.size < W12.heap.size:=by rw [hW12]; simp <;> omega
 replace z4:W5.heap.size < W12.heap.size:=by rw [hW12]; simp <;> omega
 replace z5:W8.heap.size < W12.heap.size:=by rw [hW12]; simp <;> omega
 replace B:Below w.heap.size w W12:=by rw [hW12]; exact (Below.setCell (p:=⟨g2,7,none⟩) (Below.setCell (p:=⟨g2,6,none⟩) (Below.setCell (p:=⟨g2,5,none⟩) (Below.setCell (p:=⟨g2,4,none⟩) B (show w.heap.size <= g2 by omega) _) (show w.heap.size <= g2 by omega) _) (show w.heap.size <= g2 by omega) _) (show w.heap.size <= g2 by omega) _)
 clear hW12
 clear f0_0 f0_1 f0_2 f0_3 f0_4 f0_5 f0_6 f0_7 f0_8 f0_9 f0_10 f0_11 f0_12 f0_13 f0_14 f0_15 y0_0 y0_1 y0_2 y0_3 y0_4 y0_5 y0_6 y0_7 y0_8 y0_9 y0_10 y0_11 y0_12 y0_13 y0_14 y0_15 f1_0 f1_1 f1_2 f1_3 f1_4 f1_5 f1_6 f1_7 y1_0 y1_1 y1_2 y1_3 y1_4 y1_5 y1_6 y1_7 f2_0 f2_1 f2_2 f2_3 f2_4 f2_5 f2_6 f2_7 y2_0 y2_1 y2_2 y2_3 y2_4 y2_5 y2_6 y2_7 f3_0 f3_1 f3_2 f3_3 y3_0 y3_1 y3_2 y3_3 f4_0 f4_1 f4_2 f4_3 y4_0 y4_1 y4_2 y4_3 f5_0 f5_1 f5_2 f5_3 y5_0 y5_1 y5_2 y5_3
 obtain ⟨f0_0,f0_1,f0_2,f0_3,f0_4,f0_5,f0_6,f0_7,f0_8,f0_9,f0_10,f0_11,f0_12,f0_13,f0_14,f0_15,y0_0,y0_1,y0_2,y0_3,y0_4,y0_5,y0_6,y0_7,y0_8,y0_9,y0_10,y0_11,y0_12,y0_13,y0_14,y0_15⟩:=bx16 X0
 obtain ⟨f1_0,f1_1,f1_2,f1_3,f1_4,f1_5,f1_6,f1_7,y1_0,y1_1,y1_2,y1_3,y1_4,y1_5,y1_6,y1_7⟩:=bx8 X1
 obtain ⟨f2_0,f2_1,f2_2,f2_3,f2_4,f2_5,f2_6,f2_7,y2_0,y2_1,y2_2,y2_3,y2_4,y2_5,y2_6,y2_7⟩:=bx8 X2
 obtain ⟨f3_0,f3_1,f3_2,f3_3,y3_0,y3_1,y3_2,y3_3⟩:=bx4 X3
 obtain ⟨f4_0,f4_1,f4_2,f4_3,y4_0,y4_1,y4_2,y4_3⟩:=bx4 X4
 obtain ⟨f5_0,f5_1,f5_2,f5_3,y5_0,y5_1,y5_2,y5_3⟩:=bx4 X5
 go_wp2
 refine bodyPost_ret (v:=.agg #[.bool false,.int .i64 (-4194304),.int .u64 0,.int .u64 0,.bool false,.int .i64 (-126),.int .u64 9223372036854775808,.int .u64 0]) (by simp [results,Tryz.results131,go_sem,f0_0,f0_1,f0_2,f0_3,f0_4,f0_5,f0_6,f0_7,f0_8,f0_9,f0_10,f0_11,f0_12,f0_13,f0_14,f0_15,y0_0,y0_1,y0_2,y0_3,y0_4,y0_5,y0_6,y0_7,y0_8,y0_9,y0_10,y0_11,y0_12,y0_13,y0_14,y0_15,f1_0,f1_1,f1_2,f1_3,f1_4,f1_5,f1_6,f1_7,y1_0,y1_1,y1_2,y1_3,y1_4,y1_5,y1_6,y1_7,f2_0,f2_1,f2_2,f2_3,f2_4,f2_5,f2_6,f2_7,y2_0,y2_1,y2_2,y2_3,y2_4,y2_5,y2_6,y2_7,f3_0,f3_1,f3_2,f3_3,y3_0,y3_1,y3_2,y3_3,f4_0,f4_1,f4_2,f4_3,y4_0,y4_1,y4_2,y4_3,f5_0,f5_1,f5_2,f5_3,y5_0,y5_1,y5_2,y5_3]) rfl ?_
 exact ⟨rfl,(Below.setCell (p:=⟨w.heap.size,7,none⟩) (Below.setCell (p:=⟨w.heap.size,6,none⟩) (Below.setCell (p:=⟨w.heap.size,5,none⟩) (Below.setCell (p:=⟨w.heap.size,4,none⟩) (Below.setCell (p:=⟨w.heap.size,3,none⟩) (Below.setCell (p:=⟨w.heap.size,2,none⟩) (Below.setCell (p:=⟨w.heap.size,1,none⟩) (Below.setCell (p:=⟨w.heap.size,0,none⟩) B (show w.heap.size <= w.heap.size by omega) _) (show w.heap.size <= w.heap.size by omega) _) (show w.heap.size <= w.heap.size by omega) _) (show w.heap.size <= w.heap.size by omega) _) (show w.heap.size <= w.heap.size by omega) _) (show w.heap.size <= w.heap.size by omega) _) (show w.heap.size <= w.heap.size by omega) _) (show w.heap.size <= w.heap.size by omega) _)⟩
theorem reach_3 (w:World):Calls Tryz.prog 86 #[.agg #[.float .f64 4607182418800017408,.float .f64 4611686018427387904],.agg #[.float .f64 0,.float .f64 4607182418800017408],.func (.func 87) #[] #[]] w fun e w'=>e = .returned (.agg #[.bool false,.int .i64 (-4194304),.int .u64 0,.int .u64 0,.bool false,.int .i64 (-126),.int .u64 9223372036854775808,.int .u64 0]) /\ Below w.heap.size w w':=by
 have hfb:=floatbits_run
 go_enter Tryz.func86,Tryz.ntmps86
 go_upto_region 1 with fail
 obtain ⟨W1,hW1⟩:∃ W:World,W = ((w.alloc (.cells #[.float .f64 4607182418800017408,.float .f64 4611686018427387904] 28)).alloc (.cells #[.float .f64 0,.float .f64 4607182418800017408] 28)).alloc (.cells #[.bool false,.int .i64 0,.int .u64 0,.int .u64 0,.bool false,.int .i64 0,.int .u64 0,.int .u64 0] 127):=⟨_,rfl⟩
 rw [<- hW1]
 have X0:W1.heap[w.heap.size]? = some (.cells #[.float .f64 4607182418800017408,.float .f64 4611686018427387904] 28 (0,0)):=by rw [hW1]; exact ((heap_alloc_old _ _ (by first | omega | (simp <;> omega))).trans ((heap_alloc_old _ _ (by first | omega | (simp <;> omega))).trans (alloc_at sP)))
 have X1:W1.heap[w.heap.size + 1]? = some (.cells #[.float .f64 0,.float .f64 4607182418800017408] 28 (0,0)):=by rw [hW1]; exact ((heap_alloc_old _ _ (by first | omega | (simp <;> omega))).trans (alloc_at sP))
 have X2:W1.heap[w.heap.size + 2]? = some (.cells #[.bool false,.int .i64 0,.int .u64 0,.int .u64 0,.bool false,.int .i64 0,.int .u64 0,.int .u64 0] 127 (0,0)):=by rw [hW1]; exact (alloc_at sP)
 have z0:w.heap.size < W1.heap.size:=by rw [hW1]; simp <;> omega
 have z1:w.heap.size + 1 < W1.heap.size:=by rw [hW1]; simp <;> omega
 have z2:w.heap.size + 2 < W1.heap.size:=by rw [hW1]; simp <;> omega
 have B:Below w.heap.size w W1:=by rw [hW1]; exact (bT (bT (bT (Below.refl w.heap.size w) (below_alloc _ _)) (below_alloc _ _)) (below_alloc _ _))
 clear hW1
 obtain ⟨f0_0,f0_1,y0_0,y0_1⟩:=bx2 X0
 obtain ⟨f1_0,f1_1,y1_0,y1_1⟩:=bx2 X1
 obtain ⟨f2_0,f2_1,f2_2,f2_3,f2_4,f2_5,f2_6,f2_7,y2_0,y2_1,y2_2,y2_3,y2_4,y2_5,y2_6,y2_7⟩:=bx8 X2
 refine region_last [.val (kIs (.func (.func 87) #[] #[])),.val (kIs (.pointer (some ⟨w.heap.size,0,none⟩))),.val (kIs (.float .f64 4607182418800017408)),.val (kIs (.pointer (some ⟨w.heap.size + 1,0,none⟩))),.val (kIs (.float .f64 0)),.val (kIs (.agg #[.bool false,.int .i64 (-4194304),.int .u64 0,.int .u64 0])),.val (kIs (.func (.func 87) #[] #[])),.val (kIs (.pointer (some ⟨w.heap.size,0,none⟩))),.val (kIs (.float .f64 4607182418800017408)),.val (kIs (.pointer (some ⟨w.heap.size + 1,1,none⟩))),.val (kIs (.float .f64 4607182418800017408)),.val (kIs (.agg #[.bool false,.int .i64 (-127),.int .u64 9223372036854775808,.int .u64 0])),.val (kIs (.func (.func 87) #[] #[])),.val (kIs (.pointer (some ⟨w.heap.size,1,none⟩))),.val (kIs (.float .f64 4611686018427387904)),.val (kIs (.pointer (some ⟨w.heap.size + 1,0,none⟩))),.val (kIs (.float .f64 0)),.val (kIs (.agg #[.bool false,.int .i64 (-4194304),.int .u64 0,.int .u64 0])),.val (kIs (.func (.func 87) #[] #[])),.val (kIs (.pointer (some ⟨w.heap.size,1,none⟩))),.val (kIs (.float .f64 4611686018427387904)),.val (kIs (.pointer (some ⟨w.heap.size + 1,1,none⟩))),.val (kIs (.float .f64 4607182418800017408)),.val (kIs (.agg #[.bool false,.int .i64 (-126),.int .u64 9223372036854775808,.int .u64 0])),.val (kSl 125 #[.bool false,.int .i64 (-4194304),.int .u64 0,.int .u64 0,.bool false,.int .i64 (-127),.int .u64 9223372036854775808,.int .u64 0,.bool false,.int .i64 (-4194304),.int .u64 0,.int .u64 0,.bool false,.int .i64 (-126),.int .u64 9223372036854775808,.int .u64 0] 4),.val (kIs (.agg #[.bool false,.int .i64 (-4194304),.int .u64 0,.int .u64 0,.bool false,.int .i64 (-126),.int .u64 9223372036854775808,.int .u64 0]))]
  kR kR kR kR kR ⟨Stab.b (stab_is _),Stab.b (stab_is _),Stab.b (stab_is _),Stab.b (stab_is _),Stab.b (stab_is _),Stab.b (stab_is _),Stab.b (stab_is _),Stab.b (stab_is _),Stab.b (stab_is _),Stab.b (stab_is _),Stab.b (stab_is _),Stab.b (stab_is _),Stab.b (stab_is _),Stab.b (stab_is _),Stab.b (stab_is _),Stab.b (stab_is _),Stab.b (stab_is _),Stab.b (stab_is _),Stab.b (stab_is _),Stab.b (stab_is _),Stab.b (stab_is _),Stab.b (stab_is _),Stab.b (stab_is _),Stab.b (stab_is _),stabB_sl _ _ _,Stab.b (stab_is _),trivial⟩ sP (ol:=_) rfl kR ⟨?_,?_,?_,?_,?_,?_,?_,?_,?_,?_,?_,?_,?_,?_,?_,?_,?_,?_,?_,?_,?_,?_,?_,?_,?_,?_,trivial⟩ ?_
 ·exact obq
 ·exact obq
 ·intro ts W hb hB hp; have h1:ts 1 = _:=hp 1 kR; intro K hK; simp only [fillT,zA,Nat.reduceAdd,sA,sB,sC,h1] at hK ⊢; have HK:=hid hK; clear hK hp; obtain ⟨p0,p1,-,-⟩:=bx2 ((hb.block _ z0).trans X0); refine ⟨?_⟩; go_simp; exact HK.out _ _ kk rfB
 ·exact obq
 ·intro ts W hb hB hp; have h3:ts 3 = _:=hp 3 kR; intro K hK; simp only [fillT,zA,Nat.reduceAdd,sA,sB,sC,h3] at hK ⊢; have HK:=hid hK; clear hK hp; obtain ⟨p0,p1,-,-⟩:=bx2 ((hb.block _ z1).trans X1); refine ⟨?_⟩; go_simp; exact HK.out _ _ kk rfB
 ·intro ts W hb hB hp; have h0:ts 0 = _:=hp 0 kR; have h2:ts 2 = _:=hp 2 kR; have h4:ts 4 = _:=hp 4 kR; intro K hK; simp only [fillT,zA,Nat.reduceAdd,sA,sB,sC,h0,h2,h4] at hK ⊢; have HK:=hid hK; clear hK hp; refine ⟨?_⟩; go_simp; refine (times_10 _).mono ?_; rintro e W9 ⟨rfl,hb9⟩; exact HK.out _ _ rfl hb9
 ·exact obq
 ·exact obq
 ·intro ts W hb hB hp; have h7:ts 7 = _:=hp 7 kR; intro K hK; simp only [fillT,zA,Nat.reduceAdd,sA,sB,sC,h7] at hK ⊢; have HK:=hid hK; clear hK hp; obtain ⟨p0,p1,-,-⟩:=bx2 ((hb.block _ z0).trans X0); refine ⟨?_⟩; go_simp; exact HK.out _ _ kk rfB
 ·exact obq
 ·intro ts W hb hB hp; have h9:ts 9 = _:=hp 9 kR; intro K hK; simp only [fillT,zA,Nat.reduceAdd,sA,sB,sC,h9] at hK ⊢; have HK:=hid hK; clear hK hp; obtain ⟨p0,p1,-,-⟩:=bx2 ((hb.block _ z1).trans X1); refine ⟨?_⟩; go_simp; exact HK.out _ _ kk rfB
 ·intro ts W hb hB hp; have h6:ts 6 = _:=hp 6 kR; have h8:ts 8 = _:=hp 8 kR; have h10:ts 10 = _:=hp 10 kR; intro K hK; simp only [fillT,zA,Nat.reduceAdd,sA,sB,sC,h6,h8,h10] at hK ⊢; have HK:=hid hK; clear hK hp; refine ⟨?_⟩; go_simp; refine (times_11 _).mono ?_; rintro e W9 ⟨rfl,hb9⟩; exact HK.out _ _ rfl hb9
 ·exact obq
 ·exact obq
 ·intro ts W hb hB hp; have h13:ts 13 = _:=hp 13 kR; intro K hK; simp only [fillT,zA,Nat.reduceAdd,sA,sB,sC,h13] at hK ⊢; have HK:=hid hK; clear hK hp; obtain ⟨p0,p1,-,-⟩:=bx2 ((hb.block _ z0).trans X0); refine ⟨?_⟩; go_simp; exact HK.out _ _ kk rfB
 ·exact obq
 ·intro ts W hb hB hp; have h15:ts 15 = _:=hp 15 kR; intro K hK; simp only [fillT,zA,Nat.reduceAdd,sA,sB,sC,h15] at hK ⊢; have HK:=hid hK; clear hK hp; obtain ⟨p0,p1,-,-⟩:=bx2 ((hb.block _ z1).trans X1); refine ⟨?_⟩; go_simp; exact HK.out _ _ kk rfB
 ·intro ts W hb hB hp; have h12:ts 12 = _:=hp 12 kR; have h14:ts 14 = _:=hp 14 kR; have h16:ts 16 = _:=hp 16 kR; intro K hK; simp only [fillT,zA,Nat.reduceAdd,sA,sB,sC,h12,h14,h16] at hK ⊢; have HK:=hid hK; clear hK hp; refine ⟨?_⟩; go_simp; refine (times_20 _).mono ?_; rintro e W9 ⟨rfl,hb9⟩; exact HK.out _ _ rfl hb9
 ·exact obq
 ·exact obq
 ·intro ts W hb hB hp; have h19:ts 19 = _:=hp 19 kR; intro K hK; simp only [fillT,zA,Nat.reduceAdd,sA,sB,sC,h19] at hK ⊢; have HK:=hid hK; clear hK hp; obtain ⟨p0,p1,-,-⟩:=bx2 ((hb.block _ z0).trans X0); refine ⟨?_⟩; go_simp; exact HK.out _ _ kk rfB
 ·exact obq
 ·intro ts W hb hB hp; have h21:ts 21 = _:=hp 21 kR; intro K hK; simp only [fillT,zA,Nat.reduceAdd,sA,sB,sC,h21] at hK ⊢; have HK:=hid hK; clear hK hp; obtain ⟨p0,p1,-,-⟩:=bx2 ((hb.block _ z1).trans X1); refine ⟨?_⟩; go_simp; exact HK.out _ _ kk rfB
 ·intro ts W hb hB hp; have h18:ts 18 = _:=hp 18 kR; have h20:ts 20 = _:=hp 20 kR; have h22:ts 22 = _:=hp 22 kR; intro K hK; simp only [fillT,zA,Nat.reduceAdd,sA,sB,sC,h18,h20,h22] at hK ⊢; have HK:=hid hK; clear hK hp; refine ⟨?_⟩; go_simp; refine (times_21 _).mono ?_; rintro e W9 ⟨rfl,hb9⟩; exact HK.out _ _ rfl hb9
 ·intro ts W hb hB hp; have h5:ts 5 = _:=hp 5 kR; have h11:ts 11 = _:=hp 11 kR; have h17:ts 17 = _:=hp 17 kR; have h23:ts 23 = _:=hp 23 kR; intro K hK; simp only [fillT,zA,Nat.reduceAdd,sA,sB,sC,h5,h11,h17,h23] at hK ⊢; have HK:=hid hK; clear hK hp; refine ⟨?_⟩; exact wp_buildSlice rfl (by simp [Act.eval]) (bs_3 W) (HK.out _ _ ⟨_,rfl,heap_alloc_new _ _,sP⟩ (below_alloc _ _))
 ·intro ts W hb hB hp; have h24:=hp 24 kR; intro K hK; obtain ⟨g9,e9,X9,z9⟩:=h24; simp only [fillT,zA,Nat.reduceAdd,sA,sB,sC,e9] at hK ⊢; have HK:=hid hK; clear hK hp; refine ⟨?_⟩; go_simp; refine (spread_3 _ g9 X9 z9).mono ?_; rintro e W9 ⟨rfl,hb9⟩; exact HK.out _ _ rfl hb9
 intro ts W2 hb2 hh hap K hK
 have e0:=held_is (hh 0 sP) rfl
 have e1:=held_is (hh 1 sP) rfl
 have e2:=held_is (hh 2 sP) rfl
 have e3:=held_is (hh 3 sP) rfl
 have e4:=held_is (hh 4 sP) rfl
 have e5:=held_is (hh 5 sP) rfl
 have e6:=held_is (hh 6 sP) rfl
 have e7:=held_is (hh 7 sP) rfl
 have e8:=held_is (hh 8 sP) rfl
 have e9:=held_is (hh 9 sP) rfl
 have e10:=held_is (hh 10 sP) rfl
 have e11:=held_is (hh 11 sP) rfl
 have e12:=held_is (hh 12 sP) rfl
 have e13:=held_is (hh 13 sP) rfl
 have e14:=held_is (hh 14 sP) rfl
 have e15:=held_is (hh 15 sP) rfl
 have e16:=held_is (hh 16 sP) rfl
 have e17:=held_is (hh 17 sP) rfl
 have e18:=held_is (hh 18 sP) rfl
 have e19:=held_is (hh 19 sP) rfl
 have e20:=held_is (hh 20 sP) rfl
 have e21:=held_is (hh 21 sP) rfl
 have e22:=held_is (hh 22 sP) rfl
 have e23:=held_is (hh 23 sP) rfl
 have e25:=held_is (hh 25 sP) rfl
 have HK:=hid hK
 clear hK
 simp only [fillT,zA,Nat.reduceAdd,sA,sB,sC,e0,e1,e2,e3,e4,e5,e6,e7,e8,e9,e10,e11,e12,e13,e14,e15,e16,e17,e18,e19,e20,e21,e22,e23,e25]
 clear hh hap e0 e1 e2 e3 e4 e5 e6 e7 e8 e9 e10 e11 e12 e13 e14 e15 e16 e17 e18 e19 e20 e21 e22 e23 e25
 generalize ts 24 = u24_W2 at *
 replace X0:=(hb2.block _ z0).trans X0
 replace z0:=lL z0 hb2.size
 replace X1:=(hb2.block _ z1).trans X1
 replace z1:=lL z1 hb2.size
 replace X2:=(hb2.block _ z2).trans X2
 replace z2:=lL z2 hb2.size
 replace B:=bT B hb2
 clear hb2
 clear f0_0 f0_1 y0_0 y0_1 f1_0 f1_1 y1_0 y1_1 f2_0 f2_1 f2_2 f2_3 f2_4 f2_5 f2_6 f2_7 y2_0 y2_1 y2_2 y2_3 y2_4 y2_5 y2_6 y2_7
 obtain ⟨f0_0,f0_1,y0_0,y0_1⟩:=bx2 X0
 obtain ⟨f1_0,f1_1,y1_0,y1_1⟩:=bx2 X1
 obtain ⟨f2_0,f2_1,f2_2,f2_3,f2_4,f2_5,f2_6,f2_7,y2_0,y2_1,y2_2,y2_3,y2_4,y2_5,y2_6,y2_7⟩:=bx8 X2
 refine ⟨?_⟩
 refine wp_store_row _ _ _ rfl (w.heap.size + 2) _ rfl rfl _ _ X2 kR rfl (by simp [Value.oneCell']) (HK.out _ _ ?_)
 have hput:=putAt_setRow (cs:=#[.bool false,.int .i64 (-4194304),.int .u64 0,.int .u64 0,.bool false,.int .i64 (-126),.int .u64 9223372036854775808,.int .u64 0]) X2
 replace B:=hput.below B oM
 clear HK f0_0 f0_1 y0_0 y0_1 f1_0 f1_1 y1_0 y1_1 f2_0 f2_1 f2_2 f2_3 f2_4 f2_5 f2_6 f2_7 y2_0 y2_1 y2_2 y2_3 y2_4 y2_5 y2_6 y2_7 X0 X1 X2
 generalize W2.setRow (w.heap.size + 2) #[.bool false,.int .i64 (-4194304),.int .u64 0,.int .u64 0,.bool false,.int .i64 (-126),.int .u64 9223372036854775808,.int .u64 0] = W3 at *
 have X2:=hput.here
 clear hput
 obtain ⟨f2_0,f2_1,f2_2,f2_3,f2_4,f2_5,f2_6,f2_7,y2_0,y2_1,y2_2,y2_3,y2_4,y2_5,y2_6,y2_7⟩:=bx8 X2
 go_wp2
 refine bodyPost_ret (v:=.agg #[.bool false,.int .i64 (-4194304),.int .u64 0,.int .u64 0,.bool false,.int .i64 (-126),.int .u64 9223372036854775808,.int .u64 0]) (by simp [results,Tryz.results86,go_sem,f2_0,f2_1,f2_2,f2_3,f2_4,f2_5,f2_6,f2_7,y2_0,y2_1,y2_2,y2_3,y2_4,y2_5,y2_6,y2_7]) rfl ?_
 exact ⟨rfl,B⟩
theorem bs_4 (W:World):(Instr.buildSlice 202 4 #[(0,.agg #[.bool false,.int .i64 (-4194304),.int .u64 0,.int .u64 0]),(1,.agg #[.bool false,.int .i64 (-4194304),.int .u64 0,.int .u64 0]),(2,.agg #[.bool false,.int .i64 (-127),.int .u64 9223372036854775808,.int .u64 0]),(3,.agg #[.bool false,.int .i64 (-126),.int .u64 9223372036854775808,.int .u64 0])]).run Tryz.prog W = .ok (.slice (some ⟨W.heap.size,0,none⟩) 4 4) (W.alloc (.cells #[.bool false,.int .i64 (-4194304),.int .u64 0,.int .u64 0,.bool false,.int .i64 (-4194304),.int .u64 0,.int .u64 0,.bool false,.int .i64 (-127),.int .u64 9223372036854775808,.int .u64 0,.bool false,.int .i64 (-126),.int .u64 9223372036854775808,.int .u64 0] 125)):=sG
theorem spread_4 (w:World) (g:Nat) (X0:w.heap[g]? = some (.cells #[.bool false,.int .i64 (-4194304),.int .u64 0,.int .u64 0,.bool false,.int .i64 (-4194304),.int .u64 0,.int .u64 0,.bool false,.int .i64 (-127),.int .u64 9223372036854775808,.int .u64 0,.bool false,.int .i64 (-126),.int .u64 9223372036854775808,.int .u64 0] 125 (0,0))) (z0:g < w.heap.size):Calls Tryz.prog 131 #[.slice (some ⟨g,0,none⟩) 4 4] w fun e w'=>e = .returned (.agg #[.bool false,.int .i64 (-4194304),.int .u64 0,.int .u64 0,.bool false,.int .i64 (-126),.int .u64 9223372036854775808,.int .u64 0]) /\ Below w.heap.size w w':=by
 have hfb:=floatbits_run
 go_enter Tryz.func131,Tryz.ntmps131
 have B:=Below.refl w.heap.size w
 obtain ⟨f0_0,f0_1,f0_2,f0_3,f0_4,f0_5,f0_6,f0_7,f0_8,f0_9,f0_10,f0_11,f0_12,f0_13,f0_14,f0_15,y0_0,y0_1,y0_2,y0_3,y0_4,y0_5,y0_6,y0_7,y0_8,y0_9,y0_10,y0_11,y0_12,y0_13,y0_14,y0_15⟩:=bx16 X0
 go_upto_region 1 with fail
 obtain ⟨W1,hW1⟩:∃ W:World,W = w.alloc (.cells #[.bool false,.int .i64 0,.int .u64 0,.int .u64 0,.bool false,.int .i64 0,.int .u64 0,.int .u64 0] 127):=⟨_,rfl⟩
 rw [<- hW1]
 replace X0:W1.heap[g]? = some (.cells #[.bool false,.int .i64 (-4194304),.int .u64 0,.int .u64 0,.bool false,.int .i64 (-4194304),.int .u64 0,.int .u64 0,.bool false,.int .i64 (-127),.int .u64 9223372036854775808,.int .u64 0,.bool false,.int .i64 (-126),.int .u64 9223372036854775808,.int .u64 0] 125 (0,0)):=by rw [hW1]; exact ((heap_alloc_old _ _ (by first | omega | (simp <;> omega))).trans X0)
 have X1:W1.heap[w.heap.size]? = some (.cells #[.bool false,.int .i64 0,.int .u64 0,.int .u64 0,.bool false,.int .i64 0,.int .u64 0,.int .u64 0] 127 (0,0)):=by rw [hW1]; exact (alloc_at sP)
 have q0_1:g < w.heap.size:=oM
 replace z0:g < W1.heap.size:=by rw [hW1]; simp <;> omega
 have z1:w.heap.size < W1.heap.size:=by rw [hW1]; simp <;> omega
 replace B:Below w.heap.size w W1:=by rw [hW1]; exact (bT B (below_alloc _ _))
 clear hW1
 clear f0_0 f0_1 f0_2 f0_3 f0_4 f0_5 f0_6 f0_7 f0_8 f0_9 f0_10 f0_11 f0_12 f0_13 f0_14 f0_15 y0_0 y0_1 y0_2 y0_3 y0_4 y0_5 y0_6 y0_7 y0_8 y0_9 y0_10 y0_11 y0_12 y0_13 y0_14 y0_15
 obtain ⟨f0_0,f0_1,f0_2,f0_3,f0_4,f0_5,f0_6,f0_7,f0_8,f0_9,f0_10,f0_11,f0_12,f0_13,f0_14,f0_15,y0_0,y0_1,y0_2,y0_3,y0_4,y0_5,y0_6,y0_7,y0_8,y0_9,y0_10,y0_11,y0_12,y0_13,y0_14,y0_15⟩:=bx16 X0
 obtain ⟨f1_0,f1_1,f1_2,f1_3,f1_4,f1_5,f1_6,f1_7,y1_0,y1_1,y1_2,y1_3,y1_4,y1_5,y1_6,y1_7⟩:=bx8 X1
 refine region_lin [.val (kIs (.slice (some ⟨g,0,none⟩) 4 4)),.val (kIs (.pointer (some ⟨g,0,none⟩))),.val (kIs (.agg #[.bool false,.int .i64 (-4194304),.int .u64 0,.int .u64 0])),.val (kIs (.slice (some ⟨g,0,none⟩) 4 4)),.val (kIs (.pointer (some ⟨g,0,none⟩))),.val (kIs (.agg #[.bool false,.int .i64 (-4194304),.int .u64 0,.int .u64 0])),.val (kIs (.agg #[.bool false,.int .i64 (-4194304),.int .u64 0,.int .u64 0,.bool false,.int .i64 (-4194304),.int .u64 0,.int .u64 0])),.box 127 #[.bool false,.int .i64 0,.int .u64 0,.int .u64 0,.bool false,.int .i64 0,.int .u64 0,.int .u64 0],.put 7 6]
  kR kR kR kR kR ⟨stab_is _,stab_is _,stab_is _,stab_is _,stab_is _,stab_is _,stab_is _,trivial⟩ sP ⟨?_,?_,?_,?_,?_,?_,?_,(fun W=>sG),⟨kR,fun v W h=>⟨_,h,rfl,by simp [Value.oneCell']⟩⟩,trivial⟩ ?_
 ·exact obq
 ·intro ts W hb hB hp; have h0:ts 0 = _:=hp 0 kR; intro K hK; simp only [fillT,zA,Nat.reduceAdd,sA,sB,sC,h0] at hK ⊢; have HK:=hid hK; clear hK hp; refine ⟨?_⟩; go_simp; exact HK.out _ _ kk rfB
 ·intro ts W hb hB hp; have h1:ts 1 = _:=hp 1 kR; intro K hK; simp only [fillT,zA,Nat.reduceAdd,sA,sB,sC,h1] at hK ⊢; have HK:=hid hK; clear hK hp; obtain ⟨p0,p1,p2,p3,p4,p5,p6,p7,p8,p9,p10,p11,p12,p13,p14,p15,-,-,-,-,-,-,-,-,-,-,-,-,-,-,-,-⟩:=bx16 ((hb.block _ z0).trans X0); refine ⟨?_⟩; go_simp; exact HK.out _ _ kk rfB
 ·exact obq
 ·intro ts W hb hB hp; have h3:ts 3 = _:=hp 3 kR; intro K hK; simp only [fillT,zA,Nat.reduceAdd,sA,sB,sC,h3] at hK ⊢; have HK:=hid hK; clear hK hp; refine ⟨?_⟩; go_simp; exact HK.out _ _ kk rfB
 ·intro ts W hb hB hp; have h4:ts 4 = _:=hp 4 kR; intro K hK; simp only [fillT,zA,Nat.reduceAdd,sA,sB,sC,h4] at hK ⊢; have HK:=hid hK; clear hK hp; obtain ⟨p0,p1,p2,p3,p4,p5,p6,p7,p8,p9,p10,p11,p12,p13,p14,p15,-,-,-,-,-,-,-,-,-,-,-,-,-,-,-,-⟩:=bx16 ((hb.block _ z0).trans X0); refine ⟨?_⟩; go_simp; exact HK.out _ _ kk rfB
 ·intro ts W hb hB hp; have h2:ts 2 = _:=hp 2 kR; have h5:ts 5 = _:=hp 5 kR; intro K hK; simp only [fillT,zA,Nat.reduceAdd,sA,sB,sC,h2,h5] at hK ⊢; have HK:=hid hK; clear hK hp; refine ⟨?_⟩; go_simp; exact HK.out _ _ kk rfB
 intro ts W2 hb2 hh hap
 have e0:=held_is (hh 0 sP) rfl
 have e1:=held_is (hh 1 sP) rfl
 have e2:=held_is (hh 2 sP) rfl
 have e3:=held_is (hh 3 sP) rfl
 have e4:=held_is (hh 4 sP) rfl
 have e5:=held_is (hh 5 sP) rfl
 have e6:=held_is (hh 6 sP) rfl
 obtain ⟨g2,e7,lo9,z2,X2⟩:=held_boxG (hh 7 sP) rfl (hh 8 sP) rfl (hh 6 sP) rfl
 simp only [fillT,zA,Nat.reduceAdd,sA,sB,sC,e0,e1,e2,e3,e4,e5,e6,e7]
 clear hh hap e0 e1 e2 e3 e4 e5 e6 e7
 have q0_2:g < g2:=oM
 have q1_2:w.heap.size < g2:=oM
 clear lo9
 replace X0:=(hb2.block _ z0).trans X0
 replace z0:=lL z0 hb2.size
 replace X1:=(hb2.block _ z1).trans X1
 replace z1:=lL z1 hb2.size
 replace B:=bT B hb2
 clear hb2
 clear f0_0 f0_1 f0_2 f0_3 f0_4 f0_5 f0_6 f0_7 f0_8 f0_9 f0_10 f0_11 f0_12 f0_13 f0_14 f0_15 y0_0 y0_1 y0_2 y0_3 y0_4 y0_5 y0_6 y0_7 y0_8 y0_9 y0_10 y0_11 y0_12 y0_13 y0_14 y0_15 f1_0 f1_1 f1_2 f1_3 f1_4 f1_5 f1_6 f1_7 y1_0 y1_1 y1_2 y1_3 y1_4 y1_5 y1_6 y1_7
 obtain ⟨f0_0,f0_1,f0_2,f0_3,f0_4,f0_5,f0_6,f0_7,f0_8,f0_9,f0_10,f0_11,f0_12,f0_13,f0_14,f0_15,y0_0,y0_1,y0_2,y0_3,y0_4,y0_5,y0_6,y0_7,y0_8,y0_9,y0_10,y0_11,y0_12,y0_13,y0_14,y0_15⟩:=bx16 X0
 obtain ⟨f1_0,f1_1,f1_2,f1_3,f1_4,f1_5,f1_6,f1_7,y1_0,y1_1,y1_2,y1_3,y1_4,y1_5,y1_6,y1_7⟩:=bx8 X1
 clear f0_0 f0_1 f0_2 f0_3 f0_4 f0_5 f0_6 f0_7 f0_8 f0_9 f0_10 f0_11 f0_12 f0_13 f0_14 f0_15 y0_0 y0_1 y0_2 y0_3 y0_4 y0_5 y0_6 y0_7 y0_8 y0_9 y0_10 y0_11 y0_12 y0_13 y0_14 y0_15 f1_0 f1_1 f1_2 f1_3 f1_4 f1_5 f1_6 f1_7 y1_0 y1_1 y1_2 y1_3 y1_4 y1_5 y1_6 y1_7
 obtain ⟨f0_0,f0_1,f0_2,f0_3,f0_4,f0_5,f0_6,f0_7,f0_8,f0_9,f0_10,f0_11,f0_12,f0_13,f0_14,f0_15,y0_0,y0_1,y0_2,y0_3,y0_4,y0_5,y0_6,y0_7,y0_8,y0_9,y0_10,y0_11,y0_12,y0_13,y0_14,y0_15⟩:=bx16 X0
 obtain ⟨f1_0,f1_1,f1_2,f1_3,f1_4,f1_5,f1_6,f1_7,y1_0,y1_1,y1_2,y1_3,y1_4,y1_5,y1_6,y1_7⟩:=bx8 X1
 obtain ⟨f2_0,f2_1,f2_2,f2_3,f2_4,f2_5,f2_6,f2_7,y2_0,y2_1,y2_2,y2_3,y2_4,y2_5,y2_6,y2_7⟩:=bx8 X2
 go_wp2_with fail
 refine wp_loop_rounds 4 ?_
 rw [rounds_succ]
 go_wp2_with fail
 obtain ⟨W3,hW3⟩:∃ W:World,W = W2.alloc (.cells #[.bool false,.int .i64 (-4194304),.int .u64 0,.int .u64 0] 125):=⟨_,rfl⟩
 rw [<- hW3]
 replace X0:W3.heap[g]? = some (.cells #[.bool false,.int .i64 (-4194304),.int .u64 0,.int .u64 0,.bool false,.int .i64 (-4194304),.int .u64 0,.int .u64 0,.bool false,.int .i64 (-127),.int .u64 9223372036854775808,.int .u64 0,.bool false,.int .i64 (-126),.int .u64 9223372036854775808,.int .u64 0] 125 (0,0)):=by rw [hW3]; exact ((heap_alloc_old _ _ (by first | omega | (simp <;> omega))).trans X0)
 replace X1:W3.heap[w.heap.size]? = some (.cells #[.bool false,.int .i64 0,.int .u64 0,.int .u64 0,.bool false,.int .i64 0,.int .u64 0,.int .u64 0] 127 (0,0)):=by rw [hW3]; exact ((heap_alloc_old _ _ (by first | omega | (simp <;> omega))).trans X1)
 replace X2:W3.heap[g2]? = some (.cells #[.bool false,.int .i64 (-4194304),.int .u64 0,.int .u64 0,.bool false,.int .i64 (-4194304),.int .u64 0,.int .u64 0] 127 (0,0)):=by rw [hW3]; exact ((heap_alloc_old _ _ (by first | omega | (simp <;> omega))).trans X2)
 have X3:W3.heap[W2.heap.size]? = some (.cells #[.bool false,.int .i64 (-4194304),.int .u64 0,.int .u64 0] 125 (0,0)):=by rw [hW3]; exact (alloc_at sP)
 have q0_3:g < W2.heap.size:=oM
 have q1_3:w.heap.size < W2.heap.size:=oM
 have q2_3:g2 < W2.heap.size:=oM
 replace z0:g < W3.heap.size:=by rw [hW3]; simp <;> omega
 replace z1:w.heap.size < W3.heap.size:=by rw [hW3]; simp <;> omega
 replace z2:g2 < W3.heap.size:=by rw [hW3]; simp <;> omega
 have z3:W2.heap.size < W3.heap.size:=by rw [hW3]; simp <;> omega
 replace B:Below w.heap.size w W3:=by rw [hW3]; exact (bT B (below_alloc _ _))
 clear hW3
 refine (less_6 _).mono ?_
 rintro e W4 ⟨rfl,hb4⟩
 replace X0:=(hb4.block _ z0).trans X0
 replace z0:=lL z0 hb4.size
 replace X1:=(hb4.block _ z1).trans X1
 replace z1:=lL z1 hb4.size
 replace X2:=(hb4.block _ z2).trans X2
 replace z2:=lL z2 hb4.size
 replace X3:=(hb4.block _ z3).trans X3
 replace z3:=lL z3 hb4.size
 replace B:=bT B hb4
 clear hb4
 clear f0_0 f0_1 f0_2 f0_3 f0_4 f0_5 f0_6 f0_7 f0_8 f0_9 f0_10 f0_11 f0_12 f0_13 f0_14 f0_15 y0_0 y0_1 y0_2 y0_3 y0_4 y0_5 y0_6 y0_7 y0_8 y0_9 y0_10 y0_11 y0_12 y0_13 y0_14 y0_15 f1_0 f1_1 f1_2 f1_3 f1_4 f1_5 f1_6 f1_7 y1_0 y1_1 y1_2 y1_3 y1_4 y1_5 y1_6 y1_7 f2_0 f2_1 f2_2 f2_3 f2_4 f2_5 f2_6 f2_7 y2_0 y2_1 y2_2 y2_3 y2_4 y2_5 y2_6 y2_7
 obtain ⟨f0_0,f0_1,f0_2,f0_3,f0_4,f0_5,f0_6,f0_7,f0_8,f0_9,f0_10,f0_11,f0_12,f0_13,f0_14,f0_15,y0_0,y0_1,y0_2,y0_3,y0_4,y0_5,y0_6,y0_7,y0_8,y0_9,y0_10,y0_11,y0_12,y0_13,y0_14,y0_15⟩:=bx16 X0
 obtain ⟨f1_0,f1_1,f1_2,f1_3,f1_4,f1_5,f1_6,f1_7,y1_0,y1_1,y1_2,y1_3,y1_4,y1_5,y1_6,y1_7⟩:=bx8 X1
 obtain ⟨f2_0,f2_1,f2_2,f2_3,f2_4,f2_5,f2_6,f2_7,y2_0,y2_1,y2_2,y2_3,y2_4,y2_5,y2_6,y2_7⟩:=bx8 X2
 obtain ⟨f3_0,f3_1,f3_2,f3_3,y3_0,y3_1,y3_2,y3_3⟩:=bx4 X3
 go_wp2_with fail
 refine (less_6 _).mono ?_
 rintro e W5 ⟨rfl,hb5⟩
 replace X0:=(hb5.block _ z0).trans X0
 replace z0:=lL z0 hb5.size
 replace X1:=(hb5.block _ z1).trans X1
 replace z1:=lL z1 hb5.size
 replace X2:=(hb5.block _ z2).trans X2
 replace z2:=lL z2 hb5.size
 replace X3:=(hb5.block _ z3).trans X3
 replace z3:=lL z3 hb5.size
 replace B:=bT B hb5
 clear hb5
 clear f0_0 f0_1 f0_2 f0_3 f0_4 f0_5 f0_6 f0_7 f0_8 f0_9 f0_10 f0_11 f0_12 f0_13 f0_14 f0_15 y0_0 y0_1 y0_2 y0_3 y0_4 y0_5 y0_6 y0_7 y0_8 y0_9 y0_10 y0_11 y0_12 y0_13 y0_14 y0_15 f1_0 f1_1 f1_2 f1_3 f1_4 f1_5 f1_6 f1_7 y1_0 y1_1 y1_2 y1_3 y1_4 y1_5 y1_6 y1_7 f2_0 f2_1 f2_2 f2_3 f2_4 f2_5 f2_6 f2_7 y2_0 y2_1 y2_2 y2_3 y2_4 y2_5 y2_6 y2_7 f3_0 f3_1 f3_2 f3_3 y3_0 y3_1 y3_2 y3_3
 obtain ⟨f0_0,f0_1,f0_2,f0_3,f0_4,f0_5,f0_6,f0_7,f0_8,f0_9,f0_10,f0_11,f0_12,f0_13,f0_14,f0_15,y0_0,y0_1,y0_2,y0_3,y0_4,y0_5,y0_6,y0_7,y0_8,y0_9,y0_10,y0_11,y0_12,y0_13,y0_14,y0_15⟩:=bx16 X0
 obtain ⟨f1_0,f1_1,f1_2,f1_3,f1_4,f1_5,f1_6,f1_7,y1_0,y1_1,y1_2,y1_3,y1_4,y1_5,y1_6,y1_7⟩:=bx8 X1
 obtain ⟨f2_0,f2_1,f2_2,f2_3,f2_4,f2_5,f2_6,f2_7,y2_0,y2_1,y2_2,y2_3,y2_4,y2_5,y2_6,y2_7⟩:=bx8 X2
 obtain ⟨f3_0,f3_1,f3_2,f3_3,y3_0,y3_1,y3_2,y3_3⟩:=bx4 X3
 go_wp2_with fail
 rw [rounds_succ]
 go_wp2_with fail
 obtain ⟨W6,hW6⟩:∃ W:World,W = W5.alloc (.cells #[.bool false,.int .i64 (-127),.int .u64 9223372036854775808,.int .u64 0] 125):=⟨_,rfl⟩
 rw [<- hW6]
 replace X0:W6.heap[g]? = some (.cells #[.bool false,.int .i64 (-4194304),.int .u64 0,.int .u64 0,.bool false,.int .i64 (-4194304),.int .u64 0,.int .u64 0,.bool false,.int .i64 (-127),.int .u64 9223372036854775808,.int .u64 0,.bool false,.int .i64 (-126),.int .u64 9223372036854775808,.int .u64 0] 125 (0,0)):=by rw [hW6]; exact ((heap_alloc_old _ _ (by first | omega | (simp <;> omega))).trans X0)
 replace X1:W6.heap[w.heap.size]? = some (.cells #[.bool false,.int .i64 0,.int .u64 0,.int .u64 0,.bool false,.int .i64 0,.int .u64 0,.int .u64 0] 127 (0,0)):=by rw [hW6]; exact ((heap_alloc_old _ _ (by first | omega | (simp <;> omega))).trans X1)
 replace X2:W6.heap[g2]? = some (.cells #[.bool false,.int .i64 (-4194304),.int .u64 0,.int .u64 0,.bool false,.int .i64 (-4194304),.int .u64 0,.int .u64 0] 127 (0,0)):=by rw [hW6]; exact ((heap_alloc_old _ _ (by first | omega | (simp <;> omega))).trans X2)
 replace X3:W6.heap[W2.heap.size]? = some (.cells #[.bool false,.int .i64 (-4194304),.int .u64 0,.int .u64 0] 125 (0,0)):=by rw [hW6]; exact ((heap_alloc_old _ _ (by first | omega | (simp <;> omega))).trans X3)
 have X4:W6.heap[W5.heap.size]? = some (.cells #[.bool false,.int .i64 (-127),.int .u64 9223372036854775808,.int .u64 0] 125 (0,0)):=by rw [hW6]; exact (alloc_at sP)
 have q0_4:g < W5.heap.size:=oM
 have q1_4:w.heap.size < W5.heap.size:=oM
 have q2_4:g2 < W5.heap.size:=oM
 have q3_4:W2.heap.size < W5.heap.size:=oM
 replace z0:g < W6.heap.size:=by rw [hW6]; simp <;> omega
 replace z1:w.heap.size < W6.heap.size:=by rw [hW6]; simp <;> omega
 replace z2:g2 < W6.heap.size:=by rw [hW6]; simp <;> omega
 replace z3:W2.heap.size < W6.heap.size:=by rw [hW6]; simp <;> omega
 have z4:W5.heap.size < W6.heap.size:=by rw [hW6]; simp <;> omega
 replace B:Below w.heap.size w W6:=by rw [hW6]; exact (bT B (below_alloc _ _))
 clear hW6
 refine (less_7 _).mono ?_
 rintro e W7 ⟨rfl,hb7⟩
 replace X0:=(hb7.block _ z0).trans X0
 replace z0:=lL z0 hb7.size
 replace X1:=(hb7.block _ z1).trans X1
 replace z1:=lL z1 hb7.size
 replace X2:=(hb7.block _ z2).trans X2
 replace z2:=lL z2 hb7.size
 replace X3:=(hb7.block _ z3).trans X3
 replace z3:=lL z3 hb7.size
 replace X4:=(hb7.block _ z4).trans X4
 replace z4:=lL z4 hb7.size
 replace B:=bT B hb7
 clear hb7
 clear f0_0 f0_1 f0_2 f0_3 f0_4 f0_5 f0_6 f0_7 f0_8 f0_9 f0_10 f0_11 f0_12 f0_13 f0_14 f0_15 y0_0 y0_1 y0_2 y0_3 y0_4 y0_5 y0_6 y0_7 y0_8 y0_9 y0_10 y0_11 y0_12 y0_13 y0_14 y0_15 f1_0 f1_1 f1_2 f1_3 f1_4 f1_5 f1_6 f1_7 y1_0 y1_1 y1_2 y1_3 y1_4 y1_5 y1_6 y1_7 f2_0 f2_1 f2_2 f2_3 f2_4 f2_5 f2_6 f2_7 y2_0 y2_1 y2_2 y2_3 y2_4 y2_5 y2_6 y2_7 f3_0 f3_1 f3_2 f3_3 y3_0 y3_1 y3_2 y3_3
 obtain ⟨f0_0,f0_1,f0_2,f0_3,f0_4,f0_5,f0_6,f0_7,f0_8,f0_9,f0_10,f0_11,f0_12,f0_13,f0_14,f0_15,y0_0,y0_1,y0_2,y0_3,y0_4,y0_5,y0_6,y0_7,y0_8,y0_9,y0_10,y0_11,y0_12,y0_13,y0_14,y0_15⟩:=bx16 X0
 obtain ⟨f1_0,f1_1,f1_2,f1_3,f1_4,f1_5,f1_6,f1_7,y1_0,y1_1,y1_2,y1_3,y1_4,y1_5,y1_6,y1_7⟩:=bx8 X1
 obtain ⟨f2_0,f2_1,f2_2,f2_3,f2_4,f2_5,f2_6,f2_7,y2_0,y2_1,y2_2,y2_3,y2_4,y2_5,y2_6,y2_7⟩:=bx8 X2
 obtain ⟨f3_0,f3_1,f3_2,f3_3,y3_0,y3_1,y3_2,y3_3⟩:=bx4 X3
 obtain ⟨f4_0,f4_1,f4_2,f4_3,y4_0,y4_1,y4_2,y4_3⟩:=bx4 X4
 go_wp2_with fail
 refine (less_8 _).mono ?_
 rintro e W8 ⟨rfl,hb8⟩
 replace X0:=(hb8.block _ z0).trans X0
 replace z0:=lL z0 hb8.size
 replace X1:=(hb8.block _ z1).trans X1
 replace z1:=lL z1 hb8.size
 replace X2:=(hb8.block _ z2).trans X2
 replace z2:=lL z2 hb8.size
 replace X3:=(hb8.block _ z3).trans X3
 replace z3:=lL z3 hb8.size
 replace X4:=(hb8.block _ z4).trans X4
 replace z4:=lL z4 hb8.size
 replace B:=bT B hb8
 clear hb8
 clear f0_0 f0_1 f0_2 f0_3 f0_4 f0_5 f0_6 f0_7 f0_8 f0_9 f0_10 f0_11 f0_12 f0_13 f0_14 f0_15 y0_0 y0_1 y0_2 y0_3 y0_4 y0_5 y0_6 y0_7 y0_8 y0_9 y0_10 y0_11 y0_12 y0_13 y0_14 y0_15 f1_0 f1_1 f1_2 f1_3 f1_4 f1_5 f1_6 f1_7 y1_0 y1_1 y1_2 y1_3 y1_4 y1_5 y1_6 y1_7 f2_0 f2_1 f2_2 f2_3 f2_4 f2_5 f2_6 f2_7 y2_0 y2_1 y2_2 y2_3 y2_4 y2_5 y2_6 y2_7 f3_0 f3_1 f3_2 f3_3 y3_0 y3_1 y3_2 y3_3 f4_0 f4_1 f4_2 f4_3 y4_0 y4_1 y4_2 y4_3
 obtain ⟨f0_0,f0_1,f0_2,f0_3,f0_4,f0_5,f0_6,f0_7,f0_8,f0_9,f0_10,f0_11,f0_12,f0_13,f0_14,f0_15,y0_0,y0_1,y0_2,y0_3,y0_4,y0_5,y0_6,y0_7,y0_8,y0_9,y0_10,y0_11,y0_12,y0_13,y0_14,y0_15⟩:=bx16 X0
 obtain ⟨f1_0,f1_1,f1_2,f1_3,f1_4,f1_5,f1_6,f1_7,y1_0,y1_1,y1_2,y1_3,y1_4,y1_5,y1_6,y1_7⟩:=bx8 X1
 obtain ⟨f2_0,f2_1,f2_2,f2_3,f2_4,f2_5,f2_6,f2_7,y2_0,y2_1,y2_2,y2_3,y2_4,y2_5,y2_6,y2_7⟩:=bx8 X2
 obtain ⟨f3_0,f3_1,f3_2,f3_3,y3_0,y3_1,y3_2,y3_3⟩:=bx4 X3
 obtain ⟨f4_0,f4_1,f4_2,f4_3,y4_0,y4_1,y4_2,y4_3⟩:=bx4 X4
 go_wp2_with fail
 rw [rounds_succ]
 go_wp2_with fail
 obtain ⟨W9,hW9⟩:∃ W:World,W = ((((W8.setCell ⟨g2,4,none⟩ (.bool false)).setCell ⟨g2,5,none⟩ (.int .i64 (-127))).setCell ⟨g2,6,none⟩ (.int .u64 9223372036854775808)).setCell ⟨g2,7,none⟩ (.int .u64 0)).alloc (.cells #[.bool false,.int .i64 (-126),.int .u64 9223372036854775808,.int .u64 0] 125):=⟨_,rfl⟩
 rw [<- hW9]
 replace X0:W9.heap[g]? = some (.cells #[.bool false,.int .i64 (-4194304),.int .u64 0,.int .u64 0,.bool false,.int .i64 (-4194304),.int .u64 0,.int .u64 0,.bool false,.int .i64 (-127),.int .u64 9223372036854775808,.int .u64 0,.bool false,.int .i64 (-126),.int .u64 9223372036854775808,.int .u64 0] 125 (0,0)):=by rw [hW9]; exact ((heap_alloc_old _ _ (by first | omega | (simp <;> omega))).trans (set_other (set_other (set_other (set_other X0 oM _) oM _) oM _) oM _))
 replace X1:W9.heap[w.heap.size]? = some (.cells #[.bool false,.int .i64 0,.int .u64 0,.int .u64 0,.bool false,.int .i64 0,.int .u64 0,.int .u64 0] 127 (0,0)):=by rw [hW9]; exact ((heap_alloc_old _ _ (by first | omega | (simp <;> omega))).trans (set_other (set_other (set_other (set_other X1 oM _) oM _) oM _) oM _))
 replace X2:W9.heap[g2]? = some (.cells #[.bool false,.int .i64 (-4194304),.int .u64 0,.int .u64 0,.bool false,.int .i64 (-127),.int .u64 9223372036854775808,.int .u64 0] 127 (0,0)):=by rw [hW9]; exact ((heap_alloc_old _ _ (by first | omega | (simp <;> omega))).trans (set_same (set_same (set_same (set_same X2 _) _) _) _))
 replace X3:W9.heap[W2.heap.size]? = some (.cells #[.bool false,.int .i64 (-4194304),.int .u64 0,.int .u64 0] 125 (0,0)):=by rw [hW9]; exact ((heap_alloc_old _ _ (by first | omega | (simp <;> omega))).trans (set_other (set_other (set_other (set_other X3 oM _) oM _) oM _) oM _))
 replace X4:W9.heap[W5.heap.size]? = some (.cells #[.bool false,.int .i64 (-127),.int .u64 9223372036854775808,.int .u64 0] 125 (0,0)):=by rw [hW9]; exact ((heap_alloc_old _ _ (by first | omega | (simp <;> omega))).trans (set_other (set_other (set_other (set_other X4 oM _) oM _) oM _) oM _))
 have X5:W9.heap[W8.heap.size]? = some (.cells #[.bool false,.int .i64 (-126),.int .u64 9223372036854775808,.int .u64 0] 125 (0,0)):=by rw [hW9]; exact (alloc_at sP)
 have q0_5:g < W8.heap.size:=oM
 have q1_5:w.heap.size < W8.heap.size:=oM
 have q2_5:g2 < W8.heap.size:=oM
 have q3_5:W2.heap.size < W8.heap.size:=oM
 have q4_5:W5.heap.size < W8.heap.size:=oM
 replace z0:g < W9.heap.size:=by rw [hW9]; simp <;> omega
 replace z1:w.heap.size < W9.heap.size:=by rw [hW9]; simp <;> omega
 replace z2:g2 < W9.heap.size:=by rw [hW9]; simp <;> omega
 replace z3:W2.heap.size < W9.heap.size:=by rw [hW9]; simp <;> omega
 replace z4:W5.heap.size < W9.heap.size:=by rw [hW9]; simp <;> omega
 have z5:W8.heap.size < W9.heap.size:=by rw [hW9]; simp <;> omega
 replace B:Below w.heap.size w W9:=by rw [hW9]; exact (bT (Below.setCell (p:=⟨g2,7,none⟩) (Below.setCell (p:=⟨g2,6,none⟩) (Below.setCell (p:=⟨g2,5,none⟩) (Below.setCell (p:=⟨g2,4,none⟩) B (show w.heap.size <= g2 by omega) _) (show w.heap.size <= g2 by omega) _) (show w.heap.size <= g2 by omega) _) (show w.heap.size <= g2 by omega) _) (below_alloc _ _))
 clear hW9
 refine (less_9 _).mono ?_
 rintro e W10 ⟨rfl,hb10⟩
 replace X0:=(hb10.block _ z0).trans X0
 replace z0:=lL z0 hb10.size
 replace X1:=(hb10.block _ z1).trans X1
 replace z1:=lL z1 hb10.size
 replace X2:=(hb10.block _ z2).trans X2
 replace z2:=lL z2 hb10.size
 replace X3:=(hb10.block _ z3).trans X3
 replace z3:=lL z3 hb10.size
 replace X4:=(hb10.block _ z4).trans X4
 replace z4:=lL z4 hb10.size
 replace X5:=(hb10.block _ z5).trans X5
 replace z5:=lL z5 hb10.size
 replace B:=bT B hb10
 clear hb10
 clear f0_0 f0_1 f0_2 f0_3 f0_4 f0_5 f0_6 f0_7 f0_8 f0_9 f0_10 f0_11 f0_12 f0_13 f0_14 f0_15 y0_0 y0_1 y0_2 y0_3 y0_4 y0_5 y0_6 y0_7 y0_8 y0_9 y0_10 y0_11 y0_12 y0_13 y0_14 y0_15 f1_0 f1_1 f1_2 f1_3 f1_4 f1_5 f1_6 f1_7 y1_0 y1_1 y1_2 y1_3 y1_4 y1_5 y1_6 y1_7 f2_0 f2_1 f2_2 f2_3 f2_4 f2_5 f2_6 f2_7 y2_0 y2_1 y2_2 y2_3 y2_4 y2_5 y2_6 y2_7 f3_0 f3_1 f3_2 f3_3 y3_0 y3_1 y3_2 y3_3 f4_0 f4_1 f4_2 f4_3 y4_0 y4_1 y4_2 y4_3
 obtain ⟨f0_0,f0_1,f0_2,f0_3,f0_4,f0_5,f0_6,f0_7,f0_8,f0_9,f0_10,f0_11,f0_12,f0_13,f0_14,f0_15,y0_0,y0_1,y0_2,y0_3,y0_4,y0_5,y0_6,y0_7,y0_8,y0_9,y0_10,y0_11,y0_12,y0_13,y0_14,y0_15⟩:=bx16 X0
 obtain ⟨f1_0,f1_1,f1_2,f1_3,f1_4,f1_5,f1_6,f1_7,y1_0,y1_1,y1_2,y1_3,y1_4,y1_5,y1_6,y1_7⟩:=bx8 X1
 obtain ⟨f2_0,f2_1,f2_2,f2_3,f2_4,f2_5,f2_6,f2_7,y2_0,y2_1,y2_2,y2_3,y2_4,y2_5,y2_6,y2_7⟩:=bx8 X2
 obtain ⟨f3_0,f3_1,f3_2,f3_3,y3_0,y3_1,y3_2,y3_3⟩:=bx4 X3
 obtain ⟨f4_0,f4_1,f4_2,f4_3,y4_0,y4_1,y4_2,y4_3⟩:=bx4 X4
 obtain ⟨f5_0,f5_1,f5_2,f5_3,y5_0,y5_1,y5_2,y5_3⟩:=bx4 X5
 go_wp2_with fail
 refine (less_2 _).mono ?_
 rintro e W11 ⟨rfl,hb11⟩
 replace X0:=(hb11.block _ z0).trans X0
 replace z0:=lL z0 hb11.size
 replace X1:=(hb11.block _ z1).trans X1
 replace z1:=lL z1 hb11.size
 replace X2:=(hb11.block _ z2).trans X2
 replace z2:=lL z2 hb11.size
 replace X3:=(hb11.block _ z3).trans X3
 replace z3:=lL z3 hb11.size
 replace X4:=(hb11.block _ z4).trans X4
 replace z4:=lL z4 hb11.size
 replace X5:=(hb11.block _ z5).trans X5
 replace z5:=lL z5 hb11.size
 replace B:=bT B hb11
 clear hb11
 clear f0_0 f0_1 f0_2 f0_3 f0_4 f0_5 f0_6 f0_7 f0_8 f0_9 f0_10 f0_11 f0_12 f0_13 f0_14 f0_15 y0_0 y0_1 y0_2 y0_3 y0_4 y0_5 y0_6 y0_7 y0_8 y0_9 y0_10 y0_11 y0_12 y0_13 y0_14 y0_15 f1_0 f1_1 f1_2 f1_3 f1_4 f1_5 f1_6 f1_7 y1_0 y1_1 y1_2 y1_3 y1_4 y1_5 y1_6 y1_7 f2_0 f2_1 f2_2 f2_3 f2_4 f2_5 f2_6 f2_7 y2_0 y2_1 y2_2 y2_3 y2_4 y2_5 y2_6 y2_7 f3_0 f3_1 f3_2 f3_3 y3_0 y3_1 y3_2 y3_3 f4_0 f4_1 f4_2 f4_3 y4_0 y4_1 y4_2 y4_3 f5_0 f5_1 f5_2 f5_3 y5_0 y5_1 y5_2 y5_3
 obtain ⟨f0_0,f0_1,f0_2,f0_3,f0_4,f0_5,f0_6,f0_7,f0_8,f0_9,f0_10,f0_11,f0_12,f0_13,f0_14,f0_15,y0_0,y0_1,y0_2,y0_3,y0_4,y0_5,y0_6,y0_7,y0_8,y0_9,y0_10,y0_11,y0_12,y0_13,y0_14,y0_15⟩:=bx16 X0
 obtain ⟨f1_0,f1_1,f1_2,f1_3,f1_4,f1_5,f1_6,f1_7,y1_0,y1_1,y1_2,y1_3,y1_4,y1_5,y1_6,y1_7⟩:=bx8 X1
 obtain ⟨f2_0,f2_1,f2_2,f2_3,f2_4,f2_5,f2_6,f2_7,y2_0,y2_1,y2_2,y2_3,y2_4,y2_5,y2_6,y2_7⟩:=bx8 X2
 obtain ⟨f3_0,f3_1,f3_2,f3_3,y3_0,y3_1,y3_2,y3_3⟩:=bx4 X3
 obtain ⟨f4_0,f4_1,f4_2,f4_3,y4_0,y4_1,y4_2,y4_3⟩:=bx4 X4
 obtain ⟨f5_0,f5_1,f5_2,f5_3,y5_0,y5_1,y5_2,y5_3⟩:=bx4 X5
 go_wp2_with fail
 rw [rounds_succ]
 go_upto_region 10 with fail
 obtain ⟨W12,hW12⟩:∃ W:World,W = (((W11.setCell ⟨g2,4,none⟩ (.bool false)).setCell ⟨g2,5,none⟩ (.int .i64 (-126))).setCell ⟨g2,6,none⟩ (.int .u64 9223372036854775808)).setCell ⟨g2,7,none⟩ (.int .u64 0):=⟨_,rfl⟩
 rw [<- hW12]
 replace X0:W12.heap[g]? = some (.cells #[.bool false,.int .i64 (-4194304),.int .u64 0,.int .u64 0,.bool false,.int .i64 (-4194304),.int .u64 0,.int .u64 0,.bool false,.int .i64 (-127),.int .u64 9223372036854775808,.int .u64 0,.bool false,.int .i64 (-126),.int .u64 9223372036854775808,.int .u64 0] 125 (0,0)):=by rw [hW12]; exact (set_other (set_other (set_other (set_other X0 oM _) oM _) oM _) oM _)
 replace X1:W12.heap[w.heap.size]? = some (.cells #[.bool false,.int .i64 0,.int .u64 0,.int .u64 0,.bool false,.int .i64 0,.int .u64 0,.int .u64 0] 127 (0,0)):=by rw [hW12]; exact (set_other (set_other (set_other (set_other X1 oM _) oM _) oM _) oM _)
 replace X2:W12.heap[g2]? = some (.cells #[.bool false,.int .i64 (-4194304),.int .u64 0,.int .u64 0,.bool false,.int .i64 (-126),.int .u64 9223372036854775808,.int .u64 0] 127 (0,0)):=by rw [hW12]; exact (set_same (set_same (set_same (set_same X2 _) _) _) _)
 replace X3:W12.heap[W2.heap.size]? = some (.cells #[.bool false,.int .i64 (-4194304),.int .u64 0,.int .u64 0] 125 (0,0)):=by rw [hW12]; exact (set_other (set_other (set_other (set_other X3 oM _) oM _) oM _) oM _)
 replace X4:W12.heap[W5.heap.size]? = some (.cells #[.bool false,.int .i64 (-127),.int .u64 9223372036854775808,.int .u64 0] 125 (0,0)):=by rw [hW12]; exact (set_other (set_other (set_other (set_other X4 oM _) oM _) oM _) oM _)
 replace X5:W12.heap[W8.heap.size]? = some (.cells #[.bool false,.int .i64 (-126),.int .u64 9223372036854775808,.int .u64 0] 125 (0,0)):=by rw [hW12]; exact (set_other (set_other (set_other (set_other X5 oM _) oM _) oM _) oM _)
 replace z0:g < W12.heap.size:=by rw [hW12]; simp <;> omega
 replace z1:w.heap.size < W12.heap.size:=by rw [hW12]; simp <;> omega
 replace z2:g2 < W12.heap.size:=by rw [hW12]; simp <;> omega
 replace z3:W2.heap.size < W12.heap.size:=by rw [hW12]; simp <;> omega
 replace z4:W5.heap.size < W12.heap.size:=by rw [hW12]; simp <;> omega
 replace z5:W8.heap.size < W12.heap.size:=by rw [hW12]; simp <;> omega
 replace B:Below w.heap.size w W12:=by rw [hW12]; exact (Below.setCell (p:=⟨g2,7,none⟩) (Below.setCell (p:=⟨g2,6,none⟩) (Below.setCell (p:=⟨g2,5,none⟩) (Below.setCell (p:=⟨g2,4,none⟩) B (show w.heap.size <= g2 by omega) _) (show w.heap.size <= g2 by omega) _) (show w.heap.size <= g2 by omega) _) (show w.heap.size <= g2 by omega) _)
 clear hW12
 clear f0_0 f0_1 f0_2 f0_3 f0_4 f0_5 f0_6 f0_7 f0_8 f0_9 f0_10 f0_11 f0_12 f0_13 f0_14 f0_15 y0_0 y0_1 y0_2 y0_3 y0_4 y0_5 y0_6 y0_7 y0_8 y0_9 y0_10 y0_11 y0_12 y0_13 y0_14 y0_15 f1_0 f1_1 f1_2 f1_3 f1_4 f1_5 f1_6 f1_7 y1_0 y1_1 y1_2 y1_3 y1_4 y1_5 y1_6 y1_7 f2_0 f2_1 f2_2 f2_3 f2_4 f2_5 f2_6 f2_7 y2_0 y2_1 y2_2 y2_3 y2_4 y2_5 y2_6 y2_7 f3_0 f3_1 f3_2 f3_3 y3_0 y3_1 y3_2 y3_3 f4_0 f4_1 f4_2 f4_3 y4_0 y4_1 y4_2 y4_3 f5_0 f5_1 f5_2 f5_3 y5_0 y5_1 y5_2 y5_3
 obtain ⟨f0_0,f0_1,f0_2,f0_3,f0_4,f0_5,f0_6,f0_7,f0_8,f0_9,f0_10,f0_11,f0_12,f0_13,f0_14,f0_15,y0_0,y0_1,y0_2,y0_3,y0_4,y0_5,y0_6,y0_7,y0_8,y0_9,y0_10,y0_11,y0_12,y0_13,y0_14,y0_15⟩:=bx16 X0
 obtain ⟨f1_0,f1_1,f1_2,f1_3,f1_4,f1_5,f1_6,f1_7,y1_0,y1_1,y1_2,y1_3,y1_4,y1_5,y1_6,y1_7⟩:=bx8 X1
 obtain ⟨f2_0,f2_1,f2_2,f2_3,f2_4,f2_5,f2_6,f2_7,y2_0,y2_1,y2_2,y2_3,y2_4,y2_5,y2_6,y2_7⟩:=bx8 X2
 obtain ⟨f3_0,f3_1,f3_2,f3_3,y3_0,y3_1,y3_2,y3_3⟩:=bx4 X3
 obtain ⟨f4_0,f4_1,f4_2,f4_3,y4_0,y4_1,y4_2,y4_3⟩:=bx4 X4
 obtain ⟨f5_0,f5_1,f5_2,f5_3,y5_0,y5_1,y5_2,y5_3⟩:=bx4 X5
 go_wp2
 refine bodyPost_ret (v:=.agg #[.bool false,.int .i64 (-4194304),.int .u64 0,.int .u64 0,.bool false,.int .i64 (-126),.int .u64 9223372036854775808,.int .u64 0]) (by simp [results,Tryz.results131,go_sem,f0_0,f0_1,f0_2,f0_3,f0_4,f0_5,f0_6,f0_7,f0_8,f0_9,f0_10,f0_11,f0_12,f0_13,f0_14,f0_15,y0_0,y0_1,y0_2,y0_3,y0_4,y0_5,y0_6,y0_7,y0_8,y0_9,y0_10,y0_11,y0_12,y0_13,y0_14,y0_15,f1_0,f1_1,f1_2,f1_3,f1_4,f1_5,f1_6,f1_7,y1_0,y1_1,y1_2,y1_3,y1_4,y1_5,y1_6,y1_7,f2_0,f2_1,f2_2,f2_3,f2_4,f2_5,f2_6,f2_7,y2_0,y2_1,y2_2,y2_3,y2_4,y2_5,y2_6,y2_7,f3_0,f3_1,f3_2,f3_3,y3_0,y3_1,y3_2,y3_3,f4_0,f4_1,f4_2,f4_3,y4_0,y4_1,y4_2,y4_3,f5_0,f5_1,f5_2,f5_3,y5_0,y5_1,y5_2,y5_3]) rfl ?_
 exact ⟨rfl,(Below.setCell (p:=⟨w.heap.size,7,none⟩) (Below.setCell (p:=⟨w.heap.size,6,none⟩) (Below.setCell (p:=⟨w.heap.size,5,none⟩) (Below.setCell (p:=⟨w.heap.size,4,none⟩) (Below.setCell (p:=⟨w.heap.size,3,none⟩) (Below.setCell (p:=⟨w.heap.size,2,none⟩) (Below.setCell (p:=⟨w.heap.size,1,none⟩) (Below.setCell (p:=⟨w.heap.size,0,none⟩) B (show w.heap.size <= w.heap.size by omega) _) (show w.heap.size <= w.heap.size by omega) _) (show w.heap.size <= w.heap.size by omega) _) (show w.heap.size <= w.heap.size by omega) _) (show w.heap.size <= w.heap.size by omega) _) (show w.heap.size <= w.heap.size by omega) _) (show w.heap.size <= w.heap.size by omega) _) (show w.heap.size <= w.heap.size by omega) _)⟩
theorem reach_4 (w:World):Calls Tryz.prog 86 #[.agg #[.float .f64 0,.float .f64 4607182418800017408],.agg #[.float .f64 4607182418800017408,.float .f64 4611686018427387904],.func (.func 87) #[] #[]] w fun e w'=>e = .returned (.agg #[.bool false,.int .i64 (-4194304),.int .u64 0,.int .u64 0,.bool false,.int .i64 (-126),.int .u64 9223372036854775808,.int .u64 0]) /\ Below w.heap.size w w':=by
 have hfb:=floatbits_run
 go_enter Tryz.func86,Tryz.ntmps86
 go_upto_region 1 with fail
 obtain ⟨W1,hW1⟩:∃ W:World,W = ((w.alloc (.cells #[.float .f64 0,.float .f64 4607182418800017408] 28)).alloc (.cells #[.float .f64 4607182418800017408,.float .f64 4611686018427387904] 28)).alloc (.cells #[.bool false,.int .i64 0,.int .u64 0,.int .u64 0,.bool false,.int .i64 0,.int .u64 0,.int .u64 0] 127):=⟨_,rfl⟩
 rw [<- hW1]
 have X0:W1.heap[w.heap.size]? = some (.cells #[.float .f64 0,.float .f64 4607182418800017408] 28 (0,0)):=by rw [hW1]; exact ((heap_alloc_old _ _ (by first | omega | (simp <;> omega))).trans ((heap_alloc_old _ _ (by first | omega | (simp <;> omega))).trans (alloc_at sP)))
 have X1:W1.heap[w.heap.size + 1]? = some (.cells #[.float .f64 4607182418800017408,.float .f64 4611686018427387904] 28 (0,0)):=by rw [hW1]; exact ((heap_alloc_old _ _ (by first | omega | (simp <;> omega))).trans (alloc_at sP))
 have X2:W1.heap[w.heap.size + 2]? = some (.cells #[.bool false,.int .i64 0,.int .u64 0,.int .u64 0,.bool false,.int .i64 0,.int .u64 0,.int .u64 0] 127 (0,0)):=by rw [hW1]; exact (alloc_at sP)
 have z0:w.heap.size < W1.heap.size:=by rw [hW1]; simp <;> omega
 have z1:w.heap.size + 1 < W1.heap.size:=by rw [hW1]; simp <;> omega
 have z2:w.heap.size + 2 < W1.heap.size:=by rw [hW1]; simp <;> omega
 have B:Below w.heap.size w W1:=by rw [hW1]; exact (bT (bT (bT (Below.refl w.heap.size w) (below_alloc _ _)) (below_alloc _ _)) (below_alloc _ _))
 clear hW1
 obtain ⟨f0_0,f0_1,y0_0,y0_1⟩:=bx2 X0
 obtain ⟨f1_0,f1_1,y1_0,y1_1⟩:=bx2 X1
 obtain ⟨f2_0,f2_1,f2_2,f2_3,f2_4,f2_5,f2_6,f2_7,y2_0,y2_1,y2_2,y2_3,y2_4,y2_5,y2_6,y2_7⟩:=bx8 X2
 refine region_last [.val (kIs (.func (.func 87) #[] #[])),.val (kIs (.pointer (some ⟨w.heap.size,0,none⟩))),.val (kIs (.float .f64 0)),.val (kIs (.pointer (some ⟨w.heap.size + 1,0,none⟩))),.val (kIs (.float .f64 4607182418800017408)),.val (kIs (.agg #[.bool false,.int .i64 (-4194304),.int .u64 0,.int .u64 0])),.val (kIs (.func (.func 87) #[] #[])),.val (kIs (.pointer (some ⟨w.heap.size,0,none⟩))),.val (kIs (.float .f64 0)),.val (kIs (.pointer (some ⟨w.heap.size + 1,1,none⟩))),.val (kIs (.float .f64 4611686018427387904)),.val (kIs (.agg #[.bool false,.int .i64 (-4194304),.int .u64 0,.int .u64 0])),.val (kIs (.func (.func 87) #[] #[])),.val (kIs (.pointer (some ⟨w.heap.size,1,none⟩))),.val (kIs (.float .f64 4607182418800017408)),.val (kIs (.pointer (some ⟨w.heap.size + 1,0,none⟩))),.val (kIs (.float .f64 4607182418800017408)),.val (kIs (.agg #[.bool false,.int .i64 (-127),.int .u64 9223372036854775808,.int .u64 0])),.val (kIs (.func (.func 87) #[] #[])),.val (kIs (.pointer (some ⟨w.heap.size,1,none⟩))),.val (kIs (.float .f64 4607182418800017408)),.val (kIs (.pointer (some ⟨w.heap.size + 1,1,none⟩))),.val (kIs (.float .f64 4611686018427387904)),.val (kIs (.agg #[.bool false,.int .i64 (-126),.int .u64 9223372036854775808,.int .u64 0])),.val (kSl 125 #[.bool false,.int .i64 (-4194304),.int .u64 0,.int .u64 0,.bool false,.int .i64 (-4194304),.int .u64 0,.int .u64 0,.bool false,.int .i64 (-127),.int .u64 9223372036854775808,.int .u64 0,.bool false,.int .i64 (-126),.int .u64 9223372036854775808,.int .u64 0] 4),.val (kIs (.agg #[.bool false,.int .i64 (-4194304),.int .u64 0,.int .u64 0,.bool false,.int .i64 (-126),.int .u64 9223372036854775808,.int .u64 0]))]
  kR kR kR kR kR ⟨Stab.b (stab_is _),Stab.b (stab_is _),Stab.b (stab_is _),Stab.b (stab_is _),Stab.b (stab_is _),Stab.b (stab_is _),Stab.b (stab_is _),Stab.b (stab_is _),Stab.b (stab_is _),Stab.b (stab_is _),Stab.b (stab_is _),Stab.b (stab_is _),Stab.b (stab_is _),Stab.b (stab_is _),Stab.b (stab_is _),Stab.b (stab_is _),Stab.b (stab_is _),Stab.b (stab_is _),Stab.b (stab_is _),Stab.b (stab_is _),Stab.b (stab_is _),Stab.b (stab_is _),Stab.b (stab_is _),Stab.b (stab_is _),stabB_sl _ _ _,Stab.b (stab_is _),trivial⟩ sP (ol:=_) rfl kR ⟨?_,?_,?_,?_,?_,?_,?_,?_,?_,?_,?_,?_,?_,?_,?_,?_,?_,?_,?_,?_,?_,?_,?_,?_,?_,?_,trivial⟩ ?_
 ·exact obq
 ·exact obq
 ·intro ts W hb hB hp; have h1:ts 1 = _:=hp 1 kR; intro K hK; simp only [fillT,zA,Nat.reduceAdd,sA,sB,sC,h1] at hK ⊢; have HK:=hid hK; clear hK hp; obtain ⟨p0,p1,-,-⟩:=bx2 ((hb.block _ z0).trans X0); refine ⟨?_⟩; go_simp; exact HK.out _ _ kk rfB
 ·exact obq
 ·intro ts W hb hB hp; have h3:ts 3 = _:=hp 3 kR; intro K hK; simp only [fillT,zA,Nat.reduceAdd,sA,sB,sC,h3] at hK ⊢; have HK:=hid hK; clear hK hp; obtain ⟨p0,p1,-,-⟩:=bx2 ((hb.block _ z1).trans X1); refine ⟨?_⟩; go_simp; exact HK.out _ _ kk rfB
 ·intro ts W hb hB hp; have h0:ts 0 = _:=hp 0 kR; have h2:ts 2 = _:=hp 2 kR; have h4:ts 4 = _:=hp 4 kR; intro K hK; simp only [fillT,zA,Nat.reduceAdd,sA,sB,sC,h0,h2,h4] at hK ⊢; have HK:=hid hK; clear hK hp; refine ⟨?_⟩; go_simp; refine (times_01 _).mono ?_; rintro e W9 ⟨rfl,hb9⟩; exact HK.out _ _ rfl hb9
 ·exact obq
 ·exact obq
 ·intro ts W hb hB hp; have h7:ts 7 = _:=hp 7 kR; intro K hK; simp only [fillT,zA,Nat.reduceAdd,sA,sB,sC,h7] at hK ⊢; have HK:=hid hK; clear hK hp; obtain ⟨p0,p1,-,-⟩:=bx2 ((hb.block _ z0).trans X0); refine ⟨?_⟩; go_simp; exact HK.out _ _ kk rfB
 ·exact obq
 ·intro ts W hb hB hp; have h9:ts 9 = _:=hp 9 kR; intro K hK; simp only [fillT,zA,Nat.reduceAdd,sA,sB,sC,h9] at hK ⊢; have HK:=hid hK; clear hK hp; obtain ⟨p0,p1,-,-⟩:=bx2 ((hb.block _ z1).trans X1); refine ⟨?_⟩; go_simp; exact HK.out _ _ kk rfB
 ·intro ts W hb hB hp; have h6:ts 6 = _:=hp 6 kR; have h8:ts 8 = _:=hp 8 kR; have h10:ts 10 = _:=hp 10 kR; intro K hK; simp only [fillT,zA,Nat.reduceAdd,sA,sB,sC,h6,h8,h10] at hK ⊢; have HK:=hid hK; clear hK hp; refine ⟨?_⟩; go_simp; refine (times_02 _).mono ?_; rintro e W9 ⟨rfl,hb9⟩; exact HK.out _ _ rfl hb9
 ·exact obq
 ·exact obq
 ·intro ts W hb hB hp; have h13:ts 13 = _:=hp 13 kR; intro K hK; simp only [fillT,zA,Nat.reduceAdd,sA,sB,sC,h13] at hK ⊢; have HK:=hid hK; clear hK hp; obtain ⟨p0,p1,-,-⟩:=bx2 ((hb.block _ z0).trans X0); refine ⟨?_⟩; go_simp; exact HK.out _ _ kk rfB
 ·exact obq
 ·intro ts W hb hB hp; have h15:ts 15 = _:=hp 15 kR; intro K hK; simp only [fillT,zA,Nat.reduceAdd,sA,sB,sC,h15] at hK ⊢; have HK:=hid hK; clear hK hp; obtain ⟨p0,p1,-,-⟩:=bx2 ((hb.block _ z1).trans X1); refine ⟨?_⟩; go_simp; exact HK.out _ _ kk rfB
 ·intro ts W hb hB hp; have h12:ts 12 = _:=hp 12 kR; have h14:ts 14 = _:=hp 14 kR; have h16:ts 16 = _:=hp 16 kR; intro K hK; simp only [fillT,zA,Nat.reduceAdd,sA,sB,sC,h12,h14,h16] at hK ⊢; have HK:=hid hK; clear hK hp; refine ⟨?_⟩; go_simp; refine (times_11 _).mono ?_; rintro e W9 ⟨rfl,hb9⟩; exact HK.out _ _ rfl hb9
 ·exact obq
 ·exact obq
 ·intro ts W hb hB hp; have h19:ts 19 = _:=hp 19 kR; intro K hK; simp only [fillT,zA,Nat.reduceAdd,sA,sB,sC,h19] at hK ⊢; have HK:=hid hK; clear hK hp; obtain ⟨p0,p1,-,-⟩:=bx2 ((hb.block _ z0).trans X0); refine ⟨?_⟩; go_simp; exact HK.out _ _ kk rfB
 ·exact obq
 ·intro ts W hb hB hp; have h21:ts 21 = _:=hp 21 kR; intro K hK; simp only [fillT,zA,Nat.reduceAdd,sA,sB,sC,h21] at hK ⊢; have HK:=hid hK; clear hK hp; obtain ⟨p0,p1,-,-⟩:=bx2 ((hb.block _ z1).trans X1); refine ⟨?_⟩; go_simp; exact HK.out _ _ kk rfB
 ·intro ts W hb hB hp; have h18:ts 18 = _:=hp 18 kR; have h20:ts 20 = _:=hp 20 kR; have h22:ts 22 = _:=hp 22 kR; intro K hK; simp only [fillT,zA,Nat.reduceAdd,sA,sB,sC,h18,h20,h22] at hK ⊢; have HK:=hid hK; clear hK hp; refine ⟨?_⟩; go_simp; refine (times_12 _).mono ?_; rintro e W9 ⟨rfl,hb9⟩; exact HK.out _ _ rfl hb9
 ·intro ts W hb hB hp; have h5:ts 5 = _:=hp 5 kR; have h11:ts 11 = _:=hp 11 kR; have h17:ts 17 = _:=hp 17 kR; have h23:ts 23 = _:=hp 23 kR; intro K hK; simp only [fillT,zA,Nat.reduceAdd,sA,sB,sC,h5,h11,h17,h23] at hK ⊢; have HK:=hid hK; clear hK hp; refine ⟨?_⟩; exact wp_buildSlice rfl (by simp [Act.eval]) (bs_4 W) (HK.out _ _ ⟨_,rfl,heap_alloc_new _ _,sP⟩ (below_alloc _ _))
 ·intro ts W hb hB hp; have h24:=hp 24 kR; intro K hK; obtain ⟨g9,e9,X9,z9⟩:=h24; simp only [fillT,zA,Nat.reduceAdd,sA,sB,sC,e9] at hK ⊢; have HK:=hid hK; clear hK hp; refine ⟨?_⟩; go_simp; refine (spread_4 _ g9 X9 z9).mono ?_; rintro e W9 ⟨rfl,hb9⟩; exact HK.out _ _ rfl hb9
 intro ts W2 hb2 hh hap K hK
 have e0:=held_is (hh 0 sP) rfl
 have e1:=held_is (hh 1 sP) rfl
 have e2:=held_is (hh 2 sP) rfl
 have e3:=held_is (hh 3 sP) rfl
 have e4:=held_is (hh 4 sP) rfl
 have e5:=held_is (hh 5 sP) rfl
 have e6:=held_is (hh 6 sP) rfl
 have e7:=held_is (hh 7 sP) rfl
 have e8:=held_is (hh 8 sP) rfl
 have e9:=held_is (hh 9 sP) rfl
 have e10:=held_is (hh 10 sP) rfl
 have e11:=held_is (hh 11 sP) rfl
 have e12:=held_is (hh 12 sP) rfl
 have e13:=held_is (hh 13 sP) rfl
 have e14:=held_is (hh 14 sP) rfl
 have e15:=held_is (hh 15 sP) rfl
 have e16:=held_is (hh 16 sP) rfl
 have e17:=held_is (hh 17 sP) rfl
 have e18:=held_is (hh 18 sP) rfl
 have e19:=held_is (hh 19 sP) rfl
 have e20:=held_is (hh 20 sP) rfl
 have e21:=held_is (hh 21 sP) rfl
 have e22:=held_is (hh 22 sP) rfl
 have e23:=held_is (hh 23 sP) rfl
 have e25:=held_is (hh 25 sP) rfl
 have HK:=hid hK
 clear hK
 simp only [fillT,zA,Nat.reduceAdd,sA,sB,sC,e0,e1,e2,e3,e4,e5,e6,e7,e8,e9,e10,e11,e12,e13,e14,e15,e16,e17,e18,e19,e20,e21,e22,e23,e25]
 clear hh hap e0 e1 e2 e3 e4 e5 e6 e7 e8 e9 e10 e11 e12 e13 e14 e15 e16 e17 e18 e19 e20 e21 e22 e23 e25
 generalize ts 24 = u24_W2 at *
 replace X0:=(hb2.block _ z0).trans X0
 replace z0:=lL z0 hb2.size
 replace X1:=(hb2.block _ z1).trans X1
 replace z1:=lL z1 hb2.size
 replace X2:=(hb2.block _ z2).trans X2
 replace z2:=lL z2 hb2.size
 replace B:=bT B hb2
 clear hb2
 clear f0_0 f0_1 y0_0 y0_1 f1_0 f1_1 y1_0 y1_1 f2_0 f2_1 f2_2 f2_3 f2_4 f2_5 f2_6 f2_7 y2_0 y2_1 y2_2 y2_3 y2_4 y2_5 y2_6 y2_7
 obtain ⟨f0_0,f0_1,y0_0,y0_1⟩:=bx2 X0
 obtain ⟨f1_0,f1_1,y1_0,y1_1⟩:=bx2 X1
 obtain ⟨f2_0,f2_1,f2_2,f2_3,f2_4,f2_5,f2_6,f2_7,y2_0,y2_1,y2_2,y2_3,y2_4,y2_5,y2_6,y2_7⟩:=bx8 X2
 refine ⟨?_⟩
 refine wp_store_row _ _ _ rfl (w.heap.size + 2) _ rfl rfl _ _ X2 kR rfl (by simp [Value.oneCell']) (HK.out _ _ ?_)
 have hput:=putAt_setRow (cs:=#[.bool false,.int .i64 (-4194304),.int .u64 0,.int .u64 0,.bool false,.int .i64 (-126),.int .u64 9223372036854775808,.int .u64 0]) X2
 replace B:=hput.below B oM
 clear HK f0_0 f0_1 y0_0 y0_1 f1_0 f1_1 y1_0 y1_1 f2_0 f2_1 f2_2 f2_3 f2_4 f2_5 f2_6 f2_7 y2_0 y2_1 y2_2 y2_3 y2_4 y2_5 y2_6 y2_7 X0 X1 X2
 generalize W2.setRow (w.heap.size + 2) #[.bool false,.int .i64 (-4194304),.int .u64 0,.int .u64 0,.bool false,.int .i64 (-126),.int .u64 9223372036854775808,.int .u64 0] = W3 at *
 have X2:=hput.here
 clear hput
 obtain ⟨f2_0,f2_1,f2_2,f2_3,f2_4,f2_5,f2_6,f2_7,y2_0,y2_1,y2_2,y2_3,y2_4,y2_5,y2_6,y2_7⟩:=bx8 X2
 go_wp2
 refine bodyPost_ret (v:=.agg #[.bool false,.int .i64 (-4194304),.int .u64 0,.int .u64 0,.bool false,.int .i64 (-126),.int .u64 9223372036854775808,.int .u64 0]) (by simp [results,Tryz.results86,go_sem,f2_0,f2_1,f2_2,f2_3,f2_4,f2_5,f2_6,f2_7,y2_0,y2_1,y2_2,y2_3,y2_4,y2_5,y2_6,y2_7]) rfl ?_
 exact ⟨rfl,B⟩
theorem drop_5 (w:World):Calls Tryz.prog 177 #[.agg #[.bool false,.int .i64 (-4194304),.int .u64 0,.int .u64 0],.int .i64 1] w fun e w'=>e = .returned (.tuple #[.int .u64 0,.int .u64 0,.bool false]) /\ Below w.heap.size w w':=by
 have hfb:=floatbits_run
 have k0:bits BinOp.or IntKind.u64 0 0 = 0:=dK
 go_enter Tryz.func177,Tryz.ntmps177
 go_upto_region 2 with fail
 obtain ⟨W1,hW1⟩:∃ W:World,W = w.alloc (.cells #[.bool false,.int .i64 (-4194304),.int .u64 0,.int .u64 0] 125):=⟨_,rfl⟩
 rw [<- hW1]
 have X0:W1.heap[w.heap.size]? = some (.cells #[.bool false,.int .i64 (-4194304),.int .u64 0,.int .u64 0] 125 (0,0)):=by rw [hW1]; exact (alloc_at sP)
 have z0:w.heap.size < W1.heap.size:=by rw [hW1]; simp <;> omega
 have B:Below w.heap.size w W1:=by rw [hW1]; exact (bT (Below.refl w.heap.size w) (below_alloc _ _))
 clear hW1
 obtain ⟨f0_0,f0_1,f0_2,f0_3,y0_0,y0_1,y0_2,y0_3⟩:=bx4 X0
 refine region_lin [.val (kIs (.pointer (some ⟨w.heap.size,2,none⟩))),.val (kIs (.int .u64 0)),.val (kIs (.int .i64 1)),.val (kIs (.int .u64 0)),.val (kIs (.pointer (some ⟨w.heap.size,2,none⟩))),.val (kIs (.int .u64 0)),.val (kIs (.int .i64 1)),.val (kIs (.int .i64 63)),.val (kIs (.int .u64 0)),.val (kIs (.pointer (some ⟨w.heap.size,3,none⟩))),.val (kIs (.int .u64 0)),.val (kIs (.int .i64 1)),.val (kIs (.int .u64 0)),.val (kIs (.int .u64 0)),.val (kIs (.pointer (some ⟨w.heap.size,3,none⟩))),.val (kIs (.int .u64 0)),.val (kIs (.int .i64 1)),.val (kIs (.int .i64 63)),.val (kIs (.int .u64 0)),.val (kIs (.bool false)),.val (kIs (.int .u64 0)),.val (kIs (.int .u64 0)),.val (kIs (.bool false))]
  kR kR kR kR kR ⟨Stab.b (stab_is _),Stab.b (stab_is _),Stab.b (stab_is _),Stab.b (stab_is _),Stab.b (stab_is _),Stab.b (stab_is _),Stab.b (stab_is _),Stab.b (stab_is _),Stab.b (stab_is _),Stab.b (stab_is _),Stab.b (stab_is _),Stab.b (stab_is _),Stab.b (stab_is _),Stab.b (stab_is _),Stab.b (stab_is _),Stab.b (stab_is _),Stab.b (stab_is _),Stab.b (stab_is _),Stab.b (stab_is _),Stab.b (stab_is _),Stab.b (stab_is _),Stab.b (stab_is _),Stab.b (stab_is _),trivial⟩ sP ⟨?_,?_,?_,?_,?_,?_,?_,?_,?_,?_,?_,?_,?_,?_,?_,?_,?_,?_,?_,?_,?_,?_,?_,trivial⟩ ?_
 ·exact obq
 ·intro ts W hb hB hp; have h0:ts 0 = _:=hp 0 kR; intro K hK; simp only [fillT,zA,Nat.reduceAdd,sA,sB,sC,h0] at hK ⊢; have HK:=hid hK; clear hK hp; obtain ⟨p0,p1,p2,p3,-,-,-,-⟩:=bx4 ((hb.block _ z0).trans X0); refine ⟨?_⟩; go_simp; exact HK.out _ _ kk rfB
 ·exact obq
 ·intro ts W hb hB hp; have h1:ts 1 = _:=hp 1 kR; have h2:ts 2 = _:=hp 2 kR; intro K hK; simp only [fillT,zA,Nat.reduceAdd,sA,sB,sC,h1,h2] at hK ⊢; have HK:=hid hK; clear hK hp; refine ⟨?_⟩; go_simp; exact HK.out _ _ kk rfB
 ·exact obq
 ·intro ts W hb hB hp; have h4:ts 4 = _:=hp 4 kR; intro K hK; simp only [fillT,zA,Nat.reduceAdd,sA,sB,sC,h4] at hK ⊢; have HK:=hid hK; clear hK hp; obtain ⟨p0,p1,p2,p3,-,-,-,-⟩:=bx4 ((hb.block _ z0).trans X0); refine ⟨?_⟩; go_simp; exact HK.out _ _ kk rfB
 ·exact obq
 ·intro ts W hb hB hp; have h6:ts 6 = _:=hp 6 kR; intro K hK; simp only [fillT,zA,Nat.reduceAdd,sA,sB,sC,h6] at hK ⊢; have HK:=hid hK; clear hK hp; refine ⟨?_⟩; go_simp; exact HK.out _ _ kk rfB
 ·intro ts W hb hB hp; have h5:ts 5 = _:=hp 5 kR; have h7:ts 7 = _:=hp 7 kR; intro K hK; simp only [fillT,zA,Nat.reduceAdd,sA,sB,sC,h5,h7] at hK ⊢; have HK:=hid hK; clear hK hp; refine ⟨?_⟩; go_simp; exact HK.out _ _ kk rfB
 ·exact obq
 ·intro ts W hb hB hp; have h9:ts 9 = _:=hp 9 kR; intro K hK; simp only [fillT,zA,Nat.reduceAdd,sA,sB,sC,h9] at hK ⊢; have HK:=hid hK; clear hK hp; obtain ⟨p0,p1,p2,p3,-,-,-,-⟩:=bx4 ((hb.block _ z0).trans X0); refine ⟨?_⟩; go_simp; exact HK.out _ _ kk rfB
 ·exact obq
 ·intro ts W hb hB hp; have h10:ts 10 = _:=hp 10 kR; have h11:ts 11 = _:=hp 11 kR; intro K hK; simp only [fillT,zA,Nat.reduceAdd,sA,sB,sC,h10,h11] at hK ⊢; have HK:=hid hK; clear hK hp; refine ⟨?_⟩; go_simp; exact HK.out _ _ kk rfB
 ·intro ts W hb hB hp; have h8:ts 8 = _:=hp 8 kR; have h12:ts 12 = _:=hp 12 kR; intro K hK; simp only [fillT,zA,Nat.reduceAdd,sA,sB,sC,h8,h12] at hK ⊢; have HK:=hid hK; clear hK hp; refine ⟨?_⟩; go_simp; exact HK.out _ _ kk rfB
 ·exact obq
 ·intro ts W hb hB hp; have h14:ts 14 = _:=hp 14 kR; intro K hK; simp only [fillT,zA,Nat.reduceAdd,sA,sB,sC,h14] at hK ⊢; have HK:=hid hK; clear hK hp; obtain ⟨p0,p1,p2,p3,-,-,-,-⟩:=bx4 ((hb.block _ z0).trans X0); refine ⟨?_⟩; go_simp; exact HK.out _ _ kk rfB
 ·exact obq
 ·intro ts W hb hB hp; have h16:ts 16 = _:=hp 16 kR; intro K hK; simp only [fillT,zA,Nat.reduceAdd,sA,sB,sC,h16] at hK ⊢; have HK:=hid hK; clear hK hp; refine ⟨?_⟩; go_simp; exact HK.out _ _ kk rfB
 ·intro ts W hb hB hp; have h15:ts 15 = _:=hp 15 kR; have h17:ts 17 = _:=hp 17 kR; intro K hK; simp only [fillT,zA,Nat.reduceAdd,sA,sB,sC,h15,h17] at hK ⊢; have HK:=hid hK; clear hK hp; refine ⟨?_⟩; go_simp; exact HK.out _ _ kk rfB
 ·intro ts W hb hB hp; have h18:ts 18 = _:=hp 18 kR; intro K hK; simp only [fillT,zA,Nat.reduceAdd,sA,sB,sC,h18] at hK ⊢; have HK:=hid hK; clear hK hp; refine ⟨?_⟩; go_simp; exact HK.out _ _ kk rfB
 ·intro ts W hb hB hp; have h3:ts 3 = _:=hp 3 kR; intro K hK; simp only [fillT,zA,Nat.reduceAdd,sA,sB,sC,h3] at hK ⊢; have HK:=hid hK; clear hK hp; refine ⟨?_⟩; go_simp; exact HK.out _ _ kk rfB
 ·intro ts W hb hB hp; have h13:ts 13 = _:=hp 13 kR; intro K hK; simp only [fillT,zA,Nat.reduceAdd,sA,sB,sC,h13] at hK ⊢; have HK:=hid hK; clear hK hp; refine ⟨?_⟩; go_simp; exact HK.out _ _ kk rfB
 ·intro ts W hb hB hp; have h19:ts 19 = _:=hp 19 kR; intro K hK; simp only [fillT,zA,Nat.reduceAdd,sA,sB,sC,h19] at hK ⊢; have HK:=hid hK; clear hK hp; refine ⟨?_⟩; go_simp; exact HK.out _ _ kk rfB
 intro ts W2 hb2 hh hap
 have e0:=held_is (hh 0 sP) rfl
 have e1:=held_is (hh 1 sP) rfl
 have e2:=held_is (hh 2 sP) rfl
 have e3:=held_is (hh 3 sP) rfl
 have e4:=held_is (hh 4 sP) rfl
 have e5:=held_is (hh 5 sP) rfl
 have e6:=held_is (hh 6 sP) rfl
 have e7:=held_is (hh 7 sP) rfl
 have e8:=held_is (hh 8 sP) rfl
 have e9:=held_is (hh 9 sP) rfl
 have e10:=held_is (hh 10 sP) rfl
 have e11:=held_is (hh 11 sP) rfl
 have e12:=held_is (hh 12 sP) rfl
 have e13:=held_is (hh 13 sP) rfl
 have e14:=held_is (hh 14 sP) rfl
 have e15:=held_is (hh 15 sP) rfl
 have e16:=held_is (hh 16 sP) rfl
 have e17:=held_is (hh 17 sP) rfl
 have e18:=held_is (hh 18 sP) rfl
 have e19:=held_is (hh 19 sP) rfl
 have e20:=held_is (hh 20 sP) rfl
 have e21:=held_is (hh 21 sP) rfl
 have e22:=held_is (hh 22 sP) rfl
 simp only [fillT,zA,Nat.reduceAdd,sA,sB,sC,e0,e1,e2,e3,e4,e5,e6,e7,e8,e9,e10,e11,e12,e13,e14,e15,e16,e17,e18,e19,e20,e21,e22]
 clear hh hap e0 e1 e2 e3 e4 e5 e6 e7 e8 e9 e10 e11 e12 e13 e14 e15 e16 e17 e18 e19 e20 e21 e22
 replace X0:=(hb2.block _ z0).trans X0
 replace z0:=lL z0 hb2.size
 replace B:=bT B hb2
 clear hb2
 clear f0_0 f0_1 f0_2 f0_3 y0_0 y0_1 y0_2 y0_3
 obtain ⟨f0_0,f0_1,f0_2,f0_3,y0_0,y0_1,y0_2,y0_3⟩:=bx4 X0
 go_wp2
 refine bodyPost_ret (v:=.tuple #[.int .u64 0,.int .u64 0,.bool false]) (by simp [results,Tryz.results177]) rfl ?_
 exact ⟨rfl,B⟩
theorem down_5 (w:World):Calls Tryz.prog 174 #[.agg #[.bool false,.int .i64 (-4194304),.int .u64 0,.int .u64 0],.int .i64 1] w fun e w'=>e = .returned (.agg #[.bool false,.int .i64 (-4194303),.int .u64 0,.int .u64 0]) /\ Below w.heap.size w w':=by
 have hfb:=floatbits_run
 go_enter Tryz.func174,Tryz.ntmps174
 go_wp2_with fail
 obtain ⟨W1,hW1⟩:∃ W:World,W = (w.alloc (.cells #[.bool false,.int .i64 (-4194304),.int .u64 0,.int .u64 0] 125)).alloc (.cells #[.bool false,.int .i64 0,.int .u64 0,.int .u64 0] 125):=⟨_,rfl⟩
 rw [<- hW1]
 have X0:W1.heap[w.heap.size]? = some (.cells #[.bool false,.int .i64 (-4194304),.int .u64 0,.int .u64 0] 125 (0,0)):=by rw [hW1]; exact ((heap_alloc_old _ _ (by first | omega | (simp <;> omega))).trans (alloc_at sP))
 have X1:W1.heap[w.heap.size + 1]? = some (.cells #[.bool false,.int .i64 0,.int .u64 0,.int .u64 0] 125 (0,0)):=by rw [hW1]; exact (alloc_at sP)
 have z0:w.heap.size < W1.heap.size:=by rw [hW1]; simp <;> omega
 have z1:w.heap.size + 1 < W1.heap.size:=by rw [hW1]; simp <;> omega
 have B:Below w.heap.size w W1:=by rw [hW1]; exact (bT (bT (Below.refl w.heap.size w) (below_alloc _ _)) (below_alloc _ _))
 clear hW1
 refine (drop_5 _).mono ?_
 rintro e W2 ⟨rfl,hb2⟩
 replace X0:=(hb2.block _ z0).trans X0
 replace z0:=lL z0 hb2.size
 replace X1:=(hb2.block _ z1).trans X1
 replace z1:=lL z1 hb2.size
 replace B:=bT B hb2
 clear hb2
 obtain ⟨f0_0,f0_1,f0_2,f0_3,y0_0,y0_1,y0_2,y0_3⟩:=bx4 X0
 obtain ⟨f1_0,f1_1,f1_2,f1_3,y1_0,y1_1,y1_2,y1_3⟩:=bx4 X1
 go_wp2
 refine bodyPost_ret (v:=.agg #[.bool false,.int .i64 (-4194303),.int .u64 0,.int .u64 0]) (by simp [results,Tryz.results174,go_sem,f0_0,f0_1,f0_2,f0_3,y0_0,y0_1,y0_2,y0_3,f1_0,f1_1,f1_2,f1_3,y1_0,y1_1,y1_2,y1_3]) rfl ?_
 exact ⟨rfl,(Below.setCell (p:=⟨w.heap.size + 1,3,none⟩) (Below.setCell (p:=⟨w.heap.size + 1,2,none⟩) (Below.setCell (p:=⟨w.heap.size + 1,1,none⟩) (Below.setCell (p:=⟨w.heap.size + 1,0,none⟩) B (show w.heap.size <= w.heap.size + 1 by omega) _) (show w.heap.size <= w.heap.size + 1 by omega) _) (show w.heap.size <= w.heap.size + 1 by omega) _) (show w.heap.size <= w.heap.size + 1 by omega) _)⟩
theorem add64_1 (W:World):(callFunc 175 #[.int .u64 0,.int .u64 0,.int .u64 0]).run Tryz.prog W = .ok (.value (.tuple #[.int .u64 0,.int .u64 0])) W:=add_ex _ _ _ _ W rfl
theorem norm_1 (w:World):Calls Tryz.prog 135 #[.agg #[.bool false,.int .i64 (-4194303),.int .u64 0,.int .u64 0]] w fun e w'=>e = .returned (.agg #[.bool false,.int .i64 (-4194304),.int .u64 0,.int .u64 0]) /\ Below w.heap.size w w':=by
 have hfb:=floatbits_run
 go_enter Tryz.func135,Tryz.ntmps135
 go_upto_region 2 with fail
 obtain ⟨W1,hW1⟩:∃ W:World,W = (w.alloc (.cells #[.bool false,.int .i64 (-4194303),.int .u64 0,.int .u64 0] 125)).alloc (.cells #[.bool false,.int .i64 0,.int .u64 0,.int .u64 0] 125):=⟨_,rfl⟩
 rw [<- hW1]
 have X0:W1.heap[w.heap.size]? = some (.cells #[.bool false,.int .i64 (-4194303),.int .u64 0,.int .u64 0] 125 (0,0)):=by rw [hW1]; exact ((heap_alloc_old _ _ (by first | omega | (simp <;> omega))).trans (alloc_at sP))
 have X1:W1.heap[w.heap.size + 1]? = some (.cells #[.bool false,.int .i64 0,.int .u64 0,.int .u64 0] 125 (0,0)):=by rw [hW1]; exact (alloc_at sP)
 have z0:w.heap.size < W1.heap.size:=by rw [hW1]; simp <;> omega
 have z1:w.heap.size + 1 < W1.heap.size:=by rw [hW1]; simp <;> omega
 have B:Below w.heap.size w W1:=by rw [hW1]; exact (bT (bT (Below.refl w.heap.size w) (below_alloc _ _)) (below_alloc _ _))
 clear hW1
 obtain ⟨f0_0,f0_1,f0_2,f0_3,y0_0,y0_1,y0_2,y0_3⟩:=bx4 X0
 obtain ⟨f1_0,f1_1,f1_2,f1_3,y1_0,y1_1,y1_2,y1_3⟩:=bx4 X1
 go_upto_region 5 with fail
 obtain ⟨W2,hW2⟩:∃ W:World,W = ((W1.setCell ⟨w.heap.size,2,none⟩ (.int .u64 0)).setCell ⟨w.heap.size,3,none⟩ (.int .u64 0)).setCell ⟨w.heap.size,1,none⟩ (.int .i64 (-4194367)):=⟨_,rfl⟩
 rw [<- hW2]
 replace X0:W2.heap[w.heap.size]? = some (.cells #[.bool false,.int .i64 (-4194367),.int .u64 0,.int .u64 0] 125 (0,0)):=by rw [hW2]; exact (set_same (set_same (set_same X0 _) _) _)
 replace X1:W2.heap[w.heap.size + 1]? = some (.cells #[.bool false,.int .i64 0,.int .u64 0,.int .u64 0] 125 (0,0)):=by rw [hW2]; exact (set_other (set_other (set_other X1 oM _) oM _) oM _)
 replace z0:w.heap.size < W2.heap.size:=by rw [hW2]; simp <;> omega
 replace z1:w.heap.size + 1 < W2.heap.size:=by rw [hW2]; simp <;> omega
 replace B:Below w.heap.size w W2:=by rw [hW2]; exact (Below.setCell (p:=⟨w.heap.size,1,none⟩) (Below.setCell (p:=⟨w.heap.size,3,none⟩) (Below.setCell (p:=⟨w.heap.size,2,none⟩) B (show w.heap.size <= w.heap.size by omega) _) (show w.heap.size <= w.heap.size by omega) _) (show w.heap.size <= w.heap.size by omega) _)
 clear hW2
 clear f0_0 f0_1 f0_2 f0_3 y0_0 y0_1 y0_2 y0_3 f1_0 f1_1 f1_2 f1_3 y1_0 y1_1 y1_2 y1_3
 obtain ⟨f0_0,f0_1,f0_2,f0_3,y0_0,y0_1,y0_2,y0_3⟩:=bx4 X0
 obtain ⟨f1_0,f1_1,f1_2,f1_3,y1_0,y1_1,y1_2,y1_3⟩:=bx4 X1
 go_wp2
 refine bodyPost_ret (v:=.agg #[.bool false,.int .i64 (-4194304),.int .u64 0,.int .u64 0]) (by simp [results,Tryz.results135,go_sem,f0_0,f0_1,f0_2,f0_3,y0_0,y0_1,y0_2,y0_3,f1_0,f1_1,f1_2,f1_3,y1_0,y1_1,y1_2,y1_3]) rfl ?_
 exact ⟨rfl,(Below.setCell (p:=⟨w.heap.size + 1,3,none⟩) (Below.setCell (p:=⟨w.heap.size + 1,2,none⟩) (Below.setCell (p:=⟨w.heap.size + 1,1,none⟩) (Below.setCell (p:=⟨w.heap.size + 1,0,none⟩) B (show w.heap.size <= w.heap.size + 1 by omega) _) (show w.heap.size <= w.heap.size + 1 by omega) _) (show w.heap.size <= w.heap.size + 1 by omega) _) (show w.heap.size <= w.heap.size + 1 by omega) _)⟩
theorem wadd_3 (w:World):Calls Tryz.prog 136 #[.agg #[.bool false,.int .i64 (-4194304),.int .u64 0,.int .u64 0],.agg #[.bool false,.int .i64 (-4194304),.int .u64 0,.int .u64 0]] w fun e w'=>e = .returned (.agg #[.bool false,.int .i64 (-4194304),.int .u64 0,.int .u64 0]) /\ Below w.heap.size w w':=by
 have hfb:=floatbits_run
 have k0:∀ W,(callFunc 175 #[.int .u64 0,.int .u64 0,.int .u64 0]).run Tryz.prog W = .ok (.value (.tuple #[.int .u64 0,.int .u64 0])) W:=add64_1
 go_enter Tryz.func136,Tryz.ntmps136
 go_wp2_with fail
 obtain ⟨W1,hW1⟩:∃ W:World,W = ((w.alloc (.cells #[.bool false,.int .i64 (-4194304),.int .u64 0,.int .u64 0] 125)).alloc (.cells #[.bool false,.int .i64 (-4194304),.int .u64 0,.int .u64 0] 125)).alloc (.cells #[.bool false,.int .i64 0,.int .u64 0,.int .u64 0] 125):=⟨_,rfl⟩
 rw [<- hW1]
 have X0:W1.heap[w.heap.size]? = some (.cells #[.bool false,.int .i64 (-4194304),.int .u64 0,.int .u64 0] 125 (0,0)):=by rw [hW1]; exact ((heap_alloc_old _ _ (by first | omega | (simp <;> omega))).trans ((heap_alloc_old _ _ (by first | omega | (simp <;> omega))).trans (alloc_at sP)))
 have X1:W1.heap[w.heap.size + 1]? = some (.cells #[.bool false,.int .i64 (-4194304),.int .u64 0,.int .u64 0] 125 (0,0)):=by rw [hW1]; exact ((heap_alloc_old _ _ (by first | omega | (simp <;> omega))).trans (alloc_at sP))
 have X2:W1.heap[w.heap.size + 2]? = some (.cells #[.bool false,.int .i64 0,.int .u64 0,.int .u64 0] 125 (0,0)):=by rw [hW1]; exact (alloc_at sP)
 have z0:w.heap.size < W1.heap.size:=by rw [hW1]; simp <;> omega
 have z1:w.heap.size + 1 < W1.heap.size:=by rw [hW1]; simp <;> omega
 have z2:w.heap.size + 2 < W1.heap.size:=by rw [hW1]; simp <;> omega
 have B:Below w.heap.size w W1:=by rw [hW1]; exact (bT (bT (bT (Below.refl w.heap.size w) (below_alloc _ _)) (below_alloc _ _)) (below_alloc _ _))
 clear hW1
 refine (smaller_6 _).mono ?_
 rintro e W2 ⟨rfl,hb2⟩
 replace X0:=(hb2.block _ z0).trans X0
 replace z0:=lL z0 hb2.size
 replace X1:=(hb2.block _ z1).trans X1
 replace z1:=lL z1 hb2.size
 replace X2:=(hb2.block _ z2).trans X2
 replace z2:=lL z2 hb2.size
 replace B:=bT B hb2
 clear hb2
 obtain ⟨f0_0,f0_1,f0_2,f0_3,y0_0,y0_1,y0_2,y0_3⟩:=bx4 X0
 obtain ⟨f1_0,f1_1,f1_2,f1_3,y1_0,y1_1,y1_2,y1_3⟩:=bx4 X1
 obtain ⟨f2_0,f2_1,f2_2,f2_3,y2_0,y2_1,y2_2,y2_3⟩:=bx4 X2
 go_wp2_with fail
 refine (down_5 _).mono ?_
 rintro e W3 ⟨rfl,hb3⟩
 replace X0:=(hb3.block _ z0).trans X0
 replace z0:=lL z0 hb3.size
 replace X1:=(hb3.block _ z1).trans X1
 replace z1:=lL z1 hb3.size
 replace X2:=(hb3.block _ z2).trans X2
 replace z2:=lL z2 hb3.size
 replace B:=bT B hb3
 clear hb3
 clear f0_0 f0_1 f0_2 f0_3 y0_0 y0_1 y0_2 y0_3 f1_0 f1_1 f1_2 f1_3 y1_0 y1_1 y1_2 y1_3 f2_0 f2_1 f2_2 f2_3 y2_0 y2_1 y2_2 y2_3
 obtain ⟨f0_0,f0_1,f0_2,f0_3,y0_0,y0_1,y0_2,y0_3⟩:=bx4 X0
 obtain ⟨f1_0,f1_1,f1_2,f1_3,y1_0,y1_1,y1_2,y1_3⟩:=bx4 X1
 obtain ⟨f2_0,f2_1,f2_2,f2_3,y2_0,y2_1,y2_2,y2_3⟩:=bx4 X2
 go_wp2_with fail
 obtain ⟨W4,hW4⟩:∃ W:World,W = (((W3.setCell ⟨w.heap.size,0,none⟩ (.bool false)).setCell ⟨w.heap.size,1,none⟩ (.int .i64 (-4194303))).setCell ⟨w.heap.size,2,none⟩ (.int .u64 0)).setCell ⟨w.heap.size,3,none⟩ (.int .u64 0):=⟨_,rfl⟩
 rw [<- hW4]
 replace X0:W4.heap[w.heap.size]? = some (.cells #[.bool false,.int .i64 (-4194303),.int .u64 0,.int .u64 0] 125 (0,0)):=by rw [hW4]; exact (set_same (set_same (set_same (set_same X0 _) _) _) _)
 replace X1:W4.heap[w.heap.size + 1]? = some (.cells #[.bool false,.int .i64 (-4194304),.int .u64 0,.int .u64 0] 125 (0,0)):=by rw [hW4]; exact (set_other (set_other (set_other (set_other X1 oM _) oM _) oM _) oM _)
 replace X2:W4.heap[w.heap.size + 2]? = some (.cells #[.bool false,.int .i64 0,.int .u64 0,.int .u64 0] 125 (0,0)):=by rw [hW4]; exact (set_other (set_other (set_other (set_other X2 oM _) oM _) oM _) oM _)
 replace z0:w.heap.size < W4.heap.size:=by rw [hW4]; simp <;> omega
 replace z1:w.heap.size + 1 < W4.heap.size:=by rw [hW4]; simp <;> omega
 replace z2:w.heap.size + 2 < W4.heap.size:=by rw [hW4]; simp <;> omega
 replace B:Below w.heap.size w W4:=by rw [hW4]; exact (Below.setCell (p:=⟨w.heap.size,3,none⟩) (Below.setCell (p:=⟨w.heap.size,2,none⟩) (Below.setCell (p:=⟨w.heap.size,1,none⟩) (Below.setCell (p:=⟨w.heap.size,0,none⟩) B (show w.heap.size <= w.heap.size by omega) _) (show w.heap.size <= w.heap.size by omega) _) (show w.heap.size <= w.heap.size by omega) _) (show w.heap.size <= w.heap.size by omega) _)
 clear hW4
 refine (down_5 _).mono ?_
 rintro e W5 ⟨rfl,hb5⟩
 replace X0:=(hb5.block _ z0).trans X0
 replace z0:=lL z0 hb5.size
 replace X1:=(hb5.block _ z1).trans X1
 replace z1:=lL z1 hb5.size
 replace X2:=(hb5.block _ z2).trans X2
 replace z2:=lL z2 hb5.size
 replace B:=bT B hb5
 clear hb5
 clear f0_0 f0_1 f0_2 f0_3 y0_0 y0_1 y0_2 y0_3 f1_0 f1_1 f1_2 f1_3 y1_0 y1_1 y1_2 y1_3 f2_0 f2_1 f2_2 f2_3 y2_0 y2_1 y2_2 y2_3
 obtain ⟨f0_0,f0_1,f0_2,f0_3,y0_0,y0_1,y0_2,y0_3⟩:=bx4 X0
 obtain ⟨f1_0,f1_1,f1_2,f1_3,y1_0,y1_1,y1_2,y1_3⟩:=bx4 X1
 obtain ⟨f2_0,f2_1,f2_2,f2_3,y2_0,y2_1,y2_2,y2_3⟩:=bx4 X2
 go_wp2_with fail
 obtain ⟨W6,hW6⟩:∃ W:World,W = (((((W5.setCell ⟨w.heap.size + 1,0,none⟩ (.bool false)).setCell ⟨w.heap.size + 1,1,none⟩ (.int .i64 (-4194303))).setCell ⟨w.heap.size + 1,2,none⟩ (.int .u64 0)).setCell ⟨w.heap.size + 1,3,none⟩ (.int .u64 0)).setCell ⟨w.heap.size,3,none⟩ (.int .u64 0)).setCell ⟨w.heap.size,2,none⟩ (.int .u64 0):=⟨_,rfl⟩
 rw [<- hW6]
 replace X0:W6.heap[w.heap.size]? = some (.cells #[.bool false,.int .i64 (-4194303),.int .u64 0,.int .u64 0] 125 (0,0)):=by rw [hW6]; exact (set_same (set_same (set_other (set_other (set_other (set_other X0 oM _) oM _) oM _) oM _) _) _)
 replace X1:W6.heap[w.heap.size + 1]? = some (.cells #[.bool false,.int .i64 (-4194303),.int .u64 0,.int .u64 0] 125 (0,0)):=by rw [hW6]; exact (set_other (set_other (set_same (set_same (set_same (set_same X1 _) _) _) _) oM _) oM _)
 replace X2:W6.heap[w.heap.size + 2]? = some (.cells #[.bool false,.int .i64 0,.int .u64 0,.int .u64 0] 125 (0,0)):=by rw [hW6]; exact (set_other (set_other (set_other (set_other (set_other (set_other X2 oM _) oM _) oM _) oM _) oM _) oM _)
 replace z0:w.heap.size < W6.heap.size:=by rw [hW6]; simp <;> omega
 replace z1:w.heap.size + 1 < W6.heap.size:=by rw [hW6]; simp <;> omega
 replace z2:w.heap.size + 2 < W6.heap.size:=by rw [hW6]; simp <;> omega
 replace B:Below w.heap.size w W6:=by rw [hW6]; exact (Below.setCell (p:=⟨w.heap.size,2,none⟩) (Below.setCell (p:=⟨w.heap.size,3,none⟩) (Below.setCell (p:=⟨w.heap.size + 1,3,none⟩) (Below.setCell (p:=⟨w.heap.size + 1,2,none⟩) (Below.setCell (p:=⟨w.heap.size + 1,1,none⟩) (Below.setCell (p:=⟨w.heap.size + 1,0,none⟩) B (show w.heap.size <= w.heap.size + 1 by omega) _) (show w.heap.size <= w.heap.size + 1 by omega) _) (show w.heap.size <= w.heap.size + 1 by omega) _) (show w.heap.size <= w.heap.size + 1 by omega) _) (show w.heap.size <= w.heap.size by omega) _) (show w.heap.size <= w.heap.size by omega) _)
 clear hW6
 refine (norm_1 _).mono ?_
 rintro e W7 ⟨rfl,hb7⟩
 replace X0:=(hb7.block _ z0).trans X0
 replace z0:=lL z0 hb7.size
 replace X1:=(hb7.block _ z1).trans X1
 replace z1:=lL z1 hb7.size
 replace X2:=(hb7.block _ z2).trans X2
 replace z2:=lL z2 hb7.size
 replace B:=bT B hb7
 clear hb7
 clear f0_0 f0_1 f0_2 f0_3 y0_0 y0_1 y0_2 y0_3 f1_0 f1_1 f1_2 f1_3 y1_0 y1_1 y1_2 y1_3 f2_0 f2_1 f2_2 f2_3 y2_0 y2_1 y2_2 y2_3
 obtain ⟨f0_0,f0_1,f0_2,f0_3,y0_0,y0_1,y0_2,y0_3⟩:=bx4 X0
 obtain ⟨f1_0,f1_1,f1_2,f1_3,y1_0,y1_1,y1_2,y1_3⟩:=bx4 X1
 obtain ⟨f2_0,f2_1,f2_2,f2_3,y2_0,y2_1,y2_2,y2_3⟩:=bx4 X2
 go_wp2
 refine bodyPost_ret (v:=.agg #[.bool false,.int .i64 (-4194304),.int .u64 0,.int .u64 0]) (by simp [results,Tryz.results136,go_sem,f0_0,f0_1,f0_2,f0_3,y0_0,y0_1,y0_2,y0_3,f1_0,f1_1,f1_2,f1_3,y1_0,y1_1,y1_2,y1_3,f2_0,f2_1,f2_2,f2_3,y2_0,y2_1,y2_2,y2_3]) rfl ?_
 exact ⟨rfl,(Below.setCell (p:=⟨w.heap.size + 2,3,none⟩) (Below.setCell (p:=⟨w.heap.size + 2,2,none⟩) (Below.setCell (p:=⟨w.heap.size + 2,1,none⟩) (Below.setCell (p:=⟨w.heap.size + 2,0,none⟩) B (show w.heap.size <= w.heap.size + 2 by omega) _) (show w.heap.size <= w.heap.size + 2 by omega) _) (show w.heap.size <= w.heap.size + 2 by omega) _) (show w.heap.size <= w.heap.size + 2 by omega) _)⟩
end Go.Proofs.YtjodlmanheeajaaGreatDoor
