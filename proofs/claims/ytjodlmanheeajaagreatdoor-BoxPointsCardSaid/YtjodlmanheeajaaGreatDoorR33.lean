import Derived.Test.YtjodlmanheeajaaGreatDoorR32
import Derived.Test.YtjodlmanheeajaaGreatDoorR02
set_option linter.unusedVariables false
set_option linter.unusedSimpArgs false
set_option maxRecDepth 100000
set_option maxHeartbeats 8000000
namespace Go.Proofs.YtjodlmanheeajaaGreatDoor
open Go.RowKit
theorem drop_6 (w:World):Calls Tryz.prog 177 #[.agg #[.bool false,.int .i64 (-126),.int .u64 9223372036854775808,.int .u64 0],.int .i64 1] w fun e w'=>e = .returned (.tuple #[.int .u64 4611686018427387904,.int .u64 0,.bool false]) /\ Below w.heap.size w w':=by
 have hfb:=floatbits_run
 have k0:bits BinOp.or IntKind.u64 0 0 = 0:=dK
 go_enter Tryz.func177,Tryz.ntmps177
 go_upto_region 2 with fail
 obtain ⟨W1,hW1⟩:∃ W:World,W = w.alloc (.cells #[.bool false,.int .i64 (-126),.int .u64 9223372036854775808,.int .u64 0] 125):=⟨_,rfl⟩
 rw [<- hW1]
 have X0:W1.heap[w.heap.size]? = some (.cells #[.bool false,.int .i64 (-126),.int .u64 9223372036854775808,.int .u64 0] 125 (0,0)):=by rw [hW1]; exact (alloc_at sP)
 have z0:w.heap.size < W1.heap.size:=by rw [hW1]; simp <;> omega
 have B:Below w.heap.size w W1:=by rw [hW1]; exact (bT (Below.refl w.heap.size w) (below_alloc _ _))
 clear hW1
 obtain ⟨f0_0,f0_1,f0_2,f0_3,y0_0,y0_1,y0_2,y0_3⟩:=bx4 X0
 refine region_lin [.val (kIs (.pointer (some ⟨w.heap.size,2,none⟩))),.val (kIs (.int .u64 9223372036854775808)),.val (kIs (.int .i64 1)),.val (kIs (.int .u64 4611686018427387904)),.val (kIs (.pointer (some ⟨w.heap.size,2,none⟩))),.val (kIs (.int .u64 9223372036854775808)),.val (kIs (.int .i64 1)),.val (kIs (.int .i64 63)),.val (kIs (.int .u64 0)),.val (kIs (.pointer (some ⟨w.heap.size,3,none⟩))),.val (kIs (.int .u64 0)),.val (kIs (.int .i64 1)),.val (kIs (.int .u64 0)),.val (kIs (.int .u64 0)),.val (kIs (.pointer (some ⟨w.heap.size,3,none⟩))),.val (kIs (.int .u64 0)),.val (kIs (.int .i64 1)),.val (kIs (.int .i64 63)),.val (kIs (.int .u64 0)),.val (kIs (.bool false)),.val (kIs (.int .u64 4611686018427387904)),.val (kIs (.int .u64 0)),.val (kIs (.bool false))]
  kR kR kR kR kR ⟨Stab.b (stab_is _),Stab.b (stab_is _),Stab.b (stab_is _),Stab.b (stab_is _),Stab.b (stab_is _),Stab.b (stab_is _),Stab.b (stab_is _),Stab.b (stab_is _),Stab.b (stab_is _),Stab.b (stab_is _),Stab.b (stab_is _),Stab.b (stab_is _),Stab.b (stab_is _),Stab.b (stab_is _),Stab.b (stab_is _),Stab.b (stab_is _),Stab.b (stab_is _),Stab.b (stab_is _),Stab.b (stab_is _),Stab.b (stab_is _),Stab.b (stab_is _),Stab.b (stab_is _),Stab.b (stab_is _),trivial⟩ sP ⟨?_,?_,?_,?_,?_,?_,?_,?_,?_,?_,?_,?_,?_,?_,?_,?_,?_,?_,?_,?_,?_,?_,?_,trivial⟩ ?_
 ·exact obq
 ·intro ts W hb hB hp; have h0:ts 0 = _:=hp 0 kR; intro K hK; simp only [fillT,zA,Nat.reduceAdd,sA,sB,sC,h0] at hK ⊢; have HK:=hid hK; clear hK hp; obtain ⟨p0,p1,p2,p3,-,-,-,-⟩:=bx4 ((hb.block _ z0).trans X0); refine ⟨?_⟩; go_simp; exact HK.out _ _ kk rfB
 ·exact obq
 ·intro ts W hb hB hp; have h1:ts 1 = _:=hp 1 kR; have h2:ts 2 = _:=hp 2 kR; intro K hK; simp only [fillT,zA,Nat.reduceAdd,sA,sB,sC,h1,h2] at hK ⊢; have HK:=hid hK; clear hK hp; refine ⟨?_⟩; go_simp; exact HK.out _ _ kk rfB
 ·exact obq
 ·intro ts W hb hB hp; have h4:ts 4 = _:=hp 4 kR; intro K hK; simp only [fillT,zA,Nat.reduceAdd,sA,sB,sC,h4] at hK ⊢; have HK:=hid hK; clear hK hp; obtain ⟨p0,p1,p2,p3,-,-,-,-⟩:=bx4 ((hb.block _ z0).trans X0); refine ⟨?_⟩; go_simp; exact HK.out _ _ kk rfB
 ·exact obq
 ·intro ts W hb hB hp; have h6:ts 6 = _:=hp 6 kR; intro K hK; simp only [fillT,zA,Nat.reduceAdd,sA,sB,sC,h6] at hK ⊢; have HK:=hid hK; clear hK hp; refine ⟨?_⟩; go_simp; exact HK.out _ _ kk rfB
 ·intro ts W hb hB hp; have h5:ts 5 = _:=hp 5 kR; have h7:ts 7 = _:=hp 7 kR; intro K hK; simp only [fillT,zA,Nat.reduceAdd,sA,sB,sC,h5,h7] at hK ⊢; have HK:=hid hK; clear hK hp; refine ⟨?_⟩; go_simp; exact HK.out _ _ kk rfB
 ·exact obq
 ·intro ts W hb hB hp; have h9:ts 9 = _:=hp 9 kR; intro K hK; simp only [fillT,zA,Nat.reduceAdd,sA,sB,sC,h9] at hK ⊢; have HK:=hid hK; clear hK hp; obtain ⟨p0,p1,p2,p3,-,-,-,-⟩:=bx4 ((hb.block _ z0).trans X0); refine ⟨?_⟩; go_simp; exact HK.out _ _ kk rfB
 ·exact obq
 ·intro ts W hb hB hp; have h10:ts 10 = _:=hp 10 kR; have h11:ts 11 = _:=hp 11 kR; intro K hK; simp only [fillT,zA,Nat.reduceAdd,sA,sB,sC,h10,h11] at hK ⊢; have HK:=hid hK; clear hK hp; refine ⟨?_⟩; go_simp; exact HK.out _ _ kk rfB
 ·intro ts W hb hB hp; have h8:ts 8 = _:=hp 8 kR; have h12:ts 12 = _:=hp 12 kR; intro K hK; simp only [fillT,zA,Nat.reduceAdd,sA,sB,sC,h8,h12] at hK ⊢; have HK:=hid hK; clear hK hp; refine ⟨?_⟩; go_simp; exact HK.out _ _ kk rfB
 ·exact obq
 ·intro ts W hb hB hp; have h14:ts 14 = _:=hp 14 kR; intro K hK; simp only [fillT,zA,Nat.reduceAdd,sA,sB,sC,h14] at hK ⊢; have HK:=hid hK; clear hK hp; obtain ⟨p0,p1,p2,p3,-,-,-,-⟩:=bx4 ((hb.block _ z0).trans X0); refine ⟨?_⟩; go_simp; exact HK.out _ _ kk rfB
 ·exact obq
 ·intro ts W hb hB hp; have h16:ts 16 = _:=hp 16 kR; intro K hK; simp only [fillT,zA,Nat.reduceAdd,sA,sB,sC,h16] at hK ⊢; have HK:=hid hK; clear hK hp; refine ⟨?_⟩; go_simp; exact HK.out _ _ kk rfB
 ·intro ts W hb hB hp; have h15:ts 15 = _:=hp 15 kR; have h17:ts 17 = _:=hp 17 kR; intro K hK; simp only [fillT,zA,Nat.reduceAdd,sA,sB,sC,h15,h17] at hK ⊢; have HK:=hid hK; clear hK hp; refine ⟨?_⟩; go_simp; exact HK.out _ _ kk rfB
 ·intro ts W hb hB hp; have h18:ts 18 = _:=hp 18 kR; intro K hK; simp only [fillT,zA,Nat.reduceAdd,sA,sB,sC,h18] at hK ⊢; have HK:=hid hK; clear hK hp; refine ⟨?_⟩; go_simp; exact HK.out _ _ kk rfB
 ·intro ts W hb hB hp; have h3:ts 3 = _:=hp 3 kR; intro K hK; simp only [fillT,zA,Nat.reduceAdd,sA,sB,sC,h3] at hK ⊢; have HK:=hid hK; clear hK hp; refine ⟨?_⟩; go_simp; exact HK.out _ _ kk rfB
 ·intro ts W hb hB hp; have h13:ts 13 = _:=hp 13 kR; intro K hK; simp only [fillT,zA,Nat.reduceAdd,sA,sB,sC,h13] at hK ⊢; have HK:=hid hK; clear hK hp; refine ⟨?_⟩; go_simp; exact HK.out _ _ kk rfB
 ·intro ts W hb hB hp; have h19:ts 19 = _:=hp 19 kR; intro K hK; simp only [fillT,zA,Nat.reduceAdd,sA,sB,sC,h19] at hK ⊢; have HK:=hid hK; clear hK hp; refine ⟨?_⟩; go_simp; exact HK.out _ _ kk rfB
 intro ts W2 hb2 hh hap
 have e0:=held_is (hh 0 sP) rfl
 have e1:=held_is (hh 1 sP) rfl
 have e2:=held_is (hh 2 sP) rfl
 have e3:=held_is (hh 3 sP) rfl
 have e4:=held_is (hh 4 sP) rfl
 have e5:=held_is (hh 5 sP) rfl
 have e6:=held_is (hh 6 sP) rfl
 have e7:=held_is (hh 7 sP) rfl
 have e8:=held_is (hh 8 sP) rfl
 have e9:=held_is (hh 9 sP) rfl
 have e10:=held_is (hh 10 sP) rfl
 have e11:=held_is (hh 11 sP) rfl
 have e12:=held_is (hh 12 sP) rfl
 have e13:=held_is (hh 13 sP) rfl
 have e14:=held_is (hh 14 sP) rfl
 have e15:=held_is (hh 15 sP) rfl
 have e16:=held_is (hh 16 sP) rfl
 have e17:=held_is (hh 17 sP) rfl
 have e18:=held_is (hh 18 sP) rfl
 have e19:=held_is (hh 19 sP) rfl
 have e20:=held_is (hh 20 sP) rfl
 have e21:=held_is (hh 21 sP) rfl
 have e22:=held_is (hh 22 sP) rfl
 simp only [fillT,zA,Nat.reduceAdd,sA,sB,sC,e0,e1,e2,e3,e4,e5,e6,e7,e8,e9,e10,e11,e12,e13,e14,e15,e16,e17,e18,e19,e20,e21,e22]
 clear hh hap e0 e1 e2 e3 e4 e5 e6 e7 e8 e9 e10 e11 e12 e13 e14 e15 e16 e17 e18 e19 e20 e21 e22
 replace X0:=(hb2.block _ z0).trans X0
 replace z0:=lL z0 hb2.size
 replace B:=bT B hb2
 clear hb2
 clear f0_0 f0_1 f0_2 f0_3 y0_0 y0_1 y0_2 y0_3
 obtain ⟨f0_0,f0_1,f0_2,f0_3,y0_0,y0_1,y0_2,y0_3⟩:=bx4 X0
 go_wp2
 refine bodyPost_ret (v:=.tuple #[.int .u64 4611686018427387904,.int .u64 0,.bool false]) (by simp [results,Tryz.results177]) rfl ?_
 exact ⟨rfl,B⟩
theorem down_6 (w:World):Calls Tryz.prog 174 #[.agg #[.bool false,.int .i64 (-126),.int .u64 9223372036854775808,.int .u64 0],.int .i64 1] w fun e w'=>e = .returned (.agg #[.bool false,.int .i64 (-125),.int .u64 4611686018427387904,.int .u64 0]) /\ Below w.heap.size w w':=by
 have hfb:=floatbits_run
 go_enter Tryz.func174,Tryz.ntmps174
 go_wp2_with fail
 obtain ⟨W1,hW1⟩:∃ W:World,W = (w.alloc (.cells #[.bool false,.int .i64 (-126),.int .u64 9223372036854775808,.int .u64 0] 125)).alloc (.cells #[.bool false,.int .i64 0,.int .u64 0,.int .u64 0] 125):=⟨_,rfl⟩
 rw [<- hW1]
 have X0:W1.heap[w.heap.size]? = some (.cells #[.bool false,.int .i64 (-126),.int .u64 9223372036854775808,.int .u64 0] 125 (0,0)):=by rw [hW1]; exact ((heap_alloc_old _ _ (by first | omega | (simp <;> omega))).trans (alloc_at sP))
 have X1:W1.heap[w.heap.size + 1]? = some (.cells #[.bool false,.int .i64 0,.int .u64 0,.int .u64 0] 125 (0,0)):=by rw [hW1]; exact (alloc_at sP)
 have z0:w.heap.size < W1.heap.size:=by rw [hW1]; simp <;> omega
 have z1:w.heap.size + 1 < W1.heap.size:=by rw [hW1]; simp <;> omega
 have B:Below w.heap.size w W1:=by rw [hW1]; exact (bT (bT (Below.refl w.heap.size w) (below_alloc _ _)) (below_alloc _ _))
 clear hW1
 refine (drop_6 _).mono ?_
 rintro e W2 ⟨rfl,hb2⟩
 replace X0:=(hb2.block _ z0).trans X0
 replace z0:=lL z0 hb2.size
 replace X1:=(hb2.block _ z1).trans X1
 replace z1:=lL z1 hb2.size
 replace B:=bT B hb2
 clear hb2
 obtain ⟨f0_0,f0_1,f0_2,f0_3,y0_0,y0_1,y0_2,y0_3⟩:=bx4 X0
 obtain ⟨f1_0,f1_1,f1_2,f1_3,y1_0,y1_1,y1_2,y1_3⟩:=bx4 X1
 go_wp2
 refine bodyPost_ret (v:=.agg #[.bool false,.int .i64 (-125),.int .u64 4611686018427387904,.int .u64 0]) (by simp [results,Tryz.results174,go_sem,f0_0,f0_1,f0_2,f0_3,y0_0,y0_1,y0_2,y0_3,f1_0,f1_1,f1_2,f1_3,y1_0,y1_1,y1_2,y1_3]) rfl ?_
 exact ⟨rfl,(Below.setCell (p:=⟨w.heap.size + 1,3,none⟩) (Below.setCell (p:=⟨w.heap.size + 1,2,none⟩) (Below.setCell (p:=⟨w.heap.size + 1,1,none⟩) (Below.setCell (p:=⟨w.heap.size + 1,0,none⟩) B (show w.heap.size <= w.heap.size + 1 by omega) _) (show w.heap.size <= w.heap.size + 1 by omega) _) (show w.heap.size <= w.heap.size + 1 by omega) _) (show w.heap.size <= w.heap.size + 1 by omega) _)⟩
theorem add64_2 (W:World):(callFunc 175 #[.int .u64 4611686018427387904,.int .u64 4611686018427387904,.int .u64 0]).run Tryz.prog W = .ok (.value (.tuple #[.int .u64 9223372036854775808,.int .u64 0])) W:=add_ex _ _ _ _ W rfl
theorem lz_9223372036854775808 (w:World):Calls Tryz.prog 172 #[.int .u64 9223372036854775808] w fun e w'=>e = .returned (.int .i64 0) /\ w = w':=lz_run 9223372036854775808 64 w oM dK oM
theorem norm_2 (w:World):Calls Tryz.prog 135 #[.agg #[.bool false,.int .i64 (-125),.int .u64 9223372036854775808,.int .u64 0]] w fun e w'=>e = .returned (.agg #[.bool false,.int .i64 (-125),.int .u64 9223372036854775808,.int .u64 0]) /\ Below w.heap.size w w':=by
 have hfb:=floatbits_run
 have k0:bits BinOp.or IntKind.u64 9223372036854775808 0 = 9223372036854775808:=dK
 go_enter Tryz.func135,Tryz.ntmps135
 go_wp2_with fail
 refine (lz_9223372036854775808 _).mono ?_
 rintro e w9 ⟨rfl,rfl⟩
 go_upto_region 7 with fail
 obtain ⟨W1,hW1⟩:∃ W:World,W = (w.alloc (.cells #[.bool false,.int .i64 (-125),.int .u64 9223372036854775808,.int .u64 0] 125)).alloc (.cells #[.bool false,.int .i64 0,.int .u64 0,.int .u64 0] 125):=⟨_,rfl⟩
 rw [<- hW1]
 have X0:W1.heap[w.heap.size]? = some (.cells #[.bool false,.int .i64 (-125),.int .u64 9223372036854775808,.int .u64 0] 125 (0,0)):=by rw [hW1]; exact ((heap_alloc_old _ _ (by first | omega | (simp <;> omega))).trans (alloc_at sP))
 have X1:W1.heap[w.heap.size + 1]? = some (.cells #[.bool false,.int .i64 0,.int .u64 0,.int .u64 0] 125 (0,0)):=by rw [hW1]; exact (alloc_at sP)
 have z0:w.heap.size < W1.heap.size:=by rw [hW1]; simp <;> omega
 have z1:w.heap.size + 1 < W1.heap.size:=by rw [hW1]; simp <;> omega
 have B:Below w.heap.size w W1:=by rw [hW1]; exact (bT (bT (Below.refl w.heap.size w) (below_alloc _ _)) (below_alloc _ _))
 clear hW1
 obtain ⟨f0_0,f0_1,f0_2,f0_3,y0_0,y0_1,y0_2,y0_3⟩:=bx4 X0
 obtain ⟨f1_0,f1_1,f1_2,f1_3,y1_0,y1_1,y1_2,y1_3⟩:=bx4 X1
 refine region_last [.val (kIs (.pointer (some ⟨w.heap.size,2,none⟩))),.val (kIs (.int .u64 9223372036854775808)),.val (kIs (.int .i64 0)),.val (kIs (.int .u64 9223372036854775808)),.val (kIs (.pointer (some ⟨w.heap.size,3,none⟩))),.val (kIs (.int .u64 0)),.val (kIs (.int .i64 0)),.val (kIs (.int .i64 64)),.val (kIs (.int .u64 0)),.val (kIs (.int .u64 9223372036854775808)),.val (kIs (.pointer (some ⟨w.heap.size,2,none⟩)))]
  kR kR kR kR kR ⟨Stab.b (stab_is _),Stab.b (stab_is _),Stab.b (stab_is _),Stab.b (stab_is _),Stab.b (stab_is _),Stab.b (stab_is _),Stab.b (stab_is _),Stab.b (stab_is _),Stab.b (stab_is _),Stab.b (stab_is _),Stab.b (stab_is _),trivial⟩ sP (ol:=_) rfl kR ⟨?_,?_,?_,?_,?_,?_,?_,?_,?_,?_,?_,trivial⟩ ?_
 ·exact obq
 ·intro ts W hb hB hp; have h0:ts 0 = _:=hp 0 kR; intro K hK; simp only [fillT,zA,Nat.reduceAdd,sA,sB,sC,h0] at hK ⊢; have HK:=hid hK; clear hK hp; obtain ⟨p0,p1,p2,p3,-,-,-,-⟩:=bx4 ((hb.block _ z0).trans X0); refine ⟨?_⟩; go_simp; exact HK.out _ _ kk rfB
 ·exact obq
 ·intro ts W hb hB hp; have h1:ts 1 = _:=hp 1 kR; have h2:ts 2 = _:=hp 2 kR; intro K hK; simp only [fillT,zA,Nat.reduceAdd,sA,sB,sC,h1,h2] at hK ⊢; have HK:=hid hK; clear hK hp; refine ⟨?_⟩; go_simp; exact HK.out _ _ kk rfB
 ·exact obq
 ·intro ts W hb hB hp; have h4:ts 4 = _:=hp 4 kR; intro K hK; simp only [fillT,zA,Nat.reduceAdd,sA,sB,sC,h4] at hK ⊢; have HK:=hid hK; clear hK hp; obtain ⟨p0,p1,p2,p3,-,-,-,-⟩:=bx4 ((hb.block _ z0).trans X0); refine ⟨?_⟩; go_simp; exact HK.out _ _ kk rfB
 ·exact obq
 ·intro ts W hb hB hp; have h6:ts 6 = _:=hp 6 kR; intro K hK; simp only [fillT,zA,Nat.reduceAdd,sA,sB,sC,h6] at hK ⊢; have HK:=hid hK; clear hK hp; refine ⟨?_⟩; go_simp; exact HK.out _ _ kk rfB
 ·intro ts W hb hB hp; have h5:ts 5 = _:=hp 5 kR; have h7:ts 7 = _:=hp 7 kR; intro K hK; simp only [fillT,zA,Nat.reduceAdd,sA,sB,sC,h5,h7] at hK ⊢; have HK:=hid hK; clear hK hp; refine ⟨?_⟩; go_simp; exact HK.out _ _ kk rfB
 ·intro ts W hb hB hp; have h3:ts 3 = _:=hp 3 kR; have h8:ts 8 = _:=hp 8 kR; intro K hK; simp only [fillT,zA,Nat.reduceAdd,sA,sB,sC,h3,h8] at hK ⊢; have HK:=hid hK; clear hK hp; refine ⟨?_⟩; go_simp; exact HK.out _ _ kk rfB
 ·exact obq
 intro ts W2 hb2 hh hap K hK
 have e0:=held_is (hh 0 sP) rfl
 have e1:=held_is (hh 1 sP) rfl
 have e2:=held_is (hh 2 sP) rfl
 have e3:=held_is (hh 3 sP) rfl
 have e4:=held_is (hh 4 sP) rfl
 have e5:=held_is (hh 5 sP) rfl
 have e6:=held_is (hh 6 sP) rfl
 have e7:=held_is (hh 7 sP) rfl
 have e8:=held_is (hh 8 sP) rfl
 have e9:=held_is (hh 9 sP) rfl
 have e10:=held_is (hh 10 sP) rfl
 have HK:=hid hK
 clear hK
 simp only [fillT,zA,Nat.reduceAdd,sA,sB,sC,e0,e1,e2,e3,e4,e5,e6,e7,e8,e9,e10]
 clear hh hap e0 e1 e2 e3 e4 e5 e6 e7 e8 e9 e10
 replace X0:=(hb2.block _ z0).trans X0
 replace z0:=lL z0 hb2.size
 replace X1:=(hb2.block _ z1).trans X1
 replace z1:=lL z1 hb2.size
 replace B:=bT B hb2
 clear hb2
 clear f0_0 f0_1 f0_2 f0_3 y0_0 y0_1 y0_2 y0_3 f1_0 f1_1 f1_2 f1_3 y1_0 y1_1 y1_2 y1_3
 obtain ⟨f0_0,f0_1,f0_2,f0_3,y0_0,y0_1,y0_2,y0_3⟩:=bx4 X0
 obtain ⟨f1_0,f1_1,f1_2,f1_3,y1_0,y1_1,y1_2,y1_3⟩:=bx4 X1
 refine ⟨?_⟩
 go_simp
 refine HK.out _ _ ?_
 clear HK
 go_upto_region 10 with fail
 obtain ⟨W3,hW3⟩:∃ W:World,W = ((W2.setCell ⟨w.heap.size,2,none⟩ (.int .u64 9223372036854775808)).setCell ⟨w.heap.size,3,none⟩ (.int .u64 0)).setCell ⟨w.heap.size,1,none⟩ (.int .i64 (-125)):=⟨_,rfl⟩
 rw [<- hW3]
 replace X0:W3.heap[w.heap.size]? = some (.cells #[.bool false,.int .i64 (-125),.int .u64 9223372036854775808,.int .u64 0] 125 (0,0)):=by rw [hW3]; exact (set_same (set_same (set_same X0 _) _) _)
 replace X1:W3.heap[w.heap.size + 1]? = some (.cells #[.bool false,.int .i64 0,.int .u64 0,.int .u64 0] 125 (0,0)):=by rw [hW3]; exact (set_other (set_other (set_other X1 oM _) oM _) oM _)
 replace z0:w.heap.size < W3.heap.size:=by rw [hW3]; simp <;> omega
 replace z1:w.heap.size + 1 < W3.heap.size:=by rw [hW3]; simp <;> omega
 replace B:Below w.heap.size w W3:=by rw [hW3]; exact (Below.setCell (p:=⟨w.heap.size,1,none⟩) (Below.setCell (p:=⟨w.heap.size,3,none⟩) (Below.setCell (p:=⟨w.heap.size,2,none⟩) B (show w.heap.size <= w.heap.size by omega) _) (show w.heap.size <= w.heap.size by omega) _) (show w.heap.size <= w.heap.size by omega) _)
 clear hW3
 clear f0_0 f0_1 f0_2 f0_3 y0_0 y0_1 y0_2 y0_3 f1_0 f1_1 f1_2 f1_3 y1_0 y1_1 y1_2 y1_3
 obtain ⟨f0_0,f0_1,f0_2,f0_3,y0_0,y0_1,y0_2,y0_3⟩:=bx4 X0
 obtain ⟨f1_0,f1_1,f1_2,f1_3,y1_0,y1_1,y1_2,y1_3⟩:=bx4 X1
 go_wp2
 refine bodyPost_ret (v:=.agg #[.bool false,.int .i64 (-125),.int .u64 9223372036854775808,.int .u64 0]) (by simp [results,Tryz.results135,go_sem,f0_0,f0_1,f0_2,f0_3,y0_0,y0_1,y0_2,y0_3,f1_0,f1_1,f1_2,f1_3,y1_0,y1_1,y1_2,y1_3]) rfl ?_
 exact ⟨rfl,(Below.setCell (p:=⟨w.heap.size + 1,3,none⟩) (Below.setCell (p:=⟨w.heap.size + 1,2,none⟩) (Below.setCell (p:=⟨w.heap.size + 1,1,none⟩) (Below.setCell (p:=⟨w.heap.size + 1,0,none⟩) B (show w.heap.size <= w.heap.size + 1 by omega) _) (show w.heap.size <= w.heap.size + 1 by omega) _) (show w.heap.size <= w.heap.size + 1 by omega) _) (show w.heap.size <= w.heap.size + 1 by omega) _)⟩
theorem wadd_4 (w:World):Calls Tryz.prog 136 #[.agg #[.bool false,.int .i64 (-126),.int .u64 9223372036854775808,.int .u64 0],.agg #[.bool false,.int .i64 (-126),.int .u64 9223372036854775808,.int .u64 0]] w fun e w'=>e = .returned (.agg #[.bool false,.int .i64 (-125),.int .u64 9223372036854775808,.int .u64 0]) /\ Below w.heap.size w w':=by
 have hfb:=floatbits_run
 have k0:∀ W,(callFunc 175 #[.int .u64 0,.int .u64 0,.int .u64 0]).run Tryz.prog W = .ok (.value (.tuple #[.int .u64 0,.int .u64 0])) W:=add64_1
 have k1:∀ W,(callFunc 175 #[.int .u64 4611686018427387904,.int .u64 4611686018427387904,.int .u64 0]).run Tryz.prog W = .ok (.value (.tuple #[.int .u64 9223372036854775808,.int .u64 0])) W:=add64_2
 go_enter Tryz.func136,Tryz.ntmps136
 go_wp2_with fail
 obtain ⟨W1,hW1⟩:∃ W:World,W = ((w.alloc (.cells #[.bool false,.int .i64 (-126),.int .u64 9223372036854775808,.int .u64 0] 125)).alloc (.cells #[.bool false,.int .i64 (-126),.int .u64 9223372036854775808,.int .u64 0] 125)).alloc (.cells #[.bool false,.int .i64 0,.int .u64 0,.int .u64 0] 125):=⟨_,rfl⟩
 rw [<- hW1]
 have X0:W1.heap[w.heap.size]? = some (.cells #[.bool false,.int .i64 (-126),.int .u64 9223372036854775808,.int .u64 0] 125 (0,0)):=by rw [hW1]; exact ((heap_alloc_old _ _ (by first | omega | (simp <;> omega))).trans ((heap_alloc_old _ _ (by first | omega | (simp <;> omega))).trans (alloc_at sP)))
 have X1:W1.heap[w.heap.size + 1]? = some (.cells #[.bool false,.int .i64 (-126),.int .u64 9223372036854775808,.int .u64 0] 125 (0,0)):=by rw [hW1]; exact ((heap_alloc_old _ _ (by first | omega | (simp <;> omega))).trans (alloc_at sP))
 have X2:W1.heap[w.heap.size + 2]? = some (.cells #[.bool false,.int .i64 0,.int .u64 0,.int .u64 0] 125 (0,0)):=by rw [hW1]; exact (alloc_at sP)
 have z0:w.heap.size < W1.heap.size:=by rw [hW1]; simp <;> omega
 have z1:w.heap.size + 1 < W1.heap.size:=by rw [hW1]; simp <;> omega
 have z2:w.heap.size + 2 < W1.heap.size:=by rw [hW1]; simp <;> omega
 have B:Below w.heap.size w W1:=by rw [hW1]; exact (bT (bT (bT (Below.refl w.heap.size w) (below_alloc _ _)) (below_alloc _ _)) (below_alloc _ _))
 clear hW1
 refine (smaller_3 _).mono ?_
 rintro e W2 ⟨rfl,hb2⟩
 replace X0:=(hb2.block _ z0).trans X0
 replace z0:=lL z0 hb2.size
 replace X1:=(hb2.block _ z1).trans X1
 replace z1:=lL z1 hb2.size
 replace X2:=(hb2.block _ z2).trans X2
 replace z2:=lL z2 hb2.size
 replace B:=bT B hb2
 clear hb2
 obtain ⟨f0_0,f0_1,f0_2,f0_3,y0_0,y0_1,y0_2,y0_3⟩:=bx4 X0
 obtain ⟨f1_0,f1_1,f1_2,f1_3,y1_0,y1_1,y1_2,y1_3⟩:=bx4 X1
 obtain ⟨f2_0,f2_1,f2_2,f2_3,y2_0,y2_1,y2_2,y2_3⟩:=bx4 X2
 go_wp2_with fail
 refine (down_6 _).mono ?_
 rintro e W3 ⟨rfl,hb3⟩
 replace X0:=(hb3.block _ z0).trans X0
 replace z0:=lL z0 hb3.size
 replace X1:=(hb3.block _ z1).trans X1
 replace z1:=lL z1 hb3.size
 replace X2:=(hb3.block _ z2).trans X2
 replace z2:=lL z2 hb3.size
 replace B:=bT B hb3
 clear hb3
 clear f0_0 f0_1 f0_2 f0_3 y0_0 y0_1 y0_2 y0_3 f1_0 f1_1 f1_2 f1_3 y1_0 y1_1 y1_2 y1_3 f2_0 f2_1 f2_2 f2_3 y2_0 y2_1 y2_2 y2_3
 obtain ⟨f0_0,f0_1,f0_2,f0_3,y0_0,y0_1,y0_2,y0_3⟩:=bx4 X0
 obtain ⟨f1_0,f1_1,f1_2,f1_3,y1_0,y1_1,y1_2,y1_3⟩:=bx4 X1
 obtain ⟨f2_0,f2_1,f2_2,f2_3,y2_0,y2_1,y2_2,y2_3⟩:=bx4 X2
 go_wp2_with fail
 obtain ⟨W4,hW4⟩:∃ W:World,W = (((W3.setCell ⟨w.heap.size,0,none⟩ (.bool false)).setCell ⟨w.heap.size,1,none⟩ (.int .i64 (-125))).setCell ⟨w.heap.size,2,none⟩ (.int .u64 4611686018427387904)).setCell ⟨w.heap.size,3,none⟩ (.int .u64 0):=⟨_,rfl⟩
 rw [<- hW4]
 replace X0:W4.heap[w.heap.size]? = some (.cells #[.bool false,.int .i64 (-125),.int .u64 4611686018427387904,.int .u64 0] 125 (0,0)):=by rw [hW4]; exact (set_same (set_same (set_same (set_same X0 _) _) _) _)
 replace X1:W4.heap[w.heap.size + 1]? = some (.cells #[.bool false,.int .i64 (-126),.int .u64 9223372036854775808,.int .u64 0] 125 (0,0)):=by rw [hW4]; exact (set_other (set_other (set_other (set_other X1 oM _) oM _) oM _) oM _)
 replace X2:W4.heap[w.heap.size + 2]? = some (.cells #[.bool false,.int .i64 0,.int .u64 0,.int .u64 0] 125 (0,0)):=by rw [hW4]; exact (set_other (set_other (set_other (set_other X2 oM _) oM _) oM _) oM _)
 replace z0:w.heap.size < W4.heap.size:=by rw [hW4]; simp <;> omega
 replace z1:w.heap.size + 1 < W4.heap.size:=by rw [hW4]; simp <;> omega
 replace z2:w.heap.size + 2 < W4.heap.size:=by rw [hW4]; simp <;> omega
 replace B:Below w.heap.size w W4:=by rw [hW4]; exact (Below.setCell (p:=⟨w.heap.size,3,none⟩) (Below.setCell (p:=⟨w.heap.size,2,none⟩) (Below.setCell (p:=⟨w.heap.size,1,none⟩) (Below.setCell (p:=⟨w.heap.size,0,none⟩) B (show w.heap.size <= w.heap.size by omega) _) (show w.heap.size <= w.heap.size by omega) _) (show w.heap.size <= w.heap.size by omega) _) (show w.heap.size <= w.heap.size by omega) _)
 clear hW4
 refine (down_6 _).mono ?_
 rintro e W5 ⟨rfl,hb5⟩
 replace X0:=(hb5.block _ z0).trans X0
 replace z0:=lL z0 hb5.size
 replace X1:=(hb5.block _ z1).trans X1
 replace z1:=lL z1 hb5.size
 replace X2:=(hb5.block _ z2).trans X2
 replace z2:=lL z2 hb5.size
 replace B:=bT B hb5
 clear hb5
 clear f0_0 f0_1 f0_2 f0_3 y0_0 y0_1 y0_2 y0_3 f1_0 f1_1 f1_2 f1_3 y1_0 y1_1 y1_2 y1_3 f2_0 f2_1 f2_2 f2_3 y2_0 y2_1 y2_2 y2_3
 obtain ⟨f0_0,f0_1,f0_2,f0_3,y0_0,y0_1,y0_2,y0_3⟩:=bx4 X0
 obtain ⟨f1_0,f1_1,f1_2,f1_3,y1_0,y1_1,y1_2,y1_3⟩:=bx4 X1
 obtain ⟨f2_0,f2_1,f2_2,f2_3,y2_0,y2_1,y2_2,y2_3⟩:=bx4 X2
 go_wp2_with fail
 obtain ⟨W6,hW6⟩:∃ W:World,W = (((((W5.setCell ⟨w.heap.size + 1,0,none⟩ (.bool false)).setCell ⟨w.heap.size + 1,1,none⟩ (.int .i64 (-125))).setCell ⟨w.heap.size + 1,2,none⟩ (.int .u64 4611686018427387904)).setCell ⟨w.heap.size + 1,3,none⟩ (.int .u64 0)).setCell ⟨w.heap.size,3,none⟩ (.int .u64 0)).setCell ⟨w.heap.size,2,none⟩ (.int .u64 9223372036854775808):=⟨_,rfl⟩
 rw [<- hW6]
 replace X0:W6.heap[w.heap.size]? = some (.cells #[.bool false,.int .i64 (-125),.int .u64 9223372036854775808,.int .u64 0] 125 (0,0)):=by rw [hW6]; exact (set_same (set_same (set_other (set_other (set_other (set_other X0 oM _) oM _) oM _) oM _) _) _)
 replace X1:W6.heap[w.heap.size + 1]? = some (.cells #[.bool false,.int .i64 (-125),.int .u64 4611686018427387904,.int .u64 0] 125 (0,0)):=by rw [hW6]; exact (set_other (set_other (set_same (set_same (set_same (set_same X1 _) _) _) _) oM _) oM _)
 replace X2:W6.heap[w.heap.size + 2]? = some (.cells #[.bool false,.int .i64 0,.int .u64 0,.int .u64 0] 125 (0,0)):=by rw [hW6]; exact (set_other (set_other (set_other (set_other (set_other (set_other X2 oM _) oM _) oM _) oM _) oM _) oM _)
 replace z0:w.heap.size < W6.heap.size:=by rw [hW6]; simp <;> omega
 replace z1:w.heap.size + 1 < W6.heap.size:=by rw [hW6]; simp <;> omega
 replace z2:w.heap.size + 2 < W6.heap.size:=by rw [hW6]; simp <;> omega
 replace B:Below w.heap.size w W6:=by rw [hW6]; exact (Below.setCell (p:=⟨w.heap.size,2,none⟩) (Below.setCell (p:=⟨w.heap.size,3,none⟩) (Below.setCell (p:=⟨w.heap.size + 1,3,none⟩) (Below.setCell (p:=⟨w.heap.size + 1,2,none⟩) (Below.setCell (p:=⟨w.heap.size + 1,1,none⟩) (Below.setCell (p:=⟨w.heap.size + 1,0,none⟩) B (show w.heap.size <= w.heap.size + 1 by omega) _) (show w.heap.size <= w.heap.size + 1 by omega) _) (show w.heap.size <= w.heap.size + 1 by omega) _) (show w.heap.size <= w.heap.size + 1 by omega) _) (show w.heap.size <= w.heap.size by omega) _) (show w.heap.size <= w.heap.size by omega) _)
 clear hW6
 refine (norm_2 _).mono ?_
 rintro e W7 ⟨rfl,hb7⟩
 replace X0:=(hb7.block _ z0).trans X0
 replace z0:=lL z0 hb7.size
 replace X1:=(hb7.block _ z1).trans X1
 replace z1:=lL z1 hb7.size
 replace X2:=(hb7.block _ z2).trans X2
 replace z2:=lL z2 hb7.size
 replace B:=bT B hb7
 clear hb7
 clear f0_0 f0_1 f0_2 f0_3 y0_0 y0_1 y0_2 y0_3 f1_0 f1_1 f1_2 f1_3 y1_0 y1_1 y1_2 y1_3 f2_0 f2_1 f2_2 f2_3 y2_0 y2_1 y2_2 y2_3
 obtain ⟨f0_0,f0_1,f0_2,f0_3,y0_0,y0_1,y0_2,y0_3⟩:=bx4 X0
 obtain ⟨f1_0,f1_1,f1_2,f1_3,y1_0,y1_1,y1_2,y1_3⟩:=bx4 X1
 obtain ⟨f2_0,f2_1,f2_2,f2_3,y2_0,y2_1,y2_2,y2_3⟩:=bx4 X2
 go_wp2
 refine bodyPost_ret (v:=.agg #[.bool false,.int .i64 (-125),.int .u64 9223372036854775808,.int .u64 0]) (by simp [results,Tryz.results136,go_sem,f0_0,f0_1,f0_2,f0_3,y0_0,y0_1,y0_2,y0_3,f1_0,f1_1,f1_2,f1_3,y1_0,y1_1,y1_2,y1_3,f2_0,f2_1,f2_2,f2_3,y2_0,y2_1,y2_2,y2_3]) rfl ?_
 exact ⟨rfl,(Below.setCell (p:=⟨w.heap.size + 2,3,none⟩) (Below.setCell (p:=⟨w.heap.size + 2,2,none⟩) (Below.setCell (p:=⟨w.heap.size + 2,1,none⟩) (Below.setCell (p:=⟨w.heap.size + 2,0,none⟩) B (show w.heap.size <= w.heap.size + 2 by omega) _) (show w.heap.size <= w.heap.size + 2 by omega) _) (show w.heap.size <= w.heap.size + 2 by omega) _) (show w.heap.size <= w.heap.size + 2 by omega) _)⟩
theorem radd_2 (w:World):Calls Tryz.prog 88 #[.agg #[.bool false,.int .i64 (-4194304),.int .u64 0,.int .u64 0,.bool false,.int .i64 (-126),.int .u64 9223372036854775808,.int .u64 0],.agg #[.bool false,.int .i64 (-4194304),.int .u64 0,.int .u64 0,.bool false,.int .i64 (-126),.int .u64 9223372036854775808,.int .u64 0]] w fun e w'=>e = .returned (.agg #[.bool false,.int .i64 (-4194304),.int .u64 0,.int .u64 0,.bool false,.int .i64 (-125),.int .u64 9223372036854775808,.int .u64 0]) /\ Below w.heap.size w w':=by
 have hfb:=floatbits_run
 go_enter Tryz.func88,Tryz.ntmps88
 go_upto_region 1 with fail
 obtain ⟨W1,hW1⟩:∃ W:World,W = ((w.alloc (.cells #[.bool false,.int .i64 (-4194304),.int .u64 0,.int .u64 0,.bool false,.int .i64 (-126),.int .u64 9223372036854775808,.int .u64 0] 127)).alloc (.cells #[.bool false,.int .i64 (-4194304),.int .u64 0,.int .u64 0,.bool false,.int .i64 (-126),.int .u64 9223372036854775808,.int .u64 0] 127)).alloc (.cells #[.bool false,.int .i64 0,.int .u64 0,.int .u64 0,.bool false,.int .i64 0,.int .u64 0,.int .u64 0] 127):=⟨_,rfl⟩
 rw [<- hW1]
 have X0:W1.heap[w.heap.size]? = some (.cells #[.bool false,.int .i64 (-4194304),.int .u64 0,.int .u64 0,.bool false,.int .i64 (-126),.int .u64 9223372036854775808,.int .u64 0] 127 (0,0)):=by rw [hW1]; exact ((heap_alloc_old _ _ (by first | omega | (simp <;> omega))).trans ((heap_alloc_old _ _ (by first | omega | (simp <;> omega))).trans (alloc_at sP)))
 have X1:W1.heap[w.heap.size + 1]? = some (.cells #[.bool false,.int .i64 (-4194304),.int .u64 0,.int .u64 0,.bool false,.int .i64 (-126),.int .u64 9223372036854775808,.int .u64 0] 127 (0,0)):=by rw [hW1]; exact ((heap_alloc_old _ _ (by first | omega | (simp <;> omega))).trans (alloc_at sP))
 have X2:W1.heap[w.heap.size + 2]? = some (.cells #[.bool false,.int .i64 0,.int .u64 0,.int .u64 0,.bool false,.int .i64 0,.int .u64 0,.int .u64 0] 127 (0,0)):=by rw [hW1]; exact (alloc_at sP)
 have z0:w.heap.size < W1.heap.size:=by rw [hW1]; simp <;> omega
 have z1:w.heap.size + 1 < W1.heap.size:=by rw [hW1]; simp <;> omega
 have z2:w.heap.size + 2 < W1.heap.size:=by rw [hW1]; simp <;> omega
 have B:Below w.heap.size w W1:=by rw [hW1]; exact (bT (bT (bT (Below.refl w.heap.size w) (below_alloc _ _)) (below_alloc _ _)) (below_alloc _ _))
 clear hW1
 obtain ⟨f0_0,f0_1,f0_2,f0_3,f0_4,f0_5,f0_6,f0_7,y0_0,y0_1,y0_2,y0_3,y0_4,y0_5,y0_6,y0_7⟩:=bx8 X0
 obtain ⟨f1_0,f1_1,f1_2,f1_3,f1_4,f1_5,f1_6,f1_7,y1_0,y1_1,y1_2,y1_3,y1_4,y1_5,y1_6,y1_7⟩:=bx8 X1
 obtain ⟨f2_0,f2_1,f2_2,f2_3,f2_4,f2_5,f2_6,f2_7,y2_0,y2_1,y2_2,y2_3,y2_4,y2_5,y2_6,y2_7⟩:=bx8 X2
 refine region_last [.val (kIs (.pointer (some ⟨w.heap.size,0,none⟩))),.val (kIs (.agg #[.bool false,.int .i64 (-4194304),.int .u64 0,.int .u64 0])),.val (kIs (.pointer (some ⟨w.heap.size + 1,0,none⟩))),.val (kIs (.agg #[.bool false,.int .i64 (-4194304),.int .u64 0,.int .u64 0])),.val (kIs (.agg #[.bool false,.int .i64 (-4194304),.int .u64 0,.int .u64 0])),.val (kIs (.pointer (some ⟨w.heap.size,4,none⟩))),.val (kIs (.agg #[.bool false,.int .i64 (-126),.int .u64 9223372036854775808,.int .u64 0])),.val (kIs (.pointer (some ⟨w.heap.size + 1,4,none⟩))),.val (kIs (.agg #[.bool false,.int .i64 (-126),.int .u64 9223372036854775808,.int .u64 0])),.val (kIs (.agg #[.bool false,.int .i64 (-125),.int .u64 9223372036854775808,.int .u64 0])),.val (kIs (.agg #[.bool false,.int .i64 (-4194304),.int .u64 0,.int .u64 0,.bool false,.int .i64 (-125),.int .u64 9223372036854775808,.int .u64 0]))]
  kR kR kR kR kR ⟨Stab.b (stab_is _),Stab.b (stab_is _),Stab.b (stab_is _),Stab.b (stab_is _),Stab.b (stab_is _),Stab.b (stab_is _),Stab.b (stab_is _),Stab.b (stab_is _),Stab.b (stab_is _),Stab.b (stab_is _),Stab.b (stab_is _),trivial⟩ sP (ol:=_) rfl kR ⟨?_,?_,?_,?_,?_,?_,?_,?_,?_,?_,?_,trivial⟩ ?_
 ·exact obq
 ·intro ts W hb hB hp; have h0:ts 0 = _:=hp 0 kR; intro K hK; simp only [fillT,zA,Nat.reduceAdd,sA,sB,sC,h0] at hK ⊢; have HK:=hid hK; clear hK hp; obtain ⟨p0,p1,p2,p3,p4,p5,p6,p7,-,-,-,-,-,-,-,-⟩:=bx8 ((hb.block _ z0).trans X0); refine ⟨?_⟩; go_simp; exact HK.out _ _ kk rfB
 ·exact obq
 ·intro ts W hb hB hp; have h2:ts 2 = _:=hp 2 kR; intro K hK; simp only [fillT,zA,Nat.reduceAdd,sA,sB,sC,h2] at hK ⊢; have HK:=hid hK; clear hK hp; obtain ⟨p0,p1,p2,p3,p4,p5,p6,p7,-,-,-,-,-,-,-,-⟩:=bx8 ((hb.block _ z1).trans X1); refine ⟨?_⟩; go_simp; exact HK.out _ _ kk rfB
 ·intro ts W hb hB hp; have h1:ts 1 = _:=hp 1 kR; have h3:ts 3 = _:=hp 3 kR; intro K hK; simp only [fillT,zA,Nat.reduceAdd,sA,sB,sC,h1,h3] at hK ⊢; have HK:=hid hK; clear hK hp; refine ⟨?_⟩; go_simp; refine (wadd_3 _).mono ?_; rintro e W9 ⟨rfl,hb9⟩; exact HK.out _ _ rfl hb9
 ·exact obq
 ·intro ts W hb hB hp; have h5:ts 5 = _:=hp 5 kR; intro K hK; simp only [fillT,zA,Nat.reduceAdd,sA,sB,sC,h5] at hK ⊢; have HK:=hid hK; clear hK hp; obtain ⟨p0,p1,p2,p3,p4,p5,p6,p7,-,-,-,-,-,-,-,-⟩:=bx8 ((hb.block _ z0).trans X0); refine ⟨?_⟩; go_simp; exact HK.out _ _ kk rfB
 ·exact obq
 ·intro ts W hb hB hp; have h7:ts 7 = _:=hp 7 kR; intro K hK; simp only [fillT,zA,Nat.reduceAdd,sA,sB,sC,h7] at hK ⊢; have HK:=hid hK; clear hK hp; obtain ⟨p0,p1,p2,p3,p4,p5,p6,p7,-,-,-,-,-,-,-,-⟩:=bx8 ((hb.block _ z1).trans X1); refine ⟨?_⟩; go_simp; exact HK.out _ _ kk rfB
 ·intro ts W hb hB hp; have h6:ts 6 = _:=hp 6 kR; have h8:ts 8 = _:=hp 8 kR; intro K hK; simp only [fillT,zA,Nat.reduceAdd,sA,sB,sC,h6,h8] at hK ⊢; have HK:=hid hK; clear hK hp; refine ⟨?_⟩; go_simp; refine (wadd_4 _).mono ?_; rintro e W9 ⟨rfl,hb9⟩; exact HK.out _ _ rfl hb9
 ·intro ts W hb hB hp; have h4:ts 4 = _:=hp 4 kR; have h9:ts 9 = _:=hp 9 kR; intro K hK; simp only [fillT,zA,Nat.reduceAdd,sA,sB,sC,h4,h9] at hK ⊢; have HK:=hid hK; clear hK hp; refine ⟨?_⟩; go_simp; exact HK.out _ _ kk rfB
 intro ts W2 hb2 hh hap K hK
 have e0:=held_is (hh 0 sP) rfl
 have e1:=held_is (hh 1 sP) rfl
 have e2:=held_is (hh 2 sP) rfl
 have e3:=held_is (hh 3 sP) rfl
 have e4:=held_is (hh 4 sP) rfl
 have e5:=held_is (hh 5 sP) rfl
 have e6:=held_is (hh 6 sP) rfl
 have e7:=held_is (hh 7 sP) rfl
 have e8:=held_is (hh 8 sP) rfl
 have e9:=held_is (hh 9 sP) rfl
 have e10:=held_is (hh 10 sP) rfl
 have HK:=hid hK
 clear hK
 simp only [fillT,zA,Nat.reduceAdd,sA,sB,sC,e0,e1,e2,e3,e4,e5,e6,e7,e8,e9,e10]
 clear hh hap e0 e1 e2 e3 e4 e5 e6 e7 e8 e9 e10
 replace X0:=(hb2.block _ z0).trans X0
 replace z0:=lL z0 hb2.size
 replace X1:=(hb2.block _ z1).trans X1
 replace z1:=lL z1 hb2.size
 replace X2:=(hb2.block _ z2).trans X2
 replace z2:=lL z2 hb2.size
 replace B:=bT B hb2
 clear hb2
 clear f0_0 f0_1 f0_2 f0_3 f0_4 f0_5 f0_6 f0_7 y0_0 y0_1 y0_2 y0_3 y0_4 y0_5 y0_6 y0_7 f1_0 f1_1 f1_2 f1_3 f1_4 f1_5 f1_6 f1_7 y1_0 y1_1 y1_2 y1_3 y1_4 y1_5 y1_6 y1_7 f2_0 f2_1 f2_2 f2_3 f2_4 f2_5 f2_6 f2_7 y2_0 y2_1 y2_2 y2_3 y2_4 y2_5 y2_6 y2_7
 obtain ⟨f0_0,f0_1,f0_2,f0_3,f0_4,f0_5,f0_6,f0_7,y0_0,y0_1,y0_2,y0_3,y0_4,y0_5,y0_6,y0_7⟩:=bx8 X0
 obtain ⟨f1_0,f1_1,f1_2,f1_3,f1_4,f1_5,f1_6,f1_7,y1_0,y1_1,y1_2,y1_3,y1_4,y1_5,y1_6,y1_7⟩:=bx8 X1
 obtain ⟨f2_0,f2_1,f2_2,f2_3,f2_4,f2_5,f2_6,f2_7,y2_0,y2_1,y2_2,y2_3,y2_4,y2_5,y2_6,y2_7⟩:=bx8 X2
 refine ⟨?_⟩
 refine wp_store_row _ _ _ rfl (w.heap.size + 2) _ rfl rfl _ _ X2 kR rfl (by simp [Value.oneCell']) (HK.out _ _ ?_)
 have hput:=putAt_setRow (cs:=#[.bool false,.int .i64 (-4194304),.int .u64 0,.int .u64 0,.bool false,.int .i64 (-125),.int .u64 9223372036854775808,.int .u64 0]) X2
 replace B:=hput.below B oM
 clear HK f0_0 f0_1 f0_2 f0_3 f0_4 f0_5 f0_6 f0_7 y0_0 y0_1 y0_2 y0_3 y0_4 y0_5 y0_6 y0_7 f1_0 f1_1 f1_2 f1_3 f1_4 f1_5 f1_6 f1_7 y1_0 y1_1 y1_2 y1_3 y1_4 y1_5 y1_6 y1_7 f2_0 f2_1 f2_2 f2_3 f2_4 f2_5 f2_6 f2_7 y2_0 y2_1 y2_2 y2_3 y2_4 y2_5 y2_6 y2_7 X0 X1 X2
 generalize W2.setRow (w.heap.size + 2) #[.bool false,.int .i64 (-4194304),.int .u64 0,.int .u64 0,.bool false,.int .i64 (-125),.int .u64 9223372036854775808,.int .u64 0] = W3 at *
 have X2:=hput.here
 clear hput
 obtain ⟨f2_0,f2_1,f2_2,f2_3,f2_4,f2_5,f2_6,f2_7,y2_0,y2_1,y2_2,y2_3,y2_4,y2_5,y2_6,y2_7⟩:=bx8 X2
 go_wp2
 refine bodyPost_ret (v:=.agg #[.bool false,.int .i64 (-4194304),.int .u64 0,.int .u64 0,.bool false,.int .i64 (-125),.int .u64 9223372036854775808,.int .u64 0]) (by simp [results,Tryz.results88,go_sem,f2_0,f2_1,f2_2,f2_3,f2_4,f2_5,f2_6,f2_7,y2_0,y2_1,y2_2,y2_3,y2_4,y2_5,y2_6,y2_7]) rfl ?_
 exact ⟨rfl,B⟩
theorem drop_7 (w:World):Calls Tryz.prog 177 #[.agg #[.bool false,.int .i64 (-4194304),.int .u64 0,.int .u64 0],.int .i64 4193230] w fun e w'=>e = .returned (.tuple #[.int .u64 0,.int .u64 0,.bool false]) /\ Below w.heap.size w w':=by
 have hfb:=floatbits_run
 have k0:bits BinOp.or IntKind.u64 0 0 = 0:=dK
 go_enter Tryz.func177,Tryz.ntmps177
 go_upto_region 6 with fail
 obtain ⟨W1,hW1⟩:∃ W:World,W = w.alloc (.cells #[.bool false,.int .i64 (-4194304),.int .u64 0,.int .u64 0] 125):=⟨_,rfl⟩
 rw [<- hW1]
 have X0:W1.heap[w.heap.size]? = some (.cells #[.bool false,.int .i64 (-4194304),.int .u64 0,.int .u64 0] 125 (0,0)):=by rw [hW1]; exact (alloc_at sP)
 have z0:w.heap.size < W1.heap.size:=by rw [hW1]; simp <;> omega
 have B:Below w.heap.size w W1:=by rw [hW1]; exact (bT (Below.refl w.heap.size w) (below_alloc _ _))
 clear hW1
 obtain ⟨f0_0,f0_1,f0_2,f0_3,y0_0,y0_1,y0_2,y0_3⟩:=bx4 X0
 refine region_lin [.val (kIs (.pointer (some ⟨w.heap.size,2,none⟩))),.val (kIs (.int .u64 0)),.val (kIs (.pointer (some ⟨w.heap.size,3,none⟩))),.val (kIs (.int .u64 0)),.val (kIs (.int .u64 0)),.val (kIs (.bool false)),.val (kIs (.int .u64 0)),.val (kIs (.int .u64 0)),.val (kIs (.bool false))]
  kR kR kR kR kR ⟨Stab.b (stab_is _),Stab.b (stab_is _),Stab.b (stab_is _),Stab.b (stab_is _),Stab.b (stab_is _),Stab.b (stab_is _),Stab.b (stab_is _),Stab.b (stab_is _),Stab.b (stab_is _),trivial⟩ sP ⟨?_,?_,?_,?_,?_,?_,?_,?_,?_,trivial⟩ ?_
 ·exact obq
 ·intro ts W hb hB hp; have h0:ts 0 = _:=hp 0 kR; intro K hK; simp only [fillT,zA,Nat.reduceAdd,sA,sB,sC,h0] at hK ⊢; have HK:=hid hK; clear hK hp; obtain ⟨p0,p1,p2,p3,-,-,-,-⟩:=bx4 ((hb.block _ z0).trans X0); refine ⟨?_⟩; go_simp; exact HK.out _ _ kk rfB
 ·exact obq
 ·intro ts W hb hB hp; have h2:ts 2 = _:=hp 2 kR; intro K hK; simp only [fillT,zA,Nat.reduceAdd,sA,sB,sC,h2] at hK ⊢; have HK:=hid hK; clear hK hp; obtain ⟨p0,p1,p2,p3,-,-,-,-⟩:=bx4 ((hb.block _ z0).trans X0); refine ⟨?_⟩; go_simp; exact HK.out _ _ kk rfB
 ·intro ts W hb hB hp; have h1:ts 1 = _:=hp 1 kR; have h3:ts 3 = _:=hp 3 kR; intro K hK; simp only [fillT,zA,Nat.reduceAdd,sA,sB,sC,h1,h3] at hK ⊢; have HK:=hid hK; clear hK hp; refine ⟨?_⟩; go_simp; exact HK.out _ _ kk rfB
 ·intro ts W hb hB hp; have h4:ts 4 = _:=hp 4 kR; intro K hK; simp only [fillT,zA,Nat.reduceAdd,sA,sB,sC,h4] at hK ⊢; have HK:=hid hK; clear hK hp; refine ⟨?_⟩; go_simp; exact HK.out _ _ kk rfB
 ·exact obq
 ·exact obq
 ·intro ts W hb hB hp; have h5:ts 5 = _:=hp 5 kR; intro K hK; simp only [fillT,zA,Nat.reduceAdd,sA,sB,sC,h5] at hK ⊢; have HK:=hid hK; clear hK hp; refine ⟨?_⟩; go_simp; exact HK.out _ _ kk rfB
 intro ts W2 hb2 hh hap
 have e0:=held_is (hh 0 sP) rfl
 have e1:=held_is (hh 1 sP) rfl
 have e2:=held_is (hh 2 sP) rfl
 have e3:=held_is (hh 3 sP) rfl
 have e4:=held_is (hh 4 sP) rfl
 have e5:=held_is (hh 5 sP) rfl
 have e6:=held_is (hh 6 sP) rfl
 have e7:=held_is (hh 7 sP) rfl
 have e8:=held_is (hh 8 sP) rfl
 simp only [fillT,zA,Nat.reduceAdd,sA,sB,sC,e0,e1,e2,e3,e4,e5,e6,e7,e8]
 clear hh hap e0 e1 e2 e3 e4 e5 e6 e7 e8
 replace X0:=(hb2.block _ z0).trans X0
 replace z0:=lL z0 hb2.size
 replace B:=bT B hb2
 clear hb2
 clear f0_0 f0_1 f0_2 f0_3 y0_0 y0_1 y0_2 y0_3
 obtain ⟨f0_0,f0_1,f0_2,f0_3,y0_0,y0_1,y0_2,y0_3⟩:=bx4 X0
 go_wp2
 refine bodyPost_ret (v:=.tuple #[.int .u64 0,.int .u64 0,.bool false]) (by simp [results,Tryz.results177]) rfl ?_
 exact ⟨rfl,B⟩
theorem ldexp_1 (w:World):Calls Tryz.prog 171 #[.float .f64 0,.int .i64 (-1074)] w fun e w'=>e = .returned (.float .f64 0) /\ w = w':=by
 have hfb:=floatbits_run
 have k0:(FloatKind.f64.format.order 0 0 == some Ordering.eq) = true:=dK
 go_enter Tryz.func171,Tryz.ntmps171
 go_wp2
 go_ret
 exact ⟨rfl,rfl⟩
theorem round_1 (w:World):Calls Tryz.prog 139 #[.agg #[.bool false,.int .i64 (-4194304),.int .u64 0,.int .u64 0],.bool false] w fun e w'=>e = .returned (.float .f64 0) /\ Below w.heap.size w w':=by
 have hfb:=floatbits_run
 have k0:∀ W,(convert 22 26 (.int .u64 0)).run Tryz.prog W = .ok (.float .f64 0) W:=u2f_run dK
 have k1:∀ W,(Builtin.min_ #[26,26] 26 #[.float .f64 0,.float .f64 9218868437227405311]).run Tryz.prog W = .ok (.float .f64 0) W:=fun W=>fmin_lt dK W
 go_enter Tryz.func139,Tryz.ntmps139
 go_wp2_with fail
 obtain ⟨W1,hW1⟩:∃ W:World,W = w.alloc (.cells #[.bool false,.int .i64 (-4194304),.int .u64 0,.int .u64 0] 125):=⟨_,rfl⟩
 rw [<- hW1]
 have X0:W1.heap[w.heap.size]? = some (.cells #[.bool false,.int .i64 (-4194304),.int .u64 0,.int .u64 0] 125 (0,0)):=by rw [hW1]; exact (alloc_at sP)
 have z0:w.heap.size < W1.heap.size:=by rw [hW1]; simp <;> omega
 have B:Below w.heap.size w W1:=by rw [hW1]; exact (bT (Below.refl w.heap.size w) (below_alloc _ _))
 clear hW1
 refine (drop_7 _).mono ?_
 rintro e W2 ⟨rfl,hb2⟩
 replace X0:=(hb2.block _ z0).trans X0
 replace z0:=lL z0 hb2.size
 replace B:=bT B hb2
 clear hb2
 obtain ⟨f0_0,f0_1,f0_2,f0_3,y0_0,y0_1,y0_2,y0_3⟩:=bx4 X0
 go_wp2_with fail
 refine (ldexp_1 _).mono ?_
 rintro e w9 ⟨rfl,rfl⟩
 go_wp2
 go_ret
 exact ⟨rfl,B⟩
theorem outw_1 (w:World):Calls Tryz.prog 138 #[.agg #[.bool false,.int .i64 (-4194304),.int .u64 0,.int .u64 0],.bool true] w fun e w'=>e = .returned (.float .f64 0) /\ Below w.heap.size w w':=by
 have hfb:=floatbits_run
 go_enter Tryz.func138,Tryz.ntmps138
 go_wp2_with fail
 obtain ⟨W1,hW1⟩:∃ W:World,W = w.alloc (.cells #[.bool false,.int .i64 (-4194304),.int .u64 0,.int .u64 0] 125):=⟨_,rfl⟩
 rw [<- hW1]
 have X0:W1.heap[w.heap.size]? = some (.cells #[.bool false,.int .i64 (-4194304),.int .u64 0,.int .u64 0] 125 (0,0)):=by rw [hW1]; exact (alloc_at sP)
 have z0:w.heap.size < W1.heap.size:=by rw [hW1]; simp <;> omega
 have B:Below w.heap.size w W1:=by rw [hW1]; exact (bT (Below.refl w.heap.size w) (below_alloc _ _))
 clear hW1
 refine (round_1 _).mono ?_
 rintro e W2 ⟨rfl,hb2⟩
 replace X0:=(hb2.block _ z0).trans X0
 replace z0:=lL z0 hb2.size
 replace B:=bT B hb2
 clear hb2
 obtain ⟨f0_0,f0_1,f0_2,f0_3,y0_0,y0_1,y0_2,y0_3⟩:=bx4 X0
 go_wp2
 go_ret
 exact ⟨rfl,B⟩
theorem drop_8 (w:World):Calls Tryz.prog 177 #[.agg #[.bool false,.int .i64 (-125),.int .u64 9223372036854775808,.int .u64 0],.int .i64 75] w fun e w'=>e = .returned (.tuple #[.int .u64 0,.int .u64 4503599627370496,.bool false]) /\ Below w.heap.size w w':=by
 have hfb:=floatbits_run
 have k0:bits BinOp.or IntKind.u64 0 0 = 0:=dK
 go_enter Tryz.func177,Tryz.ntmps177
 go_upto_region 5 with fail
 obtain ⟨W1,hW1⟩:∃ W:World,W = w.alloc (.cells #[.bool false,.int .i64 (-125),.int .u64 9223372036854775808,.int .u64 0] 125):=⟨_,rfl⟩
 rw [<- hW1]
 have X0:W1.heap[w.heap.size]? = some (.cells #[.bool false,.int .i64 (-125),.int .u64 9223372036854775808,.int .u64 0] 125 (0,0)):=by rw [hW1]; exact (alloc_at sP)
 have z0:w.heap.size < W1.heap.size:=by rw [hW1]; simp <;> omega
 have B:Below w.heap.size w W1:=by rw [hW1]; exact (bT (Below.refl w.heap.size w) (below_alloc _ _))
 clear hW1
 obtain ⟨f0_0,f0_1,f0_2,f0_3,y0_0,y0_1,y0_2,y0_3⟩:=bx4 X0
 refine region_lin [.val (kIs (.pointer (some ⟨w.heap.size,2,none⟩))),.val (kIs (.int .u64 9223372036854775808)),.val (kIs (.int .i64 11)),.val (kIs (.int .u64 4503599627370496)),.val (kIs (.pointer (some ⟨w.heap.size,2,none⟩))),.val (kIs (.int .u64 9223372036854775808)),.val (kIs (.int .i64 11)),.val (kIs (.int .i64 53)),.val (kIs (.int .u64 0)),.val (kIs (.pointer (some ⟨w.heap.size,3,none⟩))),.val (kIs (.int .u64 0)),.val (kIs (.int .u64 0)),.val (kIs (.bool false)),.val (kIs (.int .u64 0)),.val (kIs (.int .u64 4503599627370496)),.val (kIs (.bool false))]
  kR kR kR kR kR ⟨Stab.b (stab_is _),Stab.b (stab_is _),Stab.b (stab_is _),Stab.b (stab_is _),Stab.b (stab_is _),Stab.b (stab_is _),Stab.b (stab_is _),Stab.b (stab_is _),Stab.b (stab_is _),Stab.b (stab_is _),Stab.b (stab_is _),Stab.b (stab_is _),Stab.b (stab_is _),Stab.b (stab_is _),Stab.b (stab_is _),Stab.b (stab_is _),trivial⟩ sP ⟨?_,?_,?_,?_,?_,?_,?_,?_,?_,?_,?_,?_,?_,?_,?_,?_,trivial⟩ ?_
 ·exact obq
 ·intro ts W hb hB hp; have h0:ts 0 = _:=hp 0 kR; intro K hK; simp only [fillT,zA,Nat.reduceAdd,sA,sB,sC,h0] at hK ⊢; have HK:=hid hK; clear hK hp; obtain ⟨p0,p1,p2,p3,-,-,-,-⟩:=bx4 ((hb.block _ z0).trans X0); refine ⟨?_⟩; go_simp; exact HK.out _ _ kk rfB
 ·exact obq
 ·intro ts W hb hB hp; have h1:ts 1 = _:=hp 1 kR; have h2:ts 2 = _:=hp 2 kR; intro K hK; simp only [fillT,zA,Nat.reduceAdd,sA,sB,sC,h1,h2] at hK ⊢; have HK:=hid hK; clear hK hp; refine ⟨?_⟩; go_simp; exact HK.out _ _ kk rfB
 ·exact obq
 ·intro ts W hb hB hp; have h4:ts 4 = _:=hp 4 kR; intro K hK; simp only [fillT,zA,Nat.reduceAdd,sA,sB,sC,h4] at hK ⊢; have HK:=hid hK; clear hK hp; obtain ⟨p0,p1,p2,p3,-,-,-,-⟩:=bx4 ((hb.block _ z0).trans X0); refine ⟨?_⟩; go_simp; exact HK.out _ _ kk rfB
 ·exact obq
 ·intro ts W hb hB hp; have h6:ts 6 = _:=hp 6 kR; intro K hK; simp only [fillT,zA,Nat.reduceAdd,sA,sB,sC,h6] at hK ⊢; have HK:=hid hK; clear hK hp; refine ⟨?_⟩; go_simp; exact HK.out _ _ kk rfB
 ·intro ts W hb hB hp; have h5:ts 5 = _:=hp 5 kR; have h7:ts 7 = _:=hp 7 kR; intro K hK; simp only [fillT,zA,Nat.reduceAdd,sA,sB,sC,h5,h7] at hK ⊢; have HK:=hid hK; clear hK hp; refine ⟨?_⟩; go_simp; exact HK.out _ _ kk rfB
 ·exact obq
 ·intro ts W hb hB hp; have h9:ts 9 = _:=hp 9 kR; intro K hK; simp only [fillT,zA,Nat.reduceAdd,sA,sB,sC,h9] at hK ⊢; have HK:=hid hK; clear hK hp; obtain ⟨p0,p1,p2,p3,-,-,-,-⟩:=bx4 ((hb.block _ z0).trans X0); refine ⟨?_⟩; go_simp; exact HK.out _ _ kk rfB
 ·intro ts W hb hB hp; have h8:ts 8 = _:=hp 8 kR; have h10:ts 10 = _:=hp 10 kR; intro K hK; simp only [fillT,zA,Nat.reduceAdd,sA,sB,sC,h8,h10] at hK ⊢; have HK:=hid hK; clear hK hp; refine ⟨?_⟩; go_simp; exact HK.out _ _ kk rfB
 ·intro ts W hb hB hp; have h11:ts 11 = _:=hp 11 kR; intro K hK; simp only [fillT,zA,Nat.reduceAdd,sA,sB,sC,h11] at hK ⊢; have HK:=hid hK; clear hK hp; refine ⟨?_⟩; go_simp; exact HK.out _ _ kk rfB
 ·exact obq
 ·intro ts W hb hB hp; have h3:ts 3 = _:=hp 3 kR; intro K hK; simp only [fillT,zA,Nat.reduceAdd,sA,sB,sC,h3] at hK ⊢; have HK:=hid hK; clear hK hp; refine ⟨?_⟩; go_simp; exact HK.out _ _ kk rfB
 ·intro ts W hb hB hp; have h12:ts 12 = _:=hp 12 kR; intro K hK; simp only [fillT,zA,Nat.reduceAdd,sA,sB,sC,h12] at hK ⊢; have HK:=hid hK; clear hK hp; refine ⟨?_⟩; go_simp; exact HK.out _ _ kk rfB
 intro ts W2 hb2 hh hap
 have e0:=held_is (hh 0 sP) rfl
 have e1:=held_is (hh 1 sP) rfl
 have e2:=held_is (hh 2 sP) rfl
 have e3:=held_is (hh 3 sP) rfl
 have e4:=held_is (hh 4 sP) rfl
 have e5:=held_is (hh 5 sP) rfl
 have e6:=held_is (hh 6 sP) rfl
 have e7:=held_is (hh 7 sP) rfl
 have e8:=held_is (hh 8 sP) rfl
 have e9:=held_is (hh 9 sP) rfl
 have e10:=held_is (hh 10 sP) rfl
 have e11:=held_is (hh 11 sP) rfl
 have e12:=held_is (hh 12 sP) rfl
 have e13:=held_is (hh 13 sP) rfl
 have e14:=held_is (hh 14 sP) rfl
 have e15:=held_is (hh 15 sP) rfl
 simp only [fillT,zA,Nat.reduceAdd,sA,sB,sC,e0,e1,e2,e3,e4,e5,e6,e7,e8,e9,e10,e11,e12,e13,e14,e15]
 clear hh hap e0 e1 e2 e3 e4 e5 e6 e7 e8 e9 e10 e11 e12 e13 e14 e15
 replace X0:=(hb2.block _ z0).trans X0
 replace z0:=lL z0 hb2.size
 replace B:=bT B hb2
 clear hb2
 clear f0_0 f0_1 f0_2 f0_3 y0_0 y0_1 y0_2 y0_3
 obtain ⟨f0_0,f0_1,f0_2,f0_3,y0_0,y0_1,y0_2,y0_3⟩:=bx4 X0
 go_wp2
 refine bodyPost_ret (v:=.tuple #[.int .u64 0,.int .u64 4503599627370496,.bool false]) (by simp [results,Tryz.results177]) rfl ?_
 exact ⟨rfl,B⟩
theorem ldexp_2 (w:World):Calls Tryz.prog 171 #[.float .f64 4841369599423283200,.int .i64 (-50)] w fun e w'=>e = .returned (.float .f64 4616189618054758400) /\ w = w':=by
 have hfb:=floatbits_run
 have k0:(FloatKind.f64.format.order 4841369599423283200 0 == some Ordering.eq) = false:=dK
 have k1:bits BinOp.andNot IntKind.u64 4841369599423283200 9223372036854775808 = 4841369599423283200:=dK
 have k2:∀ W,(callFunc 108 #[.int .u64 4841369599423283200]).run Tryz.prog W = .ok (.value (.float .f64 4841369599423283200)) W:=fun W=>frombits_run W 4841369599423283200
 have k3:(FloatKind.f64.format.order 4841369599423283200 9218868437227405311 == some Ordering.gt) = false:=dK
 have k4:(FloatKind.f64.format.order 4841369599423283200 4841369599423283200 != some Ordering.eq) = false:=dK
 have k5:(FloatKind.f64.format.order 4841369599423283200 4503599627370496 == some Ordering.lt) = false:=dK
 have k6:bits BinOp.and IntKind.i64 1075 2047 = 1075:=dK
 have k7:bits BinOp.andNot IntKind.u64 4841369599423283200 9218868437227405312 = 0:=dK
 have k8:bits BinOp.or IntKind.u64 0 4616189618054758400 = 4616189618054758400:=dK
 have k9:∀ W,(callFunc 108 #[.int .u64 4616189618054758400]).run Tryz.prog W = .ok (.value (.float .f64 4616189618054758400)) W:=fun W=>frombits_run W 4616189618054758400
 have k10:∀ W,(binOp BinOp.mul 26 (.float .f64 4607182418800017408) (.float .f64 4616189618054758400)).run Tryz.prog W = .ok (.float .f64 4616189618054758400) W:=fun W=>fmul_run dK W
 go_enter Tryz.func171,Tryz.ntmps171
 go_wp2
 go_ret
 exact ⟨rfl,rfl⟩
theorem round_2 (w:World):Calls Tryz.prog 139 #[.agg #[.bool false,.int .i64 (-125),.int .u64 9223372036854775808,.int .u64 0],.bool true] w fun e w'=>e = .returned (.float .f64 4616189618054758400) /\ Below w.heap.size w w':=by
 have hfb:=floatbits_run
 have k0:∀ W,(convert 22 26 (.int .u64 4503599627370496)).run Tryz.prog W = .ok (.float .f64 4841369599423283200) W:=u2f_run dK
 go_enter Tryz.func139,Tryz.ntmps139
 go_wp2_with fail
 obtain ⟨W1,hW1⟩:∃ W:World,W = w.alloc (.cells #[.bool false,.int .i64 (-125),.int .u64 9223372036854775808,.int .u64 0] 125):=⟨_,rfl⟩
 rw [<- hW1]
 have X0:W1.heap[w.heap.size]? = some (.cells #[.bool false,.int .i64 (-125),.int .u64 9223372036854775808,.int .u64 0] 125 (0,0)):=by rw [hW1]; exact (alloc_at sP)
 have z0:w.heap.size < W1.heap.size:=by rw [hW1]; simp <;> omega
 have B:Below w.heap.size w W1:=by rw [hW1]; exact (bT (Below.refl w.heap.size w) (below_alloc _ _))
 clear hW1
 refine (drop_8 _).mono ?_
 rintro e W2 ⟨rfl,hb2⟩
 replace X0:=(hb2.block _ z0).trans X0
 replace z0:=lL z0 hb2.size
 replace B:=bT B hb2
 clear hb2
 obtain ⟨f0_0,f0_1,f0_2,f0_3,y0_0,y0_1,y0_2,y0_3⟩:=bx4 X0
 go_wp2_with fail
 refine (ldexp_2 _).mono ?_
 rintro e w9 ⟨rfl,rfl⟩
 go_wp2
 go_ret
 exact ⟨rfl,B⟩
theorem outw_2 (w:World):Calls Tryz.prog 138 #[.agg #[.bool false,.int .i64 (-125),.int .u64 9223372036854775808,.int .u64 0],.bool false] w fun e w'=>e = .returned (.float .f64 4616189618054758400) /\ Below w.heap.size w w':=by
 have hfb:=floatbits_run
 go_enter Tryz.func138,Tryz.ntmps138
 go_wp2_with fail
 obtain ⟨W1,hW1⟩:∃ W:World,W = w.alloc (.cells #[.bool false,.int .i64 (-125),.int .u64 9223372036854775808,.int .u64 0] 125):=⟨_,rfl⟩
 rw [<- hW1]
 have X0:W1.heap[w.heap.size]? = some (.cells #[.bool false,.int .i64 (-125),.int .u64 9223372036854775808,.int .u64 0] 125 (0,0)):=by rw [hW1]; exact (alloc_at sP)
 have z0:w.heap.size < W1.heap.size:=by rw [hW1]; simp <;> omega
 have B:Below w.heap.size w W1:=by rw [hW1]; exact (bT (Below.refl w.heap.size w) (below_alloc _ _))
 clear hW1
 refine (round_2 _).mono ?_
 rintro e W2 ⟨rfl,hb2⟩
 replace X0:=(hb2.block _ z0).trans X0
 replace z0:=lL z0 hb2.size
 replace B:=bT B hb2
 clear hb2
 obtain ⟨f0_0,f0_1,f0_2,f0_3,y0_0,y0_1,y0_2,y0_3⟩:=bx4 X0
 go_wp2
 go_ret
 exact ⟨rfl,B⟩
theorem rspan_1 (w:World):Calls Tryz.prog 90 #[.agg #[.bool false,.int .i64 (-4194304),.int .u64 0,.int .u64 0,.bool false,.int .i64 (-125),.int .u64 9223372036854775808,.int .u64 0]] w fun e w'=>e = .returned (.agg #[.float .f64 0,.float .f64 4616189618054758400]) /\ Below w.heap.size w w':=by
 have hfb:=floatbits_run
 go_enter Tryz.func90,Tryz.ntmps90
 go_upto_region 2 with fail
 obtain ⟨W1,hW1⟩:∃ W:World,W = (w.alloc (.cells #[.bool false,.int .i64 (-4194304),.int .u64 0,.int .u64 0,.bool false,.int .i64 (-125),.int .u64 9223372036854775808,.int .u64 0] 127)).alloc (.cells #[.float .f64 0,.float .f64 0] 28):=⟨_,rfl⟩
 rw [<- hW1]
 have X0:W1.heap[w.heap.size]? = some (.cells #[.bool false,.int .i64 (-4194304),.int .u64 0,.int .u64 0,.bool false,.int .i64 (-125),.int .u64 9223372036854775808,.int .u64 0] 127 (0,0)):=by rw [hW1]; exact ((heap_alloc_old _ _ (by first | omega | (simp <;> omega))).trans (alloc_at sP))
 have X1:W1.heap[w.heap.size + 1]? = some (.cells #[.float .f64 0,.float .f64 0] 28 (0,0)):=by rw [hW1]; exact (alloc_at sP)
 have z0:w.heap.size < W1.heap.size:=by rw [hW1]; simp <;> omega
 have z1:w.heap.size + 1 < W1.heap.size:=by rw [hW1]; simp <;> omega
 have B:Below w.heap.size w W1:=by rw [hW1]; exact (bT (bT (Below.refl w.heap.size w) (below_alloc _ _)) (below_alloc _ _))
 clear hW1
 obtain ⟨f0_0,f0_1,f0_2,f0_3,f0_4,f0_5,f0_6,f0_7,y0_0,y0_1,y0_2,y0_3,y0_4,y0_5,y0_6,y0_7⟩:=bx8 X0
 obtain ⟨f1_0,f1_1,y1_0,y1_1⟩:=bx2 X1
 refine region_last [.val (kIs (.func (.func 138) #[] #[])),.val (kIs (.pointer (some ⟨w.heap.size,0,none⟩))),.val (kIs (.agg #[.bool false,.int .i64 (-4194304),.int .u64 0,.int .u64 0])),.val (kIs (.float .f64 0)),.val (kIs (.func (.func 138) #[] #[])),.val (kIs (.pointer (some ⟨w.heap.size,4,none⟩))),.val (kIs (.agg #[.bool false,.int .i64 (-125),.int .u64 9223372036854775808,.int .u64 0])),.val (kIs (.float .f64 4616189618054758400)),.val (kIs (.agg #[.float .f64 0,.float .f64 4616189618054758400]))]
  kR kR kR kR kR ⟨Stab.b (stab_is _),Stab.b (stab_is _),Stab.b (stab_is _),Stab.b (stab_is _),Stab.b (stab_is _),Stab.b (stab_is _),Stab.b (stab_is _),Stab.b (stab_is _),Stab.b (stab_is _),trivial⟩ sP (ol:=_) rfl kR ⟨?_,?_,?_,?_,?_,?_,?_,?_,?_,trivial⟩ ?_
 ·exact obq
 ·exact obq
 ·intro ts W hb hB hp; have h1:ts 1 = _:=hp 1 kR; intro K hK; simp only [fillT,zA,Nat.reduceAdd,sA,sB,sC,h1] at hK ⊢; have HK:=hid hK; clear hK hp; obtain ⟨p0,p1,p2,p3,p4,p5,p6,p7,-,-,-,-,-,-,-,-⟩:=bx8 ((hb.block _ z0).trans X0); refine ⟨?_⟩; go_simp; exact HK.out _ _ kk rfB
 ·intro ts W hb hB hp; have h0:ts 0 = _:=hp 0 kR; have h2:ts 2 = _:=hp 2 kR; intro K hK; simp only [fillT,zA,Nat.reduceAdd,sA,sB,sC,h0,h2] at hK ⊢; have HK:=hid hK; clear hK hp; refine ⟨?_⟩; go_simp; refine (outw_1 _).mono ?_; rintro e W9 ⟨rfl,hb9⟩; exact HK.out _ _ rfl hb9
 ·exact obq
 ·exact obq
 ·intro ts W hb hB hp; have h5:ts 5 = _:=hp 5 kR; intro K hK; simp only [fillT,zA,Nat.reduceAdd,sA,sB,sC,h5] at hK ⊢; have HK:=hid hK; clear hK hp; obtain ⟨p0,p1,p2,p3,p4,p5,p6,p7,-,-,-,-,-,-,-,-⟩:=bx8 ((hb.block _ z0).trans X0); refine ⟨?_⟩; go_simp; exact HK.out _ _ kk rfB
 ·intro ts W hb hB hp; have h4:ts 4 = _:=hp 4 kR; have h6:ts 6 = _:=hp 6 kR; intro K hK; simp only [fillT,zA,Nat.reduceAdd,sA,sB,sC,h4,h6] at hK ⊢; have HK:=hid hK; clear hK hp; refine ⟨?_⟩; go_simp; refine (outw_2 _).mono ?_; rintro e W9 ⟨rfl,hb9⟩; exact HK.out _ _ rfl hb9
 ·intro ts W hb hB hp; have h3:ts 3 = _:=hp 3 kR; have h7:ts 7 = _:=hp 7 kR; intro K hK; simp only [fillT,zA,Nat.reduceAdd,sA,sB,sC,h3,h7] at hK ⊢; have HK:=hid hK; clear hK hp; refine ⟨?_⟩; go_simp; exact HK.out _ _ kk rfB
 intro ts W2 hb2 hh hap K hK
 have e0:=held_is (hh 0 sP) rfl
 have e1:=held_is (hh 1 sP) rfl
 have e2:=held_is (hh 2 sP) rfl
 have e3:=held_is (hh 3 sP) rfl
 have e4:=held_is (hh 4 sP) rfl
 have e5:=held_is (hh 5 sP) rfl
 have e6:=held_is (hh 6 sP) rfl
 have e7:=held_is (hh 7 sP) rfl
 have e8:=held_is (hh 8 sP) rfl
 have HK:=hid hK
 clear hK
 simp only [fillT,zA,Nat.reduceAdd,sA,sB,sC,e0,e1,e2,e3,e4,e5,e6,e7,e8]
 clear hh hap e0 e1 e2 e3 e4 e5 e6 e7 e8
 replace X0:=(hb2.block _ z0).trans X0
 replace z0:=lL z0 hb2.size
 replace X1:=(hb2.block _ z1).trans X1
 replace z1:=lL z1 hb2.size
 replace B:=bT B hb2
 clear hb2
 clear f0_0 f0_1 f0_2 f0_3 f0_4 f0_5 f0_6 f0_7 y0_0 y0_1 y0_2 y0_3 y0_4 y0_5 y0_6 y0_7 f1_0 f1_1 y1_0 y1_1
 obtain ⟨f0_0,f0_1,f0_2,f0_3,f0_4,f0_5,f0_6,f0_7,y0_0,y0_1,y0_2,y0_3,y0_4,y0_5,y0_6,y0_7⟩:=bx8 X0
 obtain ⟨f1_0,f1_1,y1_0,y1_1⟩:=bx2 X1
 refine ⟨?_⟩
 refine wp_store_row _ _ _ rfl (w.heap.size + 1) _ rfl rfl _ _ X1 kR rfl (by simp [Value.oneCell']) (HK.out _ _ ?_)
 have hput:=putAt_setRow (cs:=#[.float .f64 0,.float .f64 4616189618054758400]) X1
 replace B:=hput.below B oM
 clear HK f0_0 f0_1 f0_2 f0_3 f0_4 f0_5 f0_6 f0_7 y0_0 y0_1 y0_2 y0_3 y0_4 y0_5 y0_6 y0_7 f1_0 f1_1 y1_0 y1_1 X0 X1
 generalize W2.setRow (w.heap.size + 1) #[.float .f64 0,.float .f64 4616189618054758400] = W3 at *
 have X1:=hput.here
 clear hput
 obtain ⟨f1_0,f1_1,y1_0,y1_1⟩:=bx2 X1
 go_wp2
 refine bodyPost_ret (v:=.agg #[.float .f64 0,.float .f64 4616189618054758400]) (by simp [results,Tryz.results90,go_sem,f1_0,f1_1,y1_0,y1_1]) rfl ?_
 exact ⟨rfl,B⟩
theorem bmul_1 (w:World):Calls Tryz.prog 44 #[.agg #[.float .f64 4607182418800017408,.float .f64 4611686018427387904,.float .f64 0,.float .f64 4607182418800017408],.agg #[.float .f64 4607182418800017408,.float .f64 4611686018427387904,.float .f64 0,.float .f64 4607182418800017408]] w fun e w'=>e = .returned (.agg #[.float .f64 0,.float .f64 4616189618054758400,.float .f64 0,.float .f64 4616189618054758400]) /\ Below w.heap.size w w':=by
 have hfb:=floatbits_run
 go_enter Tryz.func44,Tryz.ntmps44
 go_upto_region 1 with fail
 obtain ⟨W1,hW1⟩:∃ W:World,W = ((w.alloc (.cells #[.float .f64 4607182418800017408,.float .f64 4611686018427387904,.float .f64 0,.float .f64 4607182418800017408] 65)).alloc (.cells #[.float .f64 4607182418800017408,.float .f64 4611686018427387904,.float .f64 0,.float .f64 4607182418800017408] 65)).alloc (.cells #[.float .f64 0,.float .f64 0,.float .f64 0,.float .f64 0] 65):=⟨_,rfl⟩
 rw [<- hW1]
 have X0:W1.heap[w.heap.size]? = some (.cells #[.float .f64 4607182418800017408,.float .f64 4611686018427387904,.float .f64 0,.float .f64 4607182418800017408] 65 (0,0)):=by rw [hW1]; exact ((heap_alloc_old _ _ (by first | omega | (simp <;> omega))).trans ((heap_alloc_old _ _ (by first | omega | (simp <;> omega))).trans (alloc_at sP)))
 have X1:W1.heap[w.heap.size + 1]? = some (.cells #[.float .f64 4607182418800017408,.float .f64 4611686018427387904,.float .f64 0,.float .f64 4607182418800017408] 65 (0,0)):=by rw [hW1]; exact ((heap_alloc_old _ _ (by first | omega | (simp <;> omega))).trans (alloc_at sP))
 have X2:W1.heap[w.heap.size + 2]? = some (.cells #[.float .f64 0,.float .f64 0,.float .f64 0,.float .f64 0] 65 (0,0)):=by rw [hW1]; exact (alloc_at sP)
 have z0:w.heap.size < W1.heap.size:=by rw [hW1]; simp <;> omega
 have z1:w.heap.size + 1 < W1.heap.size:=by rw [hW1]; simp <;> omega
 have z2:w.heap.size + 2 < W1.heap.size:=by rw [hW1]; simp <;> omega
 have B:Below w.heap.size w W1:=by rw [hW1]; exact (bT (bT (bT (Below.refl w.heap.size w) (below_alloc _ _)) (below_alloc _ _)) (below_alloc _ _))
 clear hW1
 obtain ⟨f0_0,f0_1,f0_2,f0_3,y0_0,y0_1,y0_2,y0_3⟩:=bx4 X0
 obtain ⟨f1_0,f1_1,f1_2,f1_3,y1_0,y1_1,y1_2,y1_3⟩:=bx4 X1
 obtain ⟨f2_0,f2_1,f2_2,f2_3,y2_0,y2_1,y2_2,y2_3⟩:=bx4 X2
 refine region_lin [.val (kIs (.pointer (some ⟨w.heap.size,0,none⟩))),.val (kIs (.agg #[.float .f64 4607182418800017408,.float .f64 4611686018427387904])),.val (kIs (.pointer (some ⟨w.heap.size + 1,0,none⟩))),.val (kIs (.agg #[.float .f64 4607182418800017408,.float .f64 4611686018427387904])),.val (kIs (.agg #[.bool false,.int .i64 (-127),.int .u64 9223372036854775808,.int .u64 0,.bool false,.int .i64 (-125),.int .u64 9223372036854775808,.int .u64 0])),.val (kIs (.pointer (some ⟨w.heap.size,2,none⟩))),.val (kIs (.agg #[.float .f64 0,.float .f64 4607182418800017408])),.val (kIs (.pointer (some ⟨w.heap.size + 1,2,none⟩))),.val (kIs (.agg #[.float .f64 0,.float .f64 4607182418800017408])),.val (kIs (.agg #[.bool false,.int .i64 (-4194304),.int .u64 0,.int .u64 0,.bool false,.int .i64 (-127),.int .u64 9223372036854775808,.int .u64 0])),.val (kIs (.agg #[.bool true,.int .i64 (-127),.int .u64 9223372036854775808,.int .u64 0,.bool true,.int .i64 (-4194304),.int .u64 0,.int .u64 0])),.val (kIs (.agg #[.bool false,.int .i64 (-4194304),.int .u64 0,.int .u64 0,.bool false,.int .i64 (-125),.int .u64 9223372036854775808,.int .u64 0])),.box 127 #[.bool false,.int .i64 0,.int .u64 0,.int .u64 0,.bool false,.int .i64 0,.int .u64 0,.int .u64 0],.put 12 11]
  kR kR kR kR kR ⟨stab_is _,stab_is _,stab_is _,stab_is _,stab_is _,stab_is _,stab_is _,stab_is _,stab_is _,stab_is _,stab_is _,stab_is _,trivial⟩ sP ⟨?_,?_,?_,?_,?_,?_,?_,?_,?_,?_,?_,?_,(fun W=>sG),⟨kR,fun v W h=>⟨_,h,rfl,by simp [Value.oneCell']⟩⟩,trivial⟩ ?_
 ·exact obq
 ·intro ts W hb hB hp; have h0:ts 0 = _:=hp 0 kR; intro K hK; simp only [fillT,zA,Nat.reduceAdd,sA,sB,sC,h0] at hK ⊢; have HK:=hid hK; clear hK hp; obtain ⟨p0,p1,p2,p3,-,-,-,-⟩:=bx4 ((hb.block _ z0).trans X0); refine ⟨?_⟩; go_simp; exact HK.out _ _ kk rfB
 ·exact obq
 ·intro ts W hb hB hp; have h2:ts 2 = _:=hp 2 kR; intro K hK; simp only [fillT,zA,Nat.reduceAdd,sA,sB,sC,h2] at hK ⊢; have HK:=hid hK; clear hK hp; obtain ⟨p0,p1,p2,p3,-,-,-,-⟩:=bx4 ((hb.block _ z1).trans X1); refine ⟨?_⟩; go_simp; exact HK.out _ _ kk rfB
 ·intro ts W hb hB hp; have h1:ts 1 = _:=hp 1 kR; have h3:ts 3 = _:=hp 3 kR; intro K hK; simp only [fillT,zA,Nat.reduceAdd,sA,sB,sC,h1,h3] at hK ⊢; have HK:=hid hK; clear hK hp; refine ⟨?_⟩; go_simp; refine (reach_1 _).mono ?_; rintro e W9 ⟨rfl,hb9⟩; exact HK.out _ _ rfl hb9
 ·exact obq
 ·intro ts W hb hB hp; have h5:ts 5 = _:=hp 5 kR; intro K hK; simp only [fillT,zA,Nat.reduceAdd,sA,sB,sC,h5] at hK ⊢; have HK:=hid hK; clear hK hp; obtain ⟨p0,p1,p2,p3,-,-,-,-⟩:=bx4 ((hb.block _ z0).trans X0); refine ⟨?_⟩; go_simp; exact HK.out _ _ kk rfB
 ·exact obq
 ·intro ts W hb hB hp; have h7:ts 7 = _:=hp 7 kR; intro K hK; simp only [fillT,zA,Nat.reduceAdd,sA,sB,sC,h7] at hK ⊢; have HK:=hid hK; clear hK hp; obtain ⟨p0,p1,p2,p3,-,-,-,-⟩:=bx4 ((hb.block _ z1).trans X1); refine ⟨?_⟩; go_simp; exact HK.out _ _ kk rfB
 ·intro ts W hb hB hp; have h6:ts 6 = _:=hp 6 kR; have h8:ts 8 = _:=hp 8 kR; intro K hK; simp only [fillT,zA,Nat.reduceAdd,sA,sB,sC,h6,h8] at hK ⊢; have HK:=hid hK; clear hK hp; refine ⟨?_⟩; go_simp; refine (reach_2 _).mono ?_; rintro e W9 ⟨rfl,hb9⟩; exact HK.out _ _ rfl hb9
 ·intro ts W hb hB hp; have h9:ts 9 = _:=hp 9 kR; intro K hK; simp only [fillT,zA,Nat.reduceAdd,sA,sB,sC,h9] at hK ⊢; have HK:=hid hK; clear hK hp; refine ⟨?_⟩; go_simp; refine (rneg_1 _).mono ?_; rintro e W9 ⟨rfl,hb9⟩; exact HK.out _ _ rfl hb9
 ·intro ts W hb hB hp; have h4:ts 4 = _:=hp 4 kR; have h10:ts 10 = _:=hp 10 kR; intro K hK; simp only [fillT,zA,Nat.reduceAdd,sA,sB,sC,h4,h10] at hK ⊢; have HK:=hid hK; clear hK hp; refine ⟨?_⟩; go_simp; refine (radd_1 _).mono ?_; rintro e W9 ⟨rfl,hb9⟩; exact HK.out _ _ rfl hb9
 intro ts W2 hb2 hh hap
 have e0:=held_is (hh 0 sP) rfl
 have e1:=held_is (hh 1 sP) rfl
 have e2:=held_is (hh 2 sP) rfl
 have e3:=held_is (hh 3 sP) rfl
 have e4:=held_is (hh 4 sP) rfl
 have e5:=held_is (hh 5 sP) rfl
 have e6:=held_is (hh 6 sP) rfl
 have e7:=held_is (hh 7 sP) rfl
 have e8:=held_is (hh 8 sP) rfl
 have e9:=held_is (hh 9 sP) rfl
 have e10:=held_is (hh 10 sP) rfl
 have e11:=held_is (hh 11 sP) rfl
 obtain ⟨g3,e12,lo9,z3,X3⟩:=held_boxG (hh 12 sP) rfl (hh 13 sP) rfl (hh 11 sP) rfl
 simp only [fillT,zA,Nat.reduceAdd,sA,sB,sC,e0,e1,e2,e3,e4,e5,e6,e7,e8,e9,e10,e11,e12]
 clear hh hap e0 e1 e2 e3 e4 e5 e6 e7 e8 e9 e10 e11 e12
 have q0_3:w.heap.size < g3:=oM
 have q1_3:w.heap.size + 1 < g3:=oM
 have q2_3:w.heap.size + 2 < g3:=oM
 clear lo9
 replace X0:=(hb2.block _ z0).trans X0
 replace z0:=lL z0 hb2.size
 replace X1:=(hb2.block _ z1).trans X1
 replace z1:=lL z1 hb2.size
 replace X2:=(hb2.block _ z2).trans X2
 replace z2:=lL z2 hb2.size
 replace B:=bT B hb2
 clear hb2
 clear f0_0 f0_1 f0_2 f0_3 y0_0 y0_1 y0_2 y0_3 f1_0 f1_1 f1_2 f1_3 y1_0 y1_1 y1_2 y1_3 f2_0 f2_1 f2_2 f2_3 y2_0 y2_1 y2_2 y2_3
 obtain ⟨f0_0,f0_1,f0_2,f0_3,y0_0,y0_1,y0_2,y0_3⟩:=bx4 X0
 obtain ⟨f1_0,f1_1,f1_2,f1_3,y1_0,y1_1,y1_2,y1_3⟩:=bx4 X1
 obtain ⟨f2_0,f2_1,f2_2,f2_3,y2_0,y2_1,y2_2,y2_3⟩:=bx4 X2
 clear f0_0 f0_1 f0_2 f0_3 y0_0 y0_1 y0_2 y0_3 f1_0 f1_1 f1_2 f1_3 y1_0 y1_1 y1_2 y1_3 f2_0 f2_1 f2_2 f2_3 y2_0 y2_1 y2_2 y2_3
 obtain ⟨f0_0,f0_1,f0_2,f0_3,y0_0,y0_1,y0_2,y0_3⟩:=bx4 X0
 obtain ⟨f1_0,f1_1,f1_2,f1_3,y1_0,y1_1,y1_2,y1_3⟩:=bx4 X1
 obtain ⟨f2_0,f2_1,f2_2,f2_3,y2_0,y2_1,y2_2,y2_3⟩:=bx4 X2
 obtain ⟨f3_0,f3_1,f3_2,f3_3,f3_4,f3_5,f3_6,f3_7,y3_0,y3_1,y3_2,y3_3,y3_4,y3_5,y3_6,y3_7⟩:=bx8 X3
 go_upto_region 2 with fail
 clear f0_0 f0_1 f0_2 f0_3 y0_0 y0_1 y0_2 y0_3 f1_0 f1_1 f1_2 f1_3 y1_0 y1_1 y1_2 y1_3 f2_0 f2_1 f2_2 f2_3 y2_0 y2_1 y2_2 y2_3 f3_0 f3_1 f3_2 f3_3 f3_4 f3_5 f3_6 f3_7 y3_0 y3_1 y3_2 y3_3 y3_4 y3_5 y3_6 y3_7
 obtain ⟨f0_0,f0_1,f0_2,f0_3,y0_0,y0_1,y0_2,y0_3⟩:=bx4 X0
 obtain ⟨f1_0,f1_1,f1_2,f1_3,y1_0,y1_1,y1_2,y1_3⟩:=bx4 X1
 obtain ⟨f2_0,f2_1,f2_2,f2_3,y2_0,y2_1,y2_2,y2_3⟩:=bx4 X2
 obtain ⟨f3_0,f3_1,f3_2,f3_3,f3_4,f3_5,f3_6,f3_7,y3_0,y3_1,y3_2,y3_3,y3_4,y3_5,y3_6,y3_7⟩:=bx8 X3
 refine region_lin [.val (kIs (.pointer (some ⟨w.heap.size,0,none⟩))),.val (kIs (.agg #[.float .f64 4607182418800017408,.float .f64 4611686018427387904])),.val (kIs (.pointer (some ⟨w.heap.size + 1,2,none⟩))),.val (kIs (.agg #[.float .f64 0,.float .f64 4607182418800017408])),.val (kIs (.agg #[.bool false,.int .i64 (-4194304),.int .u64 0,.int .u64 0,.bool false,.int .i64 (-126),.int .u64 9223372036854775808,.int .u64 0])),.val (kIs (.pointer (some ⟨w.heap.size,2,none⟩))),.val (kIs (.agg #[.float .f64 0,.float .f64 4607182418800017408])),.val (kIs (.pointer (some ⟨w.heap.size + 1,0,none⟩))),.val (kIs (.agg #[.float .f64 4607182418800017408,.float .f64 4611686018427387904])),.val (kIs (.agg #[.bool false,.int .i64 (-4194304),.int .u64 0,.int .u64 0,.bool false,.int .i64 (-126),.int .u64 9223372036854775808,.int .u64 0])),.val (kIs (.agg #[.bool false,.int .i64 (-4194304),.int .u64 0,.int .u64 0,.bool false,.int .i64 (-125),.int .u64 9223372036854775808,.int .u64 0])),.box 127 #[.bool false,.int .i64 0,.int .u64 0,.int .u64 0,.bool false,.int .i64 0,.int .u64 0,.int .u64 0],.put 11 10]
  kR kR kR kR kR ⟨stab_is _,stab_is _,stab_is _,stab_is _,stab_is _,stab_is _,stab_is _,stab_is _,stab_is _,stab_is _,stab_is _,trivial⟩ sP ⟨?_,?_,?_,?_,?_,?_,?_,?_,?_,?_,?_,(fun W=>sG),⟨kR,fun v W h=>⟨_,h,rfl,by simp [Value.oneCell']⟩⟩,trivial⟩ ?_
 ·exact obq
 ·intro ts W hb hB hp; have h0:ts 0 = _:=hp 0 kR; intro K hK; simp only [fillT,zA,Nat.reduceAdd,sA,sB,sC,h0] at hK ⊢; have HK:=hid hK; clear hK hp; obtain ⟨p0,p1,p2,p3,-,-,-,-⟩:=bx4 ((hb.block _ z0).trans X0); refine ⟨?_⟩; go_simp; exact HK.out _ _ kk rfB
 ·exact obq
 ·intro ts W hb hB hp; have h2:ts 2 = _:=hp 2 kR; intro K hK; simp only [fillT,zA,Nat.reduceAdd,sA,sB,sC,h2] at hK ⊢; have HK:=hid hK; clear hK hp; obtain ⟨p0,p1,p2,p3,-,-,-,-⟩:=bx4 ((hb.block _ z1).trans X1); refine ⟨?_⟩; go_simp; exact HK.out _ _ kk rfB
 ·intro ts W hb hB hp; have h1:ts 1 = _:=hp 1 kR; have h3:ts 3 = _:=hp 3 kR; intro K hK; simp only [fillT,zA,Nat.reduceAdd,sA,sB,sC,h1,h3] at hK ⊢; have HK:=hid hK; clear hK hp; refine ⟨?_⟩; go_simp; refine (reach_3 _).mono ?_; rintro e W9 ⟨rfl,hb9⟩; exact HK.out _ _ rfl hb9
 ·exact obq
 ·intro ts W hb hB hp; have h5:ts 5 = _:=hp 5 kR; intro K hK; simp only [fillT,zA,Nat.reduceAdd,sA,sB,sC,h5] at hK ⊢; have HK:=hid hK; clear hK hp; obtain ⟨p0,p1,p2,p3,-,-,-,-⟩:=bx4 ((hb.block _ z0).trans X0); refine ⟨?_⟩; go_simp; exact HK.out _ _ kk rfB
 ·exact obq
 ·intro ts W hb hB hp; have h7:ts 7 = _:=hp 7 kR; intro K hK; simp only [fillT,zA,Nat.reduceAdd,sA,sB,sC,h7] at hK ⊢; have HK:=hid hK; clear hK hp; obtain ⟨p0,p1,p2,p3,-,-,-,-⟩:=bx4 ((hb.block _ z1).trans X1); refine ⟨?_⟩; go_simp; exact HK.out _ _ kk rfB
 ·intro ts W hb hB hp; have h6:ts 6 = _:=hp 6 kR; have h8:ts 8 = _:=hp 8 kR; intro K hK; simp only [fillT,zA,Nat.reduceAdd,sA,sB,sC,h6,h8] at hK ⊢; have HK:=hid hK; clear hK hp; refine ⟨?_⟩; go_simp; refine (reach_4 _).mono ?_; rintro e W9 ⟨rfl,hb9⟩; exact HK.out _ _ rfl hb9
 ·intro ts W hb hB hp; have h4:ts 4 = _:=hp 4 kR; have h9:ts 9 = _:=hp 9 kR; intro K hK; simp only [fillT,zA,Nat.reduceAdd,sA,sB,sC,h4,h9] at hK ⊢; have HK:=hid hK; clear hK hp; refine ⟨?_⟩; go_simp; refine (radd_2 _).mono ?_; rintro e W9 ⟨rfl,hb9⟩; exact HK.out _ _ rfl hb9
 intro ts W3 hb3 hh hap
 have e0:=held_is (hh 0 sP) rfl
 have e1:=held_is (hh 1 sP) rfl
 have e2:=held_is (hh 2 sP) rfl
 have e3:=held_is (hh 3 sP) rfl
 have e4:=held_is (hh 4 sP) rfl
 have e5:=held_is (hh 5 sP) rfl
 have e6:=held_is (hh 6 sP) rfl
 have e7:=held_is (hh 7 sP) rfl
 have e8:=held_is (hh 8 sP) rfl
 have e9:=held_is (hh 9 sP) rfl
 have e10:=held_is (hh 10 sP) rfl
 obtain ⟨g4,e11,lo9,z4,X4⟩:=held_boxG (hh 11 sP) rfl (hh 12 sP) rfl (hh 10 sP) rfl
 simp only [fillT,zA,Nat.reduceAdd,sA,sB,sC,e0,e1,e2,e3,e4,e5,e6,e7,e8,e9,e10,e11]
 clear hh hap e0 e1 e2 e3 e4 e5 e6 e7 e8 e9 e10 e11
 have q0_4:w.heap.size < g4:=oM
 have q1_4:w.heap.size + 1 < g4:=oM
 have q2_4:w.heap.size + 2 < g4:=oM
 have q3_4:g3 < g4:=oM
 clear lo9
 replace X0:=(hb3.block _ z0).trans X0
 replace z0:=lL z0 hb3.size
 replace X1:=(hb3.block _ z1).trans X1
 replace z1:=lL z1 hb3.size
 replace X2:=(hb3.block _ z2).trans X2
 replace z2:=lL z2 hb3.size
 replace X3:=(hb3.block _ z3).trans X3
 replace z3:=lL z3 hb3.size
 replace B:=bT B hb3
 clear hb3
 clear f0_0 f0_1 f0_2 f0_3 y0_0 y0_1 y0_2 y0_3 f1_0 f1_1 f1_2 f1_3 y1_0 y1_1 y1_2 y1_3 f2_0 f2_1 f2_2 f2_3 y2_0 y2_1 y2_2 y2_3 f3_0 f3_1 f3_2 f3_3 f3_4 f3_5 f3_6 f3_7 y3_0 y3_1 y3_2 y3_3 y3_4 y3_5 y3_6 y3_7
 obtain ⟨f0_0,f0_1,f0_2,f0_3,y0_0,y0_1,y0_2,y0_3⟩:=bx4 X0
 obtain ⟨f1_0,f1_1,f1_2,f1_3,y1_0,y1_1,y1_2,y1_3⟩:=bx4 X1
 obtain ⟨f2_0,f2_1,f2_2,f2_3,y2_0,y2_1,y2_2,y2_3⟩:=bx4 X2
 obtain ⟨f3_0,f3_1,f3_2,f3_3,f3_4,f3_5,f3_6,f3_7,y3_0,y3_1,y3_2,y3_3,y3_4,y3_5,y3_6,y3_7⟩:=bx8 X3
 clear f0_0 f0_1 f0_2 f0_3 y0_0 y0_1 y0_2 y0_3 f1_0 f1_1 f1_2 f1_3 y1_0 y1_1 y1_2 y1_3 f2_0 f2_1 f2_2 f2_3 y2_0 y2_1 y2_2 y2_3 f3_0 f3_1 f3_2 f3_3 f3_4 f3_5 f3_6 f3_7 y3_0 y3_1 y3_2 y3_3 y3_4 y3_5 y3_6 y3_7
 obtain ⟨f0_0,f0_1,f0_2,f0_3,y0_0,y0_1,y0_2,y0_3⟩:=bx4 X0
 obtain ⟨f1_0,f1_1,f1_2,f1_3,y1_0,y1_1,y1_2,y1_3⟩:=bx4 X1
 obtain ⟨f2_0,f2_1,f2_2,f2_3,y2_0,y2_1,y2_2,y2_3⟩:=bx4 X2
 obtain ⟨f3_0,f3_1,f3_2,f3_3,f3_4,f3_5,f3_6,f3_7,y3_0,y3_1,y3_2,y3_3,y3_4,y3_5,y3_6,y3_7⟩:=bx8 X3
 obtain ⟨f4_0,f4_1,f4_2,f4_3,f4_4,f4_5,f4_6,f4_7,y4_0,y4_1,y4_2,y4_3,y4_4,y4_5,y4_6,y4_7⟩:=bx8 X4
 go_upto_region 3 with fail
 clear f0_0 f0_1 f0_2 f0_3 y0_0 y0_1 y0_2 y0_3 f1_0 f1_1 f1_2 f1_3 y1_0 y1_1 y1_2 y1_3 f2_0 f2_1 f2_2 f2_3 y2_0 y2_1 y2_2 y2_3 f3_0 f3_1 f3_2 f3_3 f3_4 f3_5 f3_6 f3_7 y3_0 y3_1 y3_2 y3_3 y3_4 y3_5 y3_6 y3_7 f4_0 f4_1 f4_2 f4_3 f4_4 f4_5 f4_6 f4_7 y4_0 y4_1 y4_2 y4_3 y4_4 y4_5 y4_6 y4_7
 obtain ⟨f0_0,f0_1,f0_2,f0_3,y0_0,y0_1,y0_2,y0_3⟩:=bx4 X0
 obtain ⟨f1_0,f1_1,f1_2,f1_3,y1_0,y1_1,y1_2,y1_3⟩:=bx4 X1
 obtain ⟨f2_0,f2_1,f2_2,f2_3,y2_0,y2_1,y2_2,y2_3⟩:=bx4 X2
 obtain ⟨f3_0,f3_1,f3_2,f3_3,f3_4,f3_5,f3_6,f3_7,y3_0,y3_1,y3_2,y3_3,y3_4,y3_5,y3_6,y3_7⟩:=bx8 X3
 obtain ⟨f4_0,f4_1,f4_2,f4_3,f4_4,f4_5,f4_6,f4_7,y4_0,y4_1,y4_2,y4_3,y4_4,y4_5,y4_6,y4_7⟩:=bx8 X4
 refine region_last [.val (kIs (.agg #[.bool false,.int .i64 (-4194304),.int .u64 0,.int .u64 0,.bool false,.int .i64 (-125),.int .u64 9223372036854775808,.int .u64 0])),.val (kIs (.agg #[.float .f64 0,.float .f64 4616189618054758400])),.val (kIs (.agg #[.bool false,.int .i64 (-4194304),.int .u64 0,.int .u64 0,.bool false,.int .i64 (-125),.int .u64 9223372036854775808,.int .u64 0])),.val (kIs (.agg #[.float .f64 0,.float .f64 4616189618054758400])),.val (kIs (.agg #[.float .f64 0,.float .f64 4616189618054758400,.float .f64 0,.float .f64 4616189618054758400]))]
  kR kR kR kR kR ⟨Stab.b (stab_is _),Stab.b (stab_is _),Stab.b (stab_is _),Stab.b (stab_is _),Stab.b (stab_is _),trivial⟩ sP (ol:=_) rfl kR ⟨?_,?_,?_,?_,?_,trivial⟩ ?_
 ·intro ts W hb hB hp K hK; simp only [fillT,zA,Nat.reduceAdd,sA,sB,sC] at hK ⊢; have HK:=hid hK; clear hK hp; obtain ⟨p0,p1,p2,p3,p4,p5,p6,p7,-,-,-,-,-,-,-,-⟩:=bx8 ((hb.block _ z3).trans X3); refine ⟨?_⟩; go_simp; exact HK.out _ _ kk rfB
 ·intro ts W hb hB hp; have h0:ts 0 = _:=hp 0 kR; intro K hK; simp only [fillT,zA,Nat.reduceAdd,sA,sB,sC,h0] at hK ⊢; have HK:=hid hK; clear hK hp; refine ⟨?_⟩; go_simp; refine (rspan_1 _).mono ?_; rintro e W9 ⟨rfl,hb9⟩; exact HK.out _ _ rfl hb9
 ·intro ts W hb hB hp K hK; simp only [fillT,zA,Nat.reduceAdd,sA,sB,sC] at hK ⊢; have HK:=hid hK; clear hK hp; obtain ⟨p0,p1,p2,p3,p4,p5,p6,p7,-,-,-,-,-,-,-,-⟩:=bx8 ((hb.block _ z4).trans X4); refine ⟨?_⟩; go_simp; exact HK.out _ _ kk rfB
 ·intro ts W hb hB hp; have h2:ts 2 = _:=hp 2 kR; intro K hK; simp only [fillT,zA,Nat.reduceAdd,sA,sB,sC,h2] at hK ⊢; have HK:=hid hK; clear hK hp; refine ⟨?_⟩; go_simp; refine (rspan_1 _).mono ?_; rintro e W9 ⟨rfl,hb9⟩; exact HK.out _ _ rfl hb9
 ·intro ts W hb hB hp; have h1:ts 1 = _:=hp 1 kR; have h3:ts 3 = _:=hp 3 kR; intro K hK; simp only [fillT,zA,Nat.reduceAdd,sA,sB,sC,h1,h3] at hK ⊢; have HK:=hid hK; clear hK hp; refine ⟨?_⟩; go_simp; exact HK.out _ _ kk rfB
 intro ts W4 hb4 hh hap K hK
 have e0:=held_is (hh 0 sP) rfl
 have e1:=held_is (hh 1 sP) rfl
 have e2:=held_is (hh 2 sP) rfl
 have e3:=held_is (hh 3 sP) rfl
 have e4:=held_is (hh 4 sP) rfl
 have HK:=hid hK
 clear hK
 simp only [fillT,zA,Nat.reduceAdd,sA,sB,sC,e0,e1,e2,e3,e4]
 clear hh hap e0 e1 e2 e3 e4
 replace X0:=(hb4.block _ z0).trans X0
 replace z0:=lL z0 hb4.size
 replace X1:=(hb4.block _ z1).trans X1
 replace z1:=lL z1 hb4.size
 replace X2:=(hb4.block _ z2).trans X2
 replace z2:=lL z2 hb4.size
 replace X3:=(hb4.block _ z3).trans X3
 replace z3:=lL z3 hb4.size
 replace X4:=(hb4.block _ z4).trans X4
 replace z4:=lL z4 hb4.size
 replace B:=bT B hb4
 clear hb4
 clear f0_0 f0_1 f0_2 f0_3 y0_0 y0_1 y0_2 y0_3 f1_0 f1_1 f1_2 f1_3 y1_0 y1_1 y1_2 y1_3 f2_0 f2_1 f2_2 f2_3 y2_0 y2_1 y2_2 y2_3 f3_0 f3_1 f3_2 f3_3 f3_4 f3_5 f3_6 f3_7 y3_0 y3_1 y3_2 y3_3 y3_4 y3_5 y3_6 y3_7 f4_0 f4_1 f4_2 f4_3 f4_4 f4_5 f4_6 f4_7 y4_0 y4_1 y4_2 y4_3 y4_4 y4_5 y4_6 y4_7
 obtain ⟨f0_0,f0_1,f0_2,f0_3,y0_0,y0_1,y0_2,y0_3⟩:=bx4 X0
 obtain ⟨f1_0,f1_1,f1_2,f1_3,y1_0,y1_1,y1_2,y1_3⟩:=bx4 X1
 obtain ⟨f2_0,f2_1,f2_2,f2_3,y2_0,y2_1,y2_2,y2_3⟩:=bx4 X2
 obtain ⟨f3_0,f3_1,f3_2,f3_3,f3_4,f3_5,f3_6,f3_7,y3_0,y3_1,y3_2,y3_3,y3_4,y3_5,y3_6,y3_7⟩:=bx8 X3
 obtain ⟨f4_0,f4_1,f4_2,f4_3,f4_4,f4_5,f4_6,f4_7,y4_0,y4_1,y4_2,y4_3,y4_4,y4_5,y4_6,y4_7⟩:=bx8 X4
 refine ⟨?_⟩
 refine wp_store_row _ _ _ rfl (w.heap.size + 2) _ rfl rfl _ _ X2 kR rfl (by simp [Value.oneCell']) (HK.out _ _ ?_)
 have hput:=putAt_setRow (cs:=#[.float .f64 0,.float .f64 4616189618054758400,.float .f64 0,.float .f64 4616189618054758400]) X2
 replace B:=hput.below B oM
 clear HK f0_0 f0_1 f0_2 f0_3 y0_0 y0_1 y0_2 y0_3 f1_0 f1_1 f1_2 f1_3 y1_0 y1_1 y1_2 y1_3 f2_0 f2_1 f2_2 f2_3 y2_0 y2_1 y2_2 y2_3 f3_0 f3_1 f3_2 f3_3 f3_4 f3_5 f3_6 f3_7 y3_0 y3_1 y3_2 y3_3 y3_4 y3_5 y3_6 y3_7 f4_0 f4_1 f4_2 f4_3 f4_4 f4_5 f4_6 f4_7 y4_0 y4_1 y4_2 y4_3 y4_4 y4_5 y4_6 y4_7 X0 X1 X2 X3 X4
 generalize W4.setRow (w.heap.size + 2) #[.float .f64 0,.float .f64 4616189618054758400,.float .f64 0,.float .f64 4616189618054758400] = W5 at *
 have X2:=hput.here
 clear hput
 obtain ⟨f2_0,f2_1,f2_2,f2_3,y2_0,y2_1,y2_2,y2_3⟩:=bx4 X2
 go_wp2
 refine bodyPost_ret (v:=.agg #[.float .f64 0,.float .f64 4616189618054758400,.float .f64 0,.float .f64 4616189618054758400]) (by simp [results,Tryz.results44,go_sem,f2_0,f2_1,f2_2,f2_3,y2_0,y2_1,y2_2,y2_3]) rfl ?_
 exact ⟨rfl,B⟩
end Go.Proofs.YtjodlmanheeajaaGreatDoor
