import Derived.Test.YtjodlmanheeajaaGreatDoorR28
import Derived.Test.YtjodlmanheeajaaGreatDoorR02
set_option linter.unusedVariables false
set_option linter.unusedSimpArgs false
set_option maxRecDepth 100000
set_option maxHeartbeats 8000000
namespace Go.Proofs.YtjodlmanheeajaaGreatDoor
open Go.RowKit
theorem lz_run (x n:Nat) (w:World) (hx:x < 18446744073709551616) (hn:Lib.bitLen x = n) (hle:n <= 64):Calls Tryz.prog 172 #[.int .u64 (x:Int)] w fun e w'=>e = .returned (.int .i64 ((64 - n:Nat):Int)) /\ w = w' :=
 (Tryz.bits_LeadingZeros64 (x:Int) w oM oM).mono fun e w' ⟨h1,h2⟩=>⟨by rw [h1,Int.toNat_natCast,hn]; congr 2; omega,h2.symm⟩
theorem mul_run (x y h l:Nat) (w:World) (hx:x < 18446744073709551616) (hy:y < 18446744073709551616) (hh:x * y / 18446744073709551616 = h) (hl:x * y % 18446744073709551616 = l):Calls Tryz.prog 133 #[.int .u64 (x:Int),.int .u64 (y:Int)] w fun e w'=>e = .returned (.tuple #[.int .u64 (h:Int),.int .u64 (l:Int)]) /\ w = w' :=
 (Tryz.bits_Mul64 x y hx hy w).mono fun e w' ⟨h1,h2⟩=>⟨by rw [h1,hh,hl],h2.symm⟩
theorem mul_9223372036854775808_9223372036854775808 (w:World):Calls Tryz.prog 133 #[.int .u64 9223372036854775808,.int .u64 9223372036854775808] w fun e w'=>e = .returned (.tuple #[.int .u64 4611686018427387904,.int .u64 0]) /\ w = w':=mul_run 9223372036854775808 9223372036854775808 4611686018427387904 0 w oM oM dK dK
theorem mul_9223372036854775808_0 (w:World):Calls Tryz.prog 133 #[.int .u64 9223372036854775808,.int .u64 0] w fun e w'=>e = .returned (.tuple #[.int .u64 0,.int .u64 0]) /\ w = w':=mul_run 9223372036854775808 0 0 0 w oM oM dK dK
theorem mul_0_9223372036854775808 (w:World):Calls Tryz.prog 133 #[.int .u64 0,.int .u64 9223372036854775808] w fun e w'=>e = .returned (.tuple #[.int .u64 0,.int .u64 0]) /\ w = w':=mul_run 0 9223372036854775808 0 0 w oM oM dK dK
theorem mul_0_0 (w:World):Calls Tryz.prog 133 #[.int .u64 0,.int .u64 0] w fun e w'=>e = .returned (.tuple #[.int .u64 0,.int .u64 0]) /\ w = w':=mul_run 0 0 0 0 w oM oM dK dK
theorem sb_4607182418800017408 (w:World):Calls Tryz.prog 134 #[.float .f64 4607182418800017408] w fun e w'=>e = .returned (.bool false) /\ w = w':=signbit_any 4607182418800017408 w oM
theorem sb_4611686018427387904 (w:World):Calls Tryz.prog 134 #[.float .f64 4611686018427387904] w fun e w'=>e = .returned (.bool false) /\ w = w':=signbit_any 4611686018427387904 w oM
theorem sb_0 (w:World):Calls Tryz.prog 134 #[.float .f64 0] w fun e w'=>e = .returned (.bool false) /\ w = w':=signbit_any 0 w oM
theorem lz_4611686018427387904 (w:World):Calls Tryz.prog 172 #[.int .u64 4611686018427387904] w fun e w'=>e = .returned (.int .i64 1) /\ w = w':=lz_run 4611686018427387904 63 w oM dK oM
theorem norm_126 (w:World):Calls Tryz.prog 135 #[.agg #[.bool false,.int .i64 (-126),.int .u64 4611686018427387904,.int .u64 0]] w fun e w'=>e = .returned (.agg #[.bool false,.int .i64 (-127),.int .u64 9223372036854775808,.int .u64 0]) /\ Below w.heap.size w w':=by
 have hfb:=floatbits_run
 have k0:bits BinOp.or IntKind.u64 9223372036854775808 0 = 9223372036854775808:=dK
 go_enter Tryz.func135,Tryz.ntmps135
 go_wp2_with fail
 refine (lz_4611686018427387904 _).mono ?_
 rintro e w9 ⟨rfl,rfl⟩
 go_upto_region 7 with fail
 obtain ⟨W1,hW1⟩:∃ W:World,W = (w.alloc (.cells #[.bool false,.int .i64 (-126),.int .u64 4611686018427387904,.int .u64 0] 125)).alloc (.cells #[.bool false,.int .i64 0,.int .u64 0,.int .u64 0] 125):=⟨_,rfl⟩
 rw [<- hW1]
 have X0:W1.heap[w.heap.size]? = some (.cells #[.bool false,.int .i64 (-126),.int .u64 4611686018427387904,.int .u64 0] 125 (0,0)):=by rw [hW1]; exact ((heap_alloc_old _ _ (by first | omega | (simp <;> omega))).trans (alloc_at sP))
 have X1:W1.heap[w.heap.size + 1]? = some (.cells #[.bool false,.int .i64 0,.int .u64 0,.int .u64 0] 125 (0,0)):=by rw [hW1]; exact (alloc_at sP)
 have z0:w.heap.size < W1.heap.size:=by rw [hW1]; simp <;> omega
 have z1:w.heap.size + 1 < W1.heap.size:=by rw [hW1]; simp <;> omega
 have B:Below w.heap.size w W1:=by rw [hW1]; exact (bT (bT (Below.refl w.heap.size w) (below_alloc _ _)) (below_alloc _ _))
 clear hW1
 obtain ⟨f0_0,f0_1,f0_2,f0_3,y0_0,y0_1,y0_2,y0_3⟩:=bx4 X0
 obtain ⟨f1_0,f1_1,f1_2,f1_3,y1_0,y1_1,y1_2,y1_3⟩:=bx4 X1
 refine region_last [.val (kIs (.pointer (some ⟨w.heap.size,2,none⟩))),.val (kIs (.int .u64 4611686018427387904)),.val (kIs (.int .i64 1)),.val (kIs (.int .u64 9223372036854775808)),.val (kIs (.pointer (some ⟨w.heap.size,3,none⟩))),.val (kIs (.int .u64 0)),.val (kIs (.int .i64 1)),.val (kIs (.int .i64 63)),.val (kIs (.int .u64 0)),.val (kIs (.int .u64 9223372036854775808)),.val (kIs (.pointer (some ⟨w.heap.size,2,none⟩)))]
  kR kR kR kR kR ⟨Stab.b (stab_is _),Stab.b (stab_is _),Stab.b (stab_is _),Stab.b (stab_is _),Stab.b (stab_is _),Stab.b (stab_is _),Stab.b (stab_is _),Stab.b (stab_is _),Stab.b (stab_is _),Stab.b (stab_is _),Stab.b (stab_is _),trivial⟩ sP (ol:=_) rfl kR ⟨?_,?_,?_,?_,?_,?_,?_,?_,?_,?_,?_,trivial⟩ ?_
 ·exact obq
 ·intro ts W hb hB hp; have h0:ts 0 = _:=hp 0 kR; intro K hK; simp only [fillT,zA,Nat.reduceAdd,sA,sB,sC,h0] at hK ⊢; have HK:=hid hK; clear hK hp; obtain ⟨p0,p1,p2,p3,-,-,-,-⟩:=bx4 ((hb.block _ z0).trans X0); refine ⟨?_⟩; go_simp; exact HK.out _ _ kk rfB
 ·exact obq
 ·intro ts W hb hB hp; have h1:ts 1 = _:=hp 1 kR; have h2:ts 2 = _:=hp 2 kR; intro K hK; simp only [fillT,zA,Nat.reduceAdd,sA,sB,sC,h1,h2] at hK ⊢; have HK:=hid hK; clear hK hp; refine ⟨?_⟩; go_simp; exact HK.out _ _ kk rfB
 ·exact obq
 ·intro ts W hb hB hp; have h4:ts 4 = _:=hp 4 kR; intro K hK; simp only [fillT,zA,Nat.reduceAdd,sA,sB,sC,h4] at hK ⊢; have HK:=hid hK; clear hK hp; obtain ⟨p0,p1,p2,p3,-,-,-,-⟩:=bx4 ((hb.block _ z0).trans X0); refine ⟨?_⟩; go_simp; exact HK.out _ _ kk rfB
 ·exact obq
 ·intro ts W hb hB hp; have h6:ts 6 = _:=hp 6 kR; intro K hK; simp only [fillT,zA,Nat.reduceAdd,sA,sB,sC,h6] at hK ⊢; have HK:=hid hK; clear hK hp; refine ⟨?_⟩; go_simp; exact HK.out _ _ kk rfB
 ·intro ts W hb hB hp; have h5:ts 5 = _:=hp 5 kR; have h7:ts 7 = _:=hp 7 kR; intro K hK; simp only [fillT,zA,Nat.reduceAdd,sA,sB,sC,h5,h7] at hK ⊢; have HK:=hid hK; clear hK hp; refine ⟨?_⟩; go_simp; exact HK.out _ _ kk rfB
 ·intro ts W hb hB hp; have h3:ts 3 = _:=hp 3 kR; have h8:ts 8 = _:=hp 8 kR; intro K hK; simp only [fillT,zA,Nat.reduceAdd,sA,sB,sC,h3,h8] at hK ⊢; have HK:=hid hK; clear hK hp; refine ⟨?_⟩; go_simp; exact HK.out _ _ kk rfB
 ·exact obq
 intro ts W2 hb2 hh hap K hK
 have e0:=held_is (hh 0 sP) rfl
 have e1:=held_is (hh 1 sP) rfl
 have e2:=held_is (hh 2 sP) rfl
 have e3:=held_is (hh 3 sP) rfl
 have e4:=held_is (hh 4 sP) rfl
 have e5:=held_is (hh 5 sP) rfl
 have e6:=held_is (hh 6 sP) rfl
 have e7:=held_is (hh 7 sP) rfl
 have e8:=held_is (hh 8 sP) rfl
 have e9:=held_is (hh 9 sP) rfl
 have e10:=held_is (hh 10 sP) rfl
 have HK:=hid hK
 clear hK
 simp only [fillT,zA,Nat.reduceAdd,sA,sB,sC,e0,e1,e2,e3,e4,e5,e6,e7,e8,e9,e10]
 clear hh hap e0 e1 e2 e3 e4 e5 e6 e7 e8 e9 e10
 replace X0:=(hb2.block _ z0).trans X0
 replace z0:=lL z0 hb2.size
 replace X1:=(hb2.block _ z1).trans X1
 replace z1:=lL z1 hb2.size
 replace B:=bT B hb2
 clear hb2
 clear f0_0 f0_1 f0_2 f0_3 y0_0 y0_1 y0_2 y0_3 f1_0 f1_1 f1_2 f1_3 y1_0 y1_1 y1_2 y1_3
 obtain ⟨f0_0,f0_1,f0_2,f0_3,y0_0,y0_1,y0_2,y0_3⟩:=bx4 X0
 obtain ⟨f1_0,f1_1,f1_2,f1_3,y1_0,y1_1,y1_2,y1_3⟩:=bx4 X1
 refine ⟨?_⟩
 go_simp
 refine HK.out _ _ ?_
 clear HK
 go_upto_region 10 with fail
 obtain ⟨W3,hW3⟩:∃ W:World,W = ((W2.setCell ⟨w.heap.size,2,none⟩ (.int .u64 9223372036854775808)).setCell ⟨w.heap.size,3,none⟩ (.int .u64 0)).setCell ⟨w.heap.size,1,none⟩ (.int .i64 (-127)):=⟨_,rfl⟩
 rw [<- hW3]
 replace X0:W3.heap[w.heap.size]? = some (.cells #[.bool false,.int .i64 (-127),.int .u64 9223372036854775808,.int .u64 0] 125 (0,0)):=by rw [hW3]; exact (set_same (set_same (set_same X0 _) _) _)
 replace X1:W3.heap[w.heap.size + 1]? = some (.cells #[.bool false,.int .i64 0,.int .u64 0,.int .u64 0] 125 (0,0)):=by rw [hW3]; exact (set_other (set_other (set_other X1 oM _) oM _) oM _)
 replace z0:w.heap.size < W3.heap.size:=by rw [hW3]; simp <;> omega
 replace z1:w.heap.size + 1 < W3.heap.size:=by rw [hW3]; simp <;> omega
 replace B:Below w.heap.size w W3:=by rw [hW3]; exact (Below.setCell (p:=⟨w.heap.size,1,none⟩) (Below.setCell (p:=⟨w.heap.size,3,none⟩) (Below.setCell (p:=⟨w.heap.size,2,none⟩) B (show w.heap.size <= w.heap.size by omega) _) (show w.heap.size <= w.heap.size by omega) _) (show w.heap.size <= w.heap.size by omega) _)
 clear hW3
 clear f0_0 f0_1 f0_2 f0_3 y0_0 y0_1 y0_2 y0_3 f1_0 f1_1 f1_2 f1_3 y1_0 y1_1 y1_2 y1_3
 obtain ⟨f0_0,f0_1,f0_2,f0_3,y0_0,y0_1,y0_2,y0_3⟩:=bx4 X0
 obtain ⟨f1_0,f1_1,f1_2,f1_3,y1_0,y1_1,y1_2,y1_3⟩:=bx4 X1
 go_wp2
 refine bodyPost_ret (v:=.agg #[.bool false,.int .i64 (-127),.int .u64 9223372036854775808,.int .u64 0]) (by simp [results,Tryz.results135,go_sem,f0_0,f0_1,f0_2,f0_3,y0_0,y0_1,y0_2,y0_3,f1_0,f1_1,f1_2,f1_3,y1_0,y1_1,y1_2,y1_3]) rfl ?_
 exact ⟨rfl,(Below.setCell (p:=⟨w.heap.size + 1,3,none⟩) (Below.setCell (p:=⟨w.heap.size + 1,2,none⟩) (Below.setCell (p:=⟨w.heap.size + 1,1,none⟩) (Below.setCell (p:=⟨w.heap.size + 1,0,none⟩) B (show w.heap.size <= w.heap.size + 1 by omega) _) (show w.heap.size <= w.heap.size + 1 by omega) _) (show w.heap.size <= w.heap.size + 1 by omega) _) (show w.heap.size <= w.heap.size + 1 by omega) _)⟩
theorem norm_125 (w:World):Calls Tryz.prog 135 #[.agg #[.bool false,.int .i64 (-125),.int .u64 4611686018427387904,.int .u64 0]] w fun e w'=>e = .returned (.agg #[.bool false,.int .i64 (-126),.int .u64 9223372036854775808,.int .u64 0]) /\ Below w.heap.size w w':=by
 have hfb:=floatbits_run
 have k0:bits BinOp.or IntKind.u64 9223372036854775808 0 = 9223372036854775808:=dK
 go_enter Tryz.func135,Tryz.ntmps135
 go_wp2_with fail
 refine (lz_4611686018427387904 _).mono ?_
 rintro e w9 ⟨rfl,rfl⟩
 go_upto_region 7 with fail
 obtain ⟨W1,hW1⟩:∃ W:World,W = (w.alloc (.cells #[.bool false,.int .i64 (-125),.int .u64 4611686018427387904,.int .u64 0] 125)).alloc (.cells #[.bool false,.int .i64 0,.int .u64 0,.int .u64 0] 125):=⟨_,rfl⟩
 rw [<- hW1]
 have X0:W1.heap[w.heap.size]? = some (.cells #[.bool false,.int .i64 (-125),.int .u64 4611686018427387904,.int .u64 0] 125 (0,0)):=by rw [hW1]; exact ((heap_alloc_old _ _ (by first | omega | (simp <;> omega))).trans (alloc_at sP))
 have X1:W1.heap[w.heap.size + 1]? = some (.cells #[.bool false,.int .i64 0,.int .u64 0,.int .u64 0] 125 (0,0)):=by rw [hW1]; exact (alloc_at sP)
 have z0:w.heap.size < W1.heap.size:=by rw [hW1]; simp <;> omega
 have z1:w.heap.size + 1 < W1.heap.size:=by rw [hW1]; simp <;> omega
 have B:Below w.heap.size w W1:=by rw [hW1]; exact (bT (bT (Below.refl w.heap.size w) (below_alloc _ _)) (below_alloc _ _))
 clear hW1
 obtain ⟨f0_0,f0_1,f0_2,f0_3,y0_0,y0_1,y0_2,y0_3⟩:=bx4 X0
 obtain ⟨f1_0,f1_1,f1_2,f1_3,y1_0,y1_1,y1_2,y1_3⟩:=bx4 X1
 refine region_last [.val (kIs (.pointer (some ⟨w.heap.size,2,none⟩))),.val (kIs (.int .u64 4611686018427387904)),.val (kIs (.int .i64 1)),.val (kIs (.int .u64 9223372036854775808)),.val (kIs (.pointer (some ⟨w.heap.size,3,none⟩))),.val (kIs (.int .u64 0)),.val (kIs (.int .i64 1)),.val (kIs (.int .i64 63)),.val (kIs (.int .u64 0)),.val (kIs (.int .u64 9223372036854775808)),.val (kIs (.pointer (some ⟨w.heap.size,2,none⟩)))]
  kR kR kR kR kR ⟨Stab.b (stab_is _),Stab.b (stab_is _),Stab.b (stab_is _),Stab.b (stab_is _),Stab.b (stab_is _),Stab.b (stab_is _),Stab.b (stab_is _),Stab.b (stab_is _),Stab.b (stab_is _),Stab.b (stab_is _),Stab.b (stab_is _),trivial⟩ sP (ol:=_) rfl kR ⟨?_,?_,?_,?_,?_,?_,?_,?_,?_,?_,?_,trivial⟩ ?_
 ·exact obq
 ·intro ts W hb hB hp; have h0:ts 0 = _:=hp 0 kR; intro K hK; simp only [fillT,zA,Nat.reduceAdd,sA,sB,sC,h0] at hK ⊢; have HK:=hid hK; clear hK hp; obtain ⟨p0,p1,p2,p3,-,-,-,-⟩:=bx4 ((hb.block _ z0).trans X0); refine ⟨?_⟩; go_simp; exact HK.out _ _ kk rfB
 ·exact obq
 ·intro ts W hb hB hp; have h1:ts 1 = _:=hp 1 kR; have h2:ts 2 = _:=hp 2 kR; intro K hK; simp only [fillT,zA,Nat.reduceAdd,sA,sB,sC,h1,h2] at hK ⊢; have HK:=hid hK; clear hK hp; refine ⟨?_⟩; go_simp; exact HK.out _ _ kk rfB
 ·exact obq
 ·intro ts W hb hB hp; have h4:ts 4 = _:=hp 4 kR; intro K hK; simp only [fillT,zA,Nat.reduceAdd,sA,sB,sC,h4] at hK ⊢; have HK:=hid hK; clear hK hp; obtain ⟨p0,p1,p2,p3,-,-,-,-⟩:=bx4 ((hb.block _ z0).trans X0); refine ⟨?_⟩; go_simp; exact HK.out _ _ kk rfB
 ·exact obq
 ·intro ts W hb hB hp; have h6:ts 6 = _:=hp 6 kR; intro K hK; simp only [fillT,zA,Nat.reduceAdd,sA,sB,sC,h6] at hK ⊢; have HK:=hid hK; clear hK hp; refine ⟨?_⟩; go_simp; exact HK.out _ _ kk rfB
 ·intro ts W hb hB hp; have h5:ts 5 = _:=hp 5 kR; have h7:ts 7 = _:=hp 7 kR; intro K hK; simp only [fillT,zA,Nat.reduceAdd,sA,sB,sC,h5,h7] at hK ⊢; have HK:=hid hK; clear hK hp; refine ⟨?_⟩; go_simp; exact HK.out _ _ kk rfB
 ·intro ts W hb hB hp; have h3:ts 3 = _:=hp 3 kR; have h8:ts 8 = _:=hp 8 kR; intro K hK; simp only [fillT,zA,Nat.reduceAdd,sA,sB,sC,h3,h8] at hK ⊢; have HK:=hid hK; clear hK hp; refine ⟨?_⟩; go_simp; exact HK.out _ _ kk rfB
 ·exact obq
 intro ts W2 hb2 hh hap K hK
 have e0:=held_is (hh 0 sP) rfl
 have e1:=held_is (hh 1 sP) rfl
 have e2:=held_is (hh 2 sP) rfl
 have e3:=held_is (hh 3 sP) rfl
 have e4:=held_is (hh 4 sP) rfl
 have e5:=held_is (hh 5 sP) rfl
 have e6:=held_is (hh 6 sP) rfl
 have e7:=held_is (hh 7 sP) rfl
 have e8:=held_is (hh 8 sP) rfl
 have e9:=held_is (hh 9 sP) rfl
 have e10:=held_is (hh 10 sP) rfl
 have HK:=hid hK
 clear hK
 simp only [fillT,zA,Nat.reduceAdd,sA,sB,sC,e0,e1,e2,e3,e4,e5,e6,e7,e8,e9,e10]
 clear hh hap e0 e1 e2 e3 e4 e5 e6 e7 e8 e9 e10
 replace X0:=(hb2.block _ z0).trans X0
 replace z0:=lL z0 hb2.size
 replace X1:=(hb2.block _ z1).trans X1
 replace z1:=lL z1 hb2.size
 replace B:=bT B hb2
 clear hb2
 clear f0_0 f0_1 f0_2 f0_3 y0_0 y0_1 y0_2 y0_3 f1_0 f1_1 f1_2 f1_3 y1_0 y1_1 y1_2 y1_3
 obtain ⟨f0_0,f0_1,f0_2,f0_3,y0_0,y0_1,y0_2,y0_3⟩:=bx4 X0
 obtain ⟨f1_0,f1_1,f1_2,f1_3,y1_0,y1_1,y1_2,y1_3⟩:=bx4 X1
 refine ⟨?_⟩
 go_simp
 refine HK.out _ _ ?_
 clear HK
 go_upto_region 10 with fail
 obtain ⟨W3,hW3⟩:∃ W:World,W = ((W2.setCell ⟨w.heap.size,2,none⟩ (.int .u64 9223372036854775808)).setCell ⟨w.heap.size,3,none⟩ (.int .u64 0)).setCell ⟨w.heap.size,1,none⟩ (.int .i64 (-126)):=⟨_,rfl⟩
 rw [<- hW3]
 replace X0:W3.heap[w.heap.size]? = some (.cells #[.bool false,.int .i64 (-126),.int .u64 9223372036854775808,.int .u64 0] 125 (0,0)):=by rw [hW3]; exact (set_same (set_same (set_same X0 _) _) _)
 replace X1:W3.heap[w.heap.size + 1]? = some (.cells #[.bool false,.int .i64 0,.int .u64 0,.int .u64 0] 125 (0,0)):=by rw [hW3]; exact (set_other (set_other (set_other X1 oM _) oM _) oM _)
 replace z0:w.heap.size < W3.heap.size:=by rw [hW3]; simp <;> omega
 replace z1:w.heap.size + 1 < W3.heap.size:=by rw [hW3]; simp <;> omega
 replace B:Below w.heap.size w W3:=by rw [hW3]; exact (Below.setCell (p:=⟨w.heap.size,1,none⟩) (Below.setCell (p:=⟨w.heap.size,3,none⟩) (Below.setCell (p:=⟨w.heap.size,2,none⟩) B (show w.heap.size <= w.heap.size by omega) _) (show w.heap.size <= w.heap.size by omega) _) (show w.heap.size <= w.heap.size by omega) _)
 clear hW3
 clear f0_0 f0_1 f0_2 f0_3 y0_0 y0_1 y0_2 y0_3 f1_0 f1_1 f1_2 f1_3 y1_0 y1_1 y1_2 y1_3
 obtain ⟨f0_0,f0_1,f0_2,f0_3,y0_0,y0_1,y0_2,y0_3⟩:=bx4 X0
 obtain ⟨f1_0,f1_1,f1_2,f1_3,y1_0,y1_1,y1_2,y1_3⟩:=bx4 X1
 go_wp2
 refine bodyPost_ret (v:=.agg #[.bool false,.int .i64 (-126),.int .u64 9223372036854775808,.int .u64 0]) (by simp [results,Tryz.results135,go_sem,f0_0,f0_1,f0_2,f0_3,y0_0,y0_1,y0_2,y0_3,f1_0,f1_1,f1_2,f1_3,y1_0,y1_1,y1_2,y1_3]) rfl ?_
 exact ⟨rfl,(Below.setCell (p:=⟨w.heap.size + 1,3,none⟩) (Below.setCell (p:=⟨w.heap.size + 1,2,none⟩) (Below.setCell (p:=⟨w.heap.size + 1,1,none⟩) (Below.setCell (p:=⟨w.heap.size + 1,0,none⟩) B (show w.heap.size <= w.heap.size + 1 by omega) _) (show w.heap.size <= w.heap.size + 1 by omega) _) (show w.heap.size <= w.heap.size + 1 by omega) _) (show w.heap.size <= w.heap.size + 1 by omega) _)⟩
theorem norm_124 (w:World):Calls Tryz.prog 135 #[.agg #[.bool false,.int .i64 (-124),.int .u64 4611686018427387904,.int .u64 0]] w fun e w'=>e = .returned (.agg #[.bool false,.int .i64 (-125),.int .u64 9223372036854775808,.int .u64 0]) /\ Below w.heap.size w w':=by
 have hfb:=floatbits_run
 have k0:bits BinOp.or IntKind.u64 9223372036854775808 0 = 9223372036854775808:=dK
 go_enter Tryz.func135,Tryz.ntmps135
 go_wp2_with fail
 refine (lz_4611686018427387904 _).mono ?_
 rintro e w9 ⟨rfl,rfl⟩
 go_upto_region 7 with fail
 obtain ⟨W1,hW1⟩:∃ W:World,W = (w.alloc (.cells #[.bool false,.int .i64 (-124),.int .u64 4611686018427387904,.int .u64 0] 125)).alloc (.cells #[.bool false,.int .i64 0,.int .u64 0,.int .u64 0] 125):=⟨_,rfl⟩
 rw [<- hW1]
 have X0:W1.heap[w.heap.size]? = some (.cells #[.bool false,.int .i64 (-124),.int .u64 4611686018427387904,.int .u64 0] 125 (0,0)):=by rw [hW1]; exact ((heap_alloc_old _ _ (by first | omega | (simp <;> omega))).trans (alloc_at sP))
 have X1:W1.heap[w.heap.size + 1]? = some (.cells #[.bool false,.int .i64 0,.int .u64 0,.int .u64 0] 125 (0,0)):=by rw [hW1]; exact (alloc_at sP)
 have z0:w.heap.size < W1.heap.size:=by rw [hW1]; simp <;> omega
 have z1:w.heap.size + 1 < W1.heap.size:=by rw [hW1]; simp <;> omega
 have B:Below w.heap.size w W1:=by rw [hW1]; exact (bT (bT (Below.refl w.heap.size w) (below_alloc _ _)) (below_alloc _ _))
 clear hW1
 obtain ⟨f0_0,f0_1,f0_2,f0_3,y0_0,y0_1,y0_2,y0_3⟩:=bx4 X0
 obtain ⟨f1_0,f1_1,f1_2,f1_3,y1_0,y1_1,y1_2,y1_3⟩:=bx4 X1
 refine region_last [.val (kIs (.pointer (some ⟨w.heap.size,2,none⟩))),.val (kIs (.int .u64 4611686018427387904)),.val (kIs (.int .i64 1)),.val (kIs (.int .u64 9223372036854775808)),.val (kIs (.pointer (some ⟨w.heap.size,3,none⟩))),.val (kIs (.int .u64 0)),.val (kIs (.int .i64 1)),.val (kIs (.int .i64 63)),.val (kIs (.int .u64 0)),.val (kIs (.int .u64 9223372036854775808)),.val (kIs (.pointer (some ⟨w.heap.size,2,none⟩)))]
  kR kR kR kR kR ⟨Stab.b (stab_is _),Stab.b (stab_is _),Stab.b (stab_is _),Stab.b (stab_is _),Stab.b (stab_is _),Stab.b (stab_is _),Stab.b (stab_is _),Stab.b (stab_is _),Stab.b (stab_is _),Stab.b (stab_is _),Stab.b (stab_is _),trivial⟩ sP (ol:=_) rfl kR ⟨?_,?_,?_,?_,?_,?_,?_,?_,?_,?_,?_,trivial⟩ ?_
 ·exact obq
 ·intro ts W hb hB hp; have h0:ts 0 = _:=hp 0 kR; intro K hK; simp only [fillT,zA,Nat.reduceAdd,sA,sB,sC,h0] at hK ⊢; have HK:=hid hK; clear hK hp; obtain ⟨p0,p1,p2,p3,-,-,-,-⟩:=bx4 ((hb.block _ z0).trans X0); refine ⟨?_⟩; go_simp; exact HK.out _ _ kk rfB
 ·exact obq
 ·intro ts W hb hB hp; have h1:ts 1 = _:=hp 1 kR; have h2:ts 2 = _:=hp 2 kR; intro K hK; simp only [fillT,zA,Nat.reduceAdd,sA,sB,sC,h1,h2] at hK ⊢; have HK:=hid hK; clear hK hp; refine ⟨?_⟩; go_simp; exact HK.out _ _ kk rfB
 ·exact obq
 ·intro ts W hb hB hp; have h4:ts 4 = _:=hp 4 kR; intro K hK; simp only [fillT,zA,Nat.reduceAdd,sA,sB,sC,h4] at hK ⊢; have HK:=hid hK; clear hK hp; obtain ⟨p0,p1,p2,p3,-,-,-,-⟩:=bx4 ((hb.block _ z0).trans X0); refine ⟨?_⟩; go_simp; exact HK.out _ _ kk rfB
 ·exact obq
 ·intro ts W hb hB hp; have h6:ts 6 = _:=hp 6 kR; intro K hK; simp only [fillT,zA,Nat.reduceAdd,sA,sB,sC,h6] at hK ⊢; have HK:=hid hK; clear hK hp; refine ⟨?_⟩; go_simp; exact HK.out _ _ kk rfB
 ·intro ts W hb hB hp; have h5:ts 5 = _:=hp 5 kR; have h7:ts 7 = _:=hp 7 kR; intro K hK; simp only [fillT,zA,Nat.reduceAdd,sA,sB,sC,h5,h7] at hK ⊢; have HK:=hid hK; clear hK hp; refine ⟨?_⟩; go_simp; exact HK.out _ _ kk rfB
 ·intro ts W hb hB hp; have h3:ts 3 = _:=hp 3 kR; have h8:ts 8 = _:=hp 8 kR; intro K hK; simp only [fillT,zA,Nat.reduceAdd,sA,sB,sC,h3,h8] at hK ⊢; have HK:=hid hK; clear hK hp; refine ⟨?_⟩; go_simp; exact HK.out _ _ kk rfB
 ·exact obq
 intro ts W2 hb2 hh hap K hK
 have e0:=held_is (hh 0 sP) rfl
 have e1:=held_is (hh 1 sP) rfl
 have e2:=held_is (hh 2 sP) rfl
 have e3:=held_is (hh 3 sP) rfl
 have e4:=held_is (hh 4 sP) rfl
 have e5:=held_is (hh 5 sP) rfl
 have e6:=held_is (hh 6 sP) rfl
 have e7:=held_is (hh 7 sP) rfl
 have e8:=held_is (hh 8 sP) rfl
 have e9:=held_is (hh 9 sP) rfl
 have e10:=held_is (hh 10 sP) rfl
 have HK:=hid hK
 clear hK
 simp only [fillT,zA,Nat.reduceAdd,sA,sB,sC,e0,e1,e2,e3,e4,e5,e6,e7,e8,e9,e10]
 clear hh hap e0 e1 e2 e3 e4 e5 e6 e7 e8 e9 e10
 replace X0:=(hb2.block _ z0).trans X0
 replace z0:=lL z0 hb2.size
 replace X1:=(hb2.block _ z1).trans X1
 replace z1:=lL z1 hb2.size
 replace B:=bT B hb2
 clear hb2
 clear f0_0 f0_1 f0_2 f0_3 y0_0 y0_1 y0_2 y0_3 f1_0 f1_1 f1_2 f1_3 y1_0 y1_1 y1_2 y1_3
 obtain ⟨f0_0,f0_1,f0_2,f0_3,y0_0,y0_1,y0_2,y0_3⟩:=bx4 X0
 obtain ⟨f1_0,f1_1,f1_2,f1_3,y1_0,y1_1,y1_2,y1_3⟩:=bx4 X1
 refine ⟨?_⟩
 go_simp
 refine HK.out _ _ ?_
 clear HK
 go_upto_region 10 with fail
 obtain ⟨W3,hW3⟩:∃ W:World,W = ((W2.setCell ⟨w.heap.size,2,none⟩ (.int .u64 9223372036854775808)).setCell ⟨w.heap.size,3,none⟩ (.int .u64 0)).setCell ⟨w.heap.size,1,none⟩ (.int .i64 (-125)):=⟨_,rfl⟩
 rw [<- hW3]
 replace X0:W3.heap[w.heap.size]? = some (.cells #[.bool false,.int .i64 (-125),.int .u64 9223372036854775808,.int .u64 0] 125 (0,0)):=by rw [hW3]; exact (set_same (set_same (set_same X0 _) _) _)
 replace X1:W3.heap[w.heap.size + 1]? = some (.cells #[.bool false,.int .i64 0,.int .u64 0,.int .u64 0] 125 (0,0)):=by rw [hW3]; exact (set_other (set_other (set_other X1 oM _) oM _) oM _)
 replace z0:w.heap.size < W3.heap.size:=by rw [hW3]; simp <;> omega
 replace z1:w.heap.size + 1 < W3.heap.size:=by rw [hW3]; simp <;> omega
 replace B:Below w.heap.size w W3:=by rw [hW3]; exact (Below.setCell (p:=⟨w.heap.size,1,none⟩) (Below.setCell (p:=⟨w.heap.size,3,none⟩) (Below.setCell (p:=⟨w.heap.size,2,none⟩) B (show w.heap.size <= w.heap.size by omega) _) (show w.heap.size <= w.heap.size by omega) _) (show w.heap.size <= w.heap.size by omega) _)
 clear hW3
 clear f0_0 f0_1 f0_2 f0_3 y0_0 y0_1 y0_2 y0_3 f1_0 f1_1 f1_2 f1_3 y1_0 y1_1 y1_2 y1_3
 obtain ⟨f0_0,f0_1,f0_2,f0_3,y0_0,y0_1,y0_2,y0_3⟩:=bx4 X0
 obtain ⟨f1_0,f1_1,f1_2,f1_3,y1_0,y1_1,y1_2,y1_3⟩:=bx4 X1
 go_wp2
 refine bodyPost_ret (v:=.agg #[.bool false,.int .i64 (-125),.int .u64 9223372036854775808,.int .u64 0]) (by simp [results,Tryz.results135,go_sem,f0_0,f0_1,f0_2,f0_3,y0_0,y0_1,y0_2,y0_3,f1_0,f1_1,f1_2,f1_3,y1_0,y1_1,y1_2,y1_3]) rfl ?_
 exact ⟨rfl,(Below.setCell (p:=⟨w.heap.size + 1,3,none⟩) (Below.setCell (p:=⟨w.heap.size + 1,2,none⟩) (Below.setCell (p:=⟨w.heap.size + 1,1,none⟩) (Below.setCell (p:=⟨w.heap.size + 1,0,none⟩) B (show w.heap.size <= w.heap.size + 1 by omega) _) (show w.heap.size <= w.heap.size + 1 by omega) _) (show w.heap.size <= w.heap.size + 1 by omega) _) (show w.heap.size <= w.heap.size + 1 by omega) _)⟩
theorem norm0_127 (w:World):Calls Tryz.prog 135 #[.agg #[.bool false,.int .i64 (-127),.int .u64 0,.int .u64 0]] w fun e w'=>e = .returned (.agg #[.bool false,.int .i64 (-4194304),.int .u64 0,.int .u64 0]) /\ Below w.heap.size w w':=by
 have hfb:=floatbits_run
 go_enter Tryz.func135,Tryz.ntmps135
 go_upto_region 2 with fail
 obtain ⟨W1,hW1⟩:∃ W:World,W = (w.alloc (.cells #[.bool false,.int .i64 (-127),.int .u64 0,.int .u64 0] 125)).alloc (.cells #[.bool false,.int .i64 0,.int .u64 0,.int .u64 0] 125):=⟨_,rfl⟩
 rw [<- hW1]
 have X0:W1.heap[w.heap.size]? = some (.cells #[.bool false,.int .i64 (-127),.int .u64 0,.int .u64 0] 125 (0,0)):=by rw [hW1]; exact ((heap_alloc_old _ _ (by first | omega | (simp <;> omega))).trans (alloc_at sP))
 have X1:W1.heap[w.heap.size + 1]? = some (.cells #[.bool false,.int .i64 0,.int .u64 0,.int .u64 0] 125 (0,0)):=by rw [hW1]; exact (alloc_at sP)
 have z0:w.heap.size < W1.heap.size:=by rw [hW1]; simp <;> omega
 have z1:w.heap.size + 1 < W1.heap.size:=by rw [hW1]; simp <;> omega
 have B:Below w.heap.size w W1:=by rw [hW1]; exact (bT (bT (Below.refl w.heap.size w) (below_alloc _ _)) (below_alloc _ _))
 clear hW1
 obtain ⟨f0_0,f0_1,f0_2,f0_3,y0_0,y0_1,y0_2,y0_3⟩:=bx4 X0
 obtain ⟨f1_0,f1_1,f1_2,f1_3,y1_0,y1_1,y1_2,y1_3⟩:=bx4 X1
 go_upto_region 5 with fail
 obtain ⟨W2,hW2⟩:∃ W:World,W = ((W1.setCell ⟨w.heap.size,2,none⟩ (.int .u64 0)).setCell ⟨w.heap.size,3,none⟩ (.int .u64 0)).setCell ⟨w.heap.size,1,none⟩ (.int .i64 (-191)):=⟨_,rfl⟩
 rw [<- hW2]
 replace X0:W2.heap[w.heap.size]? = some (.cells #[.bool false,.int .i64 (-191),.int .u64 0,.int .u64 0] 125 (0,0)):=by rw [hW2]; exact (set_same (set_same (set_same X0 _) _) _)
 replace X1:W2.heap[w.heap.size + 1]? = some (.cells #[.bool false,.int .i64 0,.int .u64 0,.int .u64 0] 125 (0,0)):=by rw [hW2]; exact (set_other (set_other (set_other X1 oM _) oM _) oM _)
 replace z0:w.heap.size < W2.heap.size:=by rw [hW2]; simp <;> omega
 replace z1:w.heap.size + 1 < W2.heap.size:=by rw [hW2]; simp <;> omega
 replace B:Below w.heap.size w W2:=by rw [hW2]; exact (Below.setCell (p:=⟨w.heap.size,1,none⟩) (Below.setCell (p:=⟨w.heap.size,3,none⟩) (Below.setCell (p:=⟨w.heap.size,2,none⟩) B (show w.heap.size <= w.heap.size by omega) _) (show w.heap.size <= w.heap.size by omega) _) (show w.heap.size <= w.heap.size by omega) _)
 clear hW2
 clear f0_0 f0_1 f0_2 f0_3 y0_0 y0_1 y0_2 y0_3 f1_0 f1_1 f1_2 f1_3 y1_0 y1_1 y1_2 y1_3
 obtain ⟨f0_0,f0_1,f0_2,f0_3,y0_0,y0_1,y0_2,y0_3⟩:=bx4 X0
 obtain ⟨f1_0,f1_1,f1_2,f1_3,y1_0,y1_1,y1_2,y1_3⟩:=bx4 X1
 go_wp2
 refine bodyPost_ret (v:=.agg #[.bool false,.int .i64 (-4194304),.int .u64 0,.int .u64 0]) (by simp [results,Tryz.results135,go_sem,f0_0,f0_1,f0_2,f0_3,y0_0,y0_1,y0_2,y0_3,f1_0,f1_1,f1_2,f1_3,y1_0,y1_1,y1_2,y1_3]) rfl ?_
 exact ⟨rfl,(Below.setCell (p:=⟨w.heap.size + 1,3,none⟩) (Below.setCell (p:=⟨w.heap.size + 1,2,none⟩) (Below.setCell (p:=⟨w.heap.size + 1,1,none⟩) (Below.setCell (p:=⟨w.heap.size + 1,0,none⟩) B (show w.heap.size <= w.heap.size + 1 by omega) _) (show w.heap.size <= w.heap.size + 1 by omega) _) (show w.heap.size <= w.heap.size + 1 by omega) _) (show w.heap.size <= w.heap.size + 1 by omega) _)⟩
theorem norm0_126 (w:World):Calls Tryz.prog 135 #[.agg #[.bool false,.int .i64 (-126),.int .u64 0,.int .u64 0]] w fun e w'=>e = .returned (.agg #[.bool false,.int .i64 (-4194304),.int .u64 0,.int .u64 0]) /\ Below w.heap.size w w':=by
 have hfb:=floatbits_run
 go_enter Tryz.func135,Tryz.ntmps135
 go_upto_region 2 with fail
 obtain ⟨W1,hW1⟩:∃ W:World,W = (w.alloc (.cells #[.bool false,.int .i64 (-126),.int .u64 0,.int .u64 0] 125)).alloc (.cells #[.bool false,.int .i64 0,.int .u64 0,.int .u64 0] 125):=⟨_,rfl⟩
 rw [<- hW1]
 have X0:W1.heap[w.heap.size]? = some (.cells #[.bool false,.int .i64 (-126),.int .u64 0,.int .u64 0] 125 (0,0)):=by rw [hW1]; exact ((heap_alloc_old _ _ (by first | omega | (simp <;> omega))).trans (alloc_at sP))
 have X1:W1.heap[w.heap.size + 1]? = some (.cells #[.bool false,.int .i64 0,.int .u64 0,.int .u64 0] 125 (0,0)):=by rw [hW1]; exact (alloc_at sP)
 have z0:w.heap.size < W1.heap.size:=by rw [hW1]; simp <;> omega
 have z1:w.heap.size + 1 < W1.heap.size:=by rw [hW1]; simp <;> omega
 have B:Below w.heap.size w W1:=by rw [hW1]; exact (bT (bT (Below.refl w.heap.size w) (below_alloc _ _)) (below_alloc _ _))
 clear hW1
 obtain ⟨f0_0,f0_1,f0_2,f0_3,y0_0,y0_1,y0_2,y0_3⟩:=bx4 X0
 obtain ⟨f1_0,f1_1,f1_2,f1_3,y1_0,y1_1,y1_2,y1_3⟩:=bx4 X1
 go_upto_region 5 with fail
 obtain ⟨W2,hW2⟩:∃ W:World,W = ((W1.setCell ⟨w.heap.size,2,none⟩ (.int .u64 0)).setCell ⟨w.heap.size,3,none⟩ (.int .u64 0)).setCell ⟨w.heap.size,1,none⟩ (.int .i64 (-190)):=⟨_,rfl⟩
 rw [<- hW2]
 replace X0:W2.heap[w.heap.size]? = some (.cells #[.bool false,.int .i64 (-190),.int .u64 0,.int .u64 0] 125 (0,0)):=by rw [hW2]; exact (set_same (set_same (set_same X0 _) _) _)
 replace X1:W2.heap[w.heap.size + 1]? = some (.cells #[.bool false,.int .i64 0,.int .u64 0,.int .u64 0] 125 (0,0)):=by rw [hW2]; exact (set_other (set_other (set_other X1 oM _) oM _) oM _)
 replace z0:w.heap.size < W2.heap.size:=by rw [hW2]; simp <;> omega
 replace z1:w.heap.size + 1 < W2.heap.size:=by rw [hW2]; simp <;> omega
 replace B:Below w.heap.size w W2:=by rw [hW2]; exact (Below.setCell (p:=⟨w.heap.size,1,none⟩) (Below.setCell (p:=⟨w.heap.size,3,none⟩) (Below.setCell (p:=⟨w.heap.size,2,none⟩) B (show w.heap.size <= w.heap.size by omega) _) (show w.heap.size <= w.heap.size by omega) _) (show w.heap.size <= w.heap.size by omega) _)
 clear hW2
 clear f0_0 f0_1 f0_2 f0_3 y0_0 y0_1 y0_2 y0_3 f1_0 f1_1 f1_2 f1_3 y1_0 y1_1 y1_2 y1_3
 obtain ⟨f0_0,f0_1,f0_2,f0_3,y0_0,y0_1,y0_2,y0_3⟩:=bx4 X0
 obtain ⟨f1_0,f1_1,f1_2,f1_3,y1_0,y1_1,y1_2,y1_3⟩:=bx4 X1
 go_wp2
 refine bodyPost_ret (v:=.agg #[.bool false,.int .i64 (-4194304),.int .u64 0,.int .u64 0]) (by simp [results,Tryz.results135,go_sem,f0_0,f0_1,f0_2,f0_3,y0_0,y0_1,y0_2,y0_3,f1_0,f1_1,f1_2,f1_3,y1_0,y1_1,y1_2,y1_3]) rfl ?_
 exact ⟨rfl,(Below.setCell (p:=⟨w.heap.size + 1,3,none⟩) (Below.setCell (p:=⟨w.heap.size + 1,2,none⟩) (Below.setCell (p:=⟨w.heap.size + 1,1,none⟩) (Below.setCell (p:=⟨w.heap.size + 1,0,none⟩) B (show w.heap.size <= w.heap.size + 1 by omega) _) (show w.heap.size <= w.heap.size + 1 by omega) _) (show w.heap.size <= w.heap.size + 1 by omega) _) (show w.heap.size <= w.heap.size + 1 by omega) _)⟩
theorem norm0_128 (w:World):Calls Tryz.prog 135 #[.agg #[.bool false,.int .i64 (-128),.int .u64 0,.int .u64 0]] w fun e w'=>e = .returned (.agg #[.bool false,.int .i64 (-4194304),.int .u64 0,.int .u64 0]) /\ Below w.heap.size w w':=by
 have hfb:=floatbits_run
 go_enter Tryz.func135,Tryz.ntmps135
 go_upto_region 2 with fail
 obtain ⟨W1,hW1⟩:∃ W:World,W = (w.alloc (.cells #[.bool false,.int .i64 (-128),.int .u64 0,.int .u64 0] 125)).alloc (.cells #[.bool false,.int .i64 0,.int .u64 0,.int .u64 0] 125):=⟨_,rfl⟩
 rw [<- hW1]
 have X0:W1.heap[w.heap.size]? = some (.cells #[.bool false,.int .i64 (-128),.int .u64 0,.int .u64 0] 125 (0,0)):=by rw [hW1]; exact ((heap_alloc_old _ _ (by first | omega | (simp <;> omega))).trans (alloc_at sP))
 have X1:W1.heap[w.heap.size + 1]? = some (.cells #[.bool false,.int .i64 0,.int .u64 0,.int .u64 0] 125 (0,0)):=by rw [hW1]; exact (alloc_at sP)
 have z0:w.heap.size < W1.heap.size:=by rw [hW1]; simp <;> omega
 have z1:w.heap.size + 1 < W1.heap.size:=by rw [hW1]; simp <;> omega
 have B:Below w.heap.size w W1:=by rw [hW1]; exact (bT (bT (Below.refl w.heap.size w) (below_alloc _ _)) (below_alloc _ _))
 clear hW1
 obtain ⟨f0_0,f0_1,f0_2,f0_3,y0_0,y0_1,y0_2,y0_3⟩:=bx4 X0
 obtain ⟨f1_0,f1_1,f1_2,f1_3,y1_0,y1_1,y1_2,y1_3⟩:=bx4 X1
 go_upto_region 5 with fail
 obtain ⟨W2,hW2⟩:∃ W:World,W = ((W1.setCell ⟨w.heap.size,2,none⟩ (.int .u64 0)).setCell ⟨w.heap.size,3,none⟩ (.int .u64 0)).setCell ⟨w.heap.size,1,none⟩ (.int .i64 (-192)):=⟨_,rfl⟩
 rw [<- hW2]
 replace X0:W2.heap[w.heap.size]? = some (.cells #[.bool false,.int .i64 (-192),.int .u64 0,.int .u64 0] 125 (0,0)):=by rw [hW2]; exact (set_same (set_same (set_same X0 _) _) _)
 replace X1:W2.heap[w.heap.size + 1]? = some (.cells #[.bool false,.int .i64 0,.int .u64 0,.int .u64 0] 125 (0,0)):=by rw [hW2]; exact (set_other (set_other (set_other X1 oM _) oM _) oM _)
 replace z0:w.heap.size < W2.heap.size:=by rw [hW2]; simp <;> omega
 replace z1:w.heap.size + 1 < W2.heap.size:=by rw [hW2]; simp <;> omega
 replace B:Below w.heap.size w W2:=by rw [hW2]; exact (Below.setCell (p:=⟨w.heap.size,1,none⟩) (Below.setCell (p:=⟨w.heap.size,3,none⟩) (Below.setCell (p:=⟨w.heap.size,2,none⟩) B (show w.heap.size <= w.heap.size by omega) _) (show w.heap.size <= w.heap.size by omega) _) (show w.heap.size <= w.heap.size by omega) _)
 clear hW2
 clear f0_0 f0_1 f0_2 f0_3 y0_0 y0_1 y0_2 y0_3 f1_0 f1_1 f1_2 f1_3 y1_0 y1_1 y1_2 y1_3
 obtain ⟨f0_0,f0_1,f0_2,f0_3,y0_0,y0_1,y0_2,y0_3⟩:=bx4 X0
 obtain ⟨f1_0,f1_1,f1_2,f1_3,y1_0,y1_1,y1_2,y1_3⟩:=bx4 X1
 go_wp2
 refine bodyPost_ret (v:=.agg #[.bool false,.int .i64 (-4194304),.int .u64 0,.int .u64 0]) (by simp [results,Tryz.results135,go_sem,f0_0,f0_1,f0_2,f0_3,y0_0,y0_1,y0_2,y0_3,f1_0,f1_1,f1_2,f1_3,y1_0,y1_1,y1_2,y1_3]) rfl ?_
 exact ⟨rfl,(Below.setCell (p:=⟨w.heap.size + 1,3,none⟩) (Below.setCell (p:=⟨w.heap.size + 1,2,none⟩) (Below.setCell (p:=⟨w.heap.size + 1,1,none⟩) (Below.setCell (p:=⟨w.heap.size + 1,0,none⟩) B (show w.heap.size <= w.heap.size + 1 by omega) _) (show w.heap.size <= w.heap.size + 1 by omega) _) (show w.heap.size <= w.heap.size + 1 by omega) _) (show w.heap.size <= w.heap.size + 1 by omega) _)⟩
theorem times_11 (w:World):Calls Tryz.prog 87 #[.float .f64 4607182418800017408,.float .f64 4607182418800017408] w fun e w'=>e = .returned (.agg #[.bool false,.int .i64 (-127),.int .u64 9223372036854775808,.int .u64 0]) /\ Below w.heap.size w w':=by
 have hfb:=floatbits_run
 go_enter Tryz.func87,Tryz.ntmps87
 go_wp2_with fail
 refine (mant_1 _).mono ?_
 rintro e w9 ⟨rfl,rfl⟩
 go_wp2_with fail
 refine (mant_1 _).mono ?_
 rintro e w9 ⟨rfl,rfl⟩
 go_wp2_with fail
 refine (mul_9223372036854775808_9223372036854775808 _).mono ?_
 rintro e w9 ⟨rfl,rfl⟩
 go_wp2_with fail
 refine (sb_4607182418800017408 _).mono ?_
 rintro e w9 ⟨rfl,rfl⟩
 go_wp2_with fail
 refine (sb_4607182418800017408 _).mono ?_
 rintro e w9 ⟨rfl,rfl⟩
 go_wp2_with fail
 obtain ⟨W1,hW1⟩:∃ W:World,W = w.alloc (.cells #[.bool false,.int .i64 0,.int .u64 0,.int .u64 0] 125):=⟨_,rfl⟩
 rw [<- hW1]
 have X0:W1.heap[w.heap.size]? = some (.cells #[.bool false,.int .i64 0,.int .u64 0,.int .u64 0] 125 (0,0)):=by rw [hW1]; exact (alloc_at sP)
 have z0:w.heap.size < W1.heap.size:=by rw [hW1]; simp <;> omega
 have B:Below w.heap.size w W1:=by rw [hW1]; exact (bT (Below.refl w.heap.size w) (below_alloc _ _))
 clear hW1
 refine (norm_126 _).mono ?_
 rintro e W2 ⟨rfl,hb2⟩
 replace X0:=(hb2.block _ z0).trans X0
 replace z0:=lL z0 hb2.size
 replace B:=bT B hb2
 clear hb2
 obtain ⟨f0_0,f0_1,f0_2,f0_3,y0_0,y0_1,y0_2,y0_3⟩:=bx4 X0
 go_wp2
 refine bodyPost_ret (v:=.agg #[.bool false,.int .i64 (-127),.int .u64 9223372036854775808,.int .u64 0]) (by simp [results,Tryz.results87,go_sem,f0_0,f0_1,f0_2,f0_3,y0_0,y0_1,y0_2,y0_3]) rfl ?_
 exact ⟨rfl,(Below.setCell (p:=⟨w.heap.size,3,none⟩) (Below.setCell (p:=⟨w.heap.size,2,none⟩) (Below.setCell (p:=⟨w.heap.size,1,none⟩) (Below.setCell (p:=⟨w.heap.size,0,none⟩) B (show w.heap.size <= w.heap.size by omega) _) (show w.heap.size <= w.heap.size by omega) _) (show w.heap.size <= w.heap.size by omega) _) (show w.heap.size <= w.heap.size by omega) _)⟩
theorem times_12 (w:World):Calls Tryz.prog 87 #[.float .f64 4607182418800017408,.float .f64 4611686018427387904] w fun e w'=>e = .returned (.agg #[.bool false,.int .i64 (-126),.int .u64 9223372036854775808,.int .u64 0]) /\ Below w.heap.size w w':=by
 have hfb:=floatbits_run
 go_enter Tryz.func87,Tryz.ntmps87
 go_wp2_with fail
 refine (mant_1 _).mono ?_
 rintro e w9 ⟨rfl,rfl⟩
 go_wp2_with fail
 refine (mant_2 _).mono ?_
 rintro e w9 ⟨rfl,rfl⟩
 go_wp2_with fail
 refine (mul_9223372036854775808_9223372036854775808 _).mono ?_
 rintro e w9 ⟨rfl,rfl⟩
 go_wp2_with fail
 refine (sb_4607182418800017408 _).mono ?_
 rintro e w9 ⟨rfl,rfl⟩
 go_wp2_with fail
 refine (sb_4611686018427387904 _).mono ?_
 rintro e w9 ⟨rfl,rfl⟩
 go_wp2_with fail
 obtain ⟨W1,hW1⟩:∃ W:World,W = w.alloc (.cells #[.bool false,.int .i64 0,.int .u64 0,.int .u64 0] 125):=⟨_,rfl⟩
 rw [<- hW1]
 have X0:W1.heap[w.heap.size]? = some (.cells #[.bool false,.int .i64 0,.int .u64 0,.int .u64 0] 125 (0,0)):=by rw [hW1]; exact (alloc_at sP)
 have z0:w.heap.size < W1.heap.size:=by rw [hW1]; simp <;> omega
 have B:Below w.heap.size w W1:=by rw [hW1]; exact (bT (Below.refl w.heap.size w) (below_alloc _ _))
 clear hW1
 refine (norm_125 _).mono ?_
 rintro e W2 ⟨rfl,hb2⟩
 replace X0:=(hb2.block _ z0).trans X0
 replace z0:=lL z0 hb2.size
 replace B:=bT B hb2
 clear hb2
 obtain ⟨f0_0,f0_1,f0_2,f0_3,y0_0,y0_1,y0_2,y0_3⟩:=bx4 X0
 go_wp2
 refine bodyPost_ret (v:=.agg #[.bool false,.int .i64 (-126),.int .u64 9223372036854775808,.int .u64 0]) (by simp [results,Tryz.results87,go_sem,f0_0,f0_1,f0_2,f0_3,y0_0,y0_1,y0_2,y0_3]) rfl ?_
 exact ⟨rfl,(Below.setCell (p:=⟨w.heap.size,3,none⟩) (Below.setCell (p:=⟨w.heap.size,2,none⟩) (Below.setCell (p:=⟨w.heap.size,1,none⟩) (Below.setCell (p:=⟨w.heap.size,0,none⟩) B (show w.heap.size <= w.heap.size by omega) _) (show w.heap.size <= w.heap.size by omega) _) (show w.heap.size <= w.heap.size by omega) _) (show w.heap.size <= w.heap.size by omega) _)⟩
theorem times_10 (w:World):Calls Tryz.prog 87 #[.float .f64 4607182418800017408,.float .f64 0] w fun e w'=>e = .returned (.agg #[.bool false,.int .i64 (-4194304),.int .u64 0,.int .u64 0]) /\ Below w.heap.size w w':=by
 have hfb:=floatbits_run
 go_enter Tryz.func87,Tryz.ntmps87
 go_wp2_with fail
 refine (mant_1 _).mono ?_
 rintro e w9 ⟨rfl,rfl⟩
 go_wp2_with fail
 refine (mant_0 _).mono ?_
 rintro e w9 ⟨rfl,rfl⟩
 go_wp2_with fail
 refine (mul_9223372036854775808_0 _).mono ?_
 rintro e w9 ⟨rfl,rfl⟩
 go_wp2_with fail
 refine (sb_4607182418800017408 _).mono ?_
 rintro e w9 ⟨rfl,rfl⟩
 go_wp2_with fail
 refine (sb_0 _).mono ?_
 rintro e w9 ⟨rfl,rfl⟩
 go_wp2_with fail
 obtain ⟨W1,hW1⟩:∃ W:World,W = w.alloc (.cells #[.bool false,.int .i64 0,.int .u64 0,.int .u64 0] 125):=⟨_,rfl⟩
 rw [<- hW1]
 have X0:W1.heap[w.heap.size]? = some (.cells #[.bool false,.int .i64 0,.int .u64 0,.int .u64 0] 125 (0,0)):=by rw [hW1]; exact (alloc_at sP)
 have z0:w.heap.size < W1.heap.size:=by rw [hW1]; simp <;> omega
 have B:Below w.heap.size w W1:=by rw [hW1]; exact (bT (Below.refl w.heap.size w) (below_alloc _ _))
 clear hW1
 refine (norm0_127 _).mono ?_
 rintro e W2 ⟨rfl,hb2⟩
 replace X0:=(hb2.block _ z0).trans X0
 replace z0:=lL z0 hb2.size
 replace B:=bT B hb2
 clear hb2
 obtain ⟨f0_0,f0_1,f0_2,f0_3,y0_0,y0_1,y0_2,y0_3⟩:=bx4 X0
 go_wp2
 refine bodyPost_ret (v:=.agg #[.bool false,.int .i64 (-4194304),.int .u64 0,.int .u64 0]) (by simp [results,Tryz.results87,go_sem,f0_0,f0_1,f0_2,f0_3,y0_0,y0_1,y0_2,y0_3]) rfl ?_
 exact ⟨rfl,(Below.setCell (p:=⟨w.heap.size,3,none⟩) (Below.setCell (p:=⟨w.heap.size,2,none⟩) (Below.setCell (p:=⟨w.heap.size,1,none⟩) (Below.setCell (p:=⟨w.heap.size,0,none⟩) B (show w.heap.size <= w.heap.size by omega) _) (show w.heap.size <= w.heap.size by omega) _) (show w.heap.size <= w.heap.size by omega) _) (show w.heap.size <= w.heap.size by omega) _)⟩
theorem times_21 (w:World):Calls Tryz.prog 87 #[.float .f64 4611686018427387904,.float .f64 4607182418800017408] w fun e w'=>e = .returned (.agg #[.bool false,.int .i64 (-126),.int .u64 9223372036854775808,.int .u64 0]) /\ Below w.heap.size w w':=by
 have hfb:=floatbits_run
 go_enter Tryz.func87,Tryz.ntmps87
 go_wp2_with fail
 refine (mant_2 _).mono ?_
 rintro e w9 ⟨rfl,rfl⟩
 go_wp2_with fail
 refine (mant_1 _).mono ?_
 rintro e w9 ⟨rfl,rfl⟩
 go_wp2_with fail
 refine (mul_9223372036854775808_9223372036854775808 _).mono ?_
 rintro e w9 ⟨rfl,rfl⟩
 go_wp2_with fail
 refine (sb_4611686018427387904 _).mono ?_
 rintro e w9 ⟨rfl,rfl⟩
 go_wp2_with fail
 refine (sb_4607182418800017408 _).mono ?_
 rintro e w9 ⟨rfl,rfl⟩
 go_wp2_with fail
 obtain ⟨W1,hW1⟩:∃ W:World,W = w.alloc (.cells #[.bool false,.int .i64 0,.int .u64 0,.int .u64 0] 125):=⟨_,rfl⟩
 rw [<- hW1]
 have X0:W1.heap[w.heap.size]? = some (.cells #[.bool false,.int .i64 0,.int .u64 0,.int .u64 0] 125 (0,0)):=by rw [hW1]; exact (alloc_at sP)
 have z0:w.heap.size < W1.heap.size:=by rw [hW1]; simp <;> omega
 have B:Below w.heap.size w W1:=by rw [hW1]; exact (bT (Below.refl w.heap.size w) (below_alloc _ _))
 clear hW1
 refine (norm_125 _).mono ?_
 rintro e W2 ⟨rfl,hb2⟩
 replace X0:=(hb2.block _ z0).trans X0
 replace z0:=lL z0 hb2.size
 replace B:=bT B hb2
 clear hb2
 obtain ⟨f0_0,f0_1,f0_2,f0_3,y0_0,y0_1,y0_2,y0_3⟩:=bx4 X0
 go_wp2
 refine bodyPost_ret (v:=.agg #[.bool false,.int .i64 (-126),.int .u64 9223372036854775808,.int .u64 0]) (by simp [results,Tryz.results87,go_sem,f0_0,f0_1,f0_2,f0_3,y0_0,y0_1,y0_2,y0_3]) rfl ?_
 exact ⟨rfl,(Below.setCell (p:=⟨w.heap.size,3,none⟩) (Below.setCell (p:=⟨w.heap.size,2,none⟩) (Below.setCell (p:=⟨w.heap.size,1,none⟩) (Below.setCell (p:=⟨w.heap.size,0,none⟩) B (show w.heap.size <= w.heap.size by omega) _) (show w.heap.size <= w.heap.size by omega) _) (show w.heap.size <= w.heap.size by omega) _) (show w.heap.size <= w.heap.size by omega) _)⟩
theorem times_22 (w:World):Calls Tryz.prog 87 #[.float .f64 4611686018427387904,.float .f64 4611686018427387904] w fun e w'=>e = .returned (.agg #[.bool false,.int .i64 (-125),.int .u64 9223372036854775808,.int .u64 0]) /\ Below w.heap.size w w':=by
 have hfb:=floatbits_run
 go_enter Tryz.func87,Tryz.ntmps87
 go_wp2_with fail
 refine (mant_2 _).mono ?_
 rintro e w9 ⟨rfl,rfl⟩
 go_wp2_with fail
 refine (mant_2 _).mono ?_
 rintro e w9 ⟨rfl,rfl⟩
 go_wp2_with fail
 refine (mul_9223372036854775808_9223372036854775808 _).mono ?_
 rintro e w9 ⟨rfl,rfl⟩
 go_wp2_with fail
 refine (sb_4611686018427387904 _).mono ?_
 rintro e w9 ⟨rfl,rfl⟩
 go_wp2_with fail
 refine (sb_4611686018427387904 _).mono ?_
 rintro e w9 ⟨rfl,rfl⟩
 go_wp2_with fail
 obtain ⟨W1,hW1⟩:∃ W:World,W = w.alloc (.cells #[.bool false,.int .i64 0,.int .u64 0,.int .u64 0] 125):=⟨_,rfl⟩
 rw [<- hW1]
 have X0:W1.heap[w.heap.size]? = some (.cells #[.bool false,.int .i64 0,.int .u64 0,.int .u64 0] 125 (0,0)):=by rw [hW1]; exact (alloc_at sP)
 have z0:w.heap.size < W1.heap.size:=by rw [hW1]; simp <;> omega
 have B:Below w.heap.size w W1:=by rw [hW1]; exact (bT (Below.refl w.heap.size w) (below_alloc _ _))
 clear hW1
 refine (norm_124 _).mono ?_
 rintro e W2 ⟨rfl,hb2⟩
 replace X0:=(hb2.block _ z0).trans X0
 replace z0:=lL z0 hb2.size
 replace B:=bT B hb2
 clear hb2
 obtain ⟨f0_0,f0_1,f0_2,f0_3,y0_0,y0_1,y0_2,y0_3⟩:=bx4 X0
 go_wp2
 refine bodyPost_ret (v:=.agg #[.bool false,.int .i64 (-125),.int .u64 9223372036854775808,.int .u64 0]) (by simp [results,Tryz.results87,go_sem,f0_0,f0_1,f0_2,f0_3,y0_0,y0_1,y0_2,y0_3]) rfl ?_
 exact ⟨rfl,(Below.setCell (p:=⟨w.heap.size,3,none⟩) (Below.setCell (p:=⟨w.heap.size,2,none⟩) (Below.setCell (p:=⟨w.heap.size,1,none⟩) (Below.setCell (p:=⟨w.heap.size,0,none⟩) B (show w.heap.size <= w.heap.size by omega) _) (show w.heap.size <= w.heap.size by omega) _) (show w.heap.size <= w.heap.size by omega) _) (show w.heap.size <= w.heap.size by omega) _)⟩
theorem times_20 (w:World):Calls Tryz.prog 87 #[.float .f64 4611686018427387904,.float .f64 0] w fun e w'=>e = .returned (.agg #[.bool false,.int .i64 (-4194304),.int .u64 0,.int .u64 0]) /\ Below w.heap.size w w':=by
 have hfb:=floatbits_run
 go_enter Tryz.func87,Tryz.ntmps87
 go_wp2_with fail
 refine (mant_2 _).mono ?_
 rintro e w9 ⟨rfl,rfl⟩
 go_wp2_with fail
 refine (mant_0 _).mono ?_
 rintro e w9 ⟨rfl,rfl⟩
 go_wp2_with fail
 refine (mul_9223372036854775808_0 _).mono ?_
 rintro e w9 ⟨rfl,rfl⟩
 go_wp2_with fail
 refine (sb_4611686018427387904 _).mono ?_
 rintro e w9 ⟨rfl,rfl⟩
 go_wp2_with fail
 refine (sb_0 _).mono ?_
 rintro e w9 ⟨rfl,rfl⟩
 go_wp2_with fail
 obtain ⟨W1,hW1⟩:∃ W:World,W = w.alloc (.cells #[.bool false,.int .i64 0,.int .u64 0,.int .u64 0] 125):=⟨_,rfl⟩
 rw [<- hW1]
 have X0:W1.heap[w.heap.size]? = some (.cells #[.bool false,.int .i64 0,.int .u64 0,.int .u64 0] 125 (0,0)):=by rw [hW1]; exact (alloc_at sP)
 have z0:w.heap.size < W1.heap.size:=by rw [hW1]; simp <;> omega
 have B:Below w.heap.size w W1:=by rw [hW1]; exact (bT (Below.refl w.heap.size w) (below_alloc _ _))
 clear hW1
 refine (norm0_126 _).mono ?_
 rintro e W2 ⟨rfl,hb2⟩
 replace X0:=(hb2.block _ z0).trans X0
 replace z0:=lL z0 hb2.size
 replace B:=bT B hb2
 clear hb2
 obtain ⟨f0_0,f0_1,f0_2,f0_3,y0_0,y0_1,y0_2,y0_3⟩:=bx4 X0
 go_wp2
 refine bodyPost_ret (v:=.agg #[.bool false,.int .i64 (-4194304),.int .u64 0,.int .u64 0]) (by simp [results,Tryz.results87,go_sem,f0_0,f0_1,f0_2,f0_3,y0_0,y0_1,y0_2,y0_3]) rfl ?_
 exact ⟨rfl,(Below.setCell (p:=⟨w.heap.size,3,none⟩) (Below.setCell (p:=⟨w.heap.size,2,none⟩) (Below.setCell (p:=⟨w.heap.size,1,none⟩) (Below.setCell (p:=⟨w.heap.size,0,none⟩) B (show w.heap.size <= w.heap.size by omega) _) (show w.heap.size <= w.heap.size by omega) _) (show w.heap.size <= w.heap.size by omega) _) (show w.heap.size <= w.heap.size by omega) _)⟩
theorem times_01 (w:World):Calls Tryz.prog 87 #[.float .f64 0,.float .f64 4607182418800017408] w fun e w'=>e = .returned (.agg #[.bool false,.int .i64 (-4194304),.int .u64 0,.int .u64 0]) /\ Below w.heap.size w w':=by
 have hfb:=floatbits_run
 go_enter Tryz.func87,Tryz.ntmps87
 go_wp2_with fail
 refine (mant_0 _).mono ?_
 rintro e w9 ⟨rfl,rfl⟩
 go_wp2_with fail
 refine (mant_1 _).mono ?_
 rintro e w9 ⟨rfl,rfl⟩
 go_wp2_with fail
 refine (mul_0_9223372036854775808 _).mono ?_
 rintro e w9 ⟨rfl,rfl⟩
 go_wp2_with fail
 refine (sb_0 _).mono ?_
 rintro e w9 ⟨rfl,rfl⟩
 go_wp2_with fail
 refine (sb_4607182418800017408 _).mono ?_
 rintro e w9 ⟨rfl,rfl⟩
 go_wp2_with fail
 obtain ⟨W1,hW1⟩:∃ W:World,W = w.alloc (.cells #[.bool false,.int .i64 0,.int .u64 0,.int .u64 0] 125):=⟨_,rfl⟩
 rw [<- hW1]
 have X0:W1.heap[w.heap.size]? = some (.cells #[.bool false,.int .i64 0,.int .u64 0,.int .u64 0] 125 (0,0)):=by rw [hW1]; exact (alloc_at sP)
 have z0:w.heap.size < W1.heap.size:=by rw [hW1]; simp <;> omega
 have B:Below w.heap.size w W1:=by rw [hW1]; exact (bT (Below.refl w.heap.size w) (below_alloc _ _))
 clear hW1
 refine (norm0_127 _).mono ?_
 rintro e W2 ⟨rfl,hb2⟩
 replace X0:=(hb2.block _ z0).trans X0
 replace z0:=lL z0 hb2.size
 replace B:=bT B hb2
 clear hb2
 obtain ⟨f0_0,f0_1,f0_2,f0_3,y0_0,y0_1,y0_2,y0_3⟩:=bx4 X0
 go_wp2
 refine bodyPost_ret (v:=.agg #[.bool false,.int .i64 (-4194304),.int .u64 0,.int .u64 0]) (by simp [results,Tryz.results87,go_sem,f0_0,f0_1,f0_2,f0_3,y0_0,y0_1,y0_2,y0_3]) rfl ?_
 exact ⟨rfl,(Below.setCell (p:=⟨w.heap.size,3,none⟩) (Below.setCell (p:=⟨w.heap.size,2,none⟩) (Below.setCell (p:=⟨w.heap.size,1,none⟩) (Below.setCell (p:=⟨w.heap.size,0,none⟩) B (show w.heap.size <= w.heap.size by omega) _) (show w.heap.size <= w.heap.size by omega) _) (show w.heap.size <= w.heap.size by omega) _) (show w.heap.size <= w.heap.size by omega) _)⟩
theorem times_02 (w:World):Calls Tryz.prog 87 #[.float .f64 0,.float .f64 4611686018427387904] w fun e w'=>e = .returned (.agg #[.bool false,.int .i64 (-4194304),.int .u64 0,.int .u64 0]) /\ Below w.heap.size w w':=by
 have hfb:=floatbits_run
 go_enter Tryz.func87,Tryz.ntmps87
 go_wp2_with fail
 refine (mant_0 _).mono ?_
 rintro e w9 ⟨rfl,rfl⟩
 go_wp2_with fail
 refine (mant_2 _).mono ?_
 rintro e w9 ⟨rfl,rfl⟩
 go_wp2_with fail
 refine (mul_0_9223372036854775808 _).mono ?_
 rintro e w9 ⟨rfl,rfl⟩
 go_wp2_with fail
 refine (sb_0 _).mono ?_
 rintro e w9 ⟨rfl,rfl⟩
 go_wp2_with fail
 refine (sb_4611686018427387904 _).mono ?_
 rintro e w9 ⟨rfl,rfl⟩
 go_wp2_with fail
 obtain ⟨W1,hW1⟩:∃ W:World,W = w.alloc (.cells #[.bool false,.int .i64 0,.int .u64 0,.int .u64 0] 125):=⟨_,rfl⟩
 rw [<- hW1]
 have X0:W1.heap[w.heap.size]? = some (.cells #[.bool false,.int .i64 0,.int .u64 0,.int .u64 0] 125 (0,0)):=by rw [hW1]; exact (alloc_at sP)
 have z0:w.heap.size < W1.heap.size:=by rw [hW1]; simp <;> omega
 have B:Below w.heap.size w W1:=by rw [hW1]; exact (bT (Below.refl w.heap.size w) (below_alloc _ _))
 clear hW1
 refine (norm0_126 _).mono ?_
 rintro e W2 ⟨rfl,hb2⟩
 replace X0:=(hb2.block _ z0).trans X0
 replace z0:=lL z0 hb2.size
 replace B:=bT B hb2
 clear hb2
 obtain ⟨f0_0,f0_1,f0_2,f0_3,y0_0,y0_1,y0_2,y0_3⟩:=bx4 X0
 go_wp2
 refine bodyPost_ret (v:=.agg #[.bool false,.int .i64 (-4194304),.int .u64 0,.int .u64 0]) (by simp [results,Tryz.results87,go_sem,f0_0,f0_1,f0_2,f0_3,y0_0,y0_1,y0_2,y0_3]) rfl ?_
 exact ⟨rfl,(Below.setCell (p:=⟨w.heap.size,3,none⟩) (Below.setCell (p:=⟨w.heap.size,2,none⟩) (Below.setCell (p:=⟨w.heap.size,1,none⟩) (Below.setCell (p:=⟨w.heap.size,0,none⟩) B (show w.heap.size <= w.heap.size by omega) _) (show w.heap.size <= w.heap.size by omega) _) (show w.heap.size <= w.heap.size by omega) _) (show w.heap.size <= w.heap.size by omega) _)⟩
theorem times_00 (w:World):Calls Tryz.prog 87 #[.float .f64 0,.float .f64 0] w fun e w'=>e = .returned (.agg #[.bool false,.int .i64 (-4194304),.int .u64 0,.int .u64 0]) /\ Below w.heap.size w w':=by
 have hfb:=floatbits_run
 go_enter Tryz.func87,Tryz.ntmps87
 go_wp2_with fail
 refine (mant_0 _).mono ?_
 rintro e w9 ⟨rfl,rfl⟩
 go_wp2_with fail
 refine (mant_0 _).mono ?_
 rintro e w9 ⟨rfl,rfl⟩
 go_wp2_with fail
 refine (mul_0_0 _).mono ?_
 rintro e w9 ⟨rfl,rfl⟩
 go_wp2_with fail
 refine (sb_0 _).mono ?_
 rintro e w9 ⟨rfl,rfl⟩
 go_wp2_with fail
 refine (sb_0 _).mono ?_
 rintro e w9 ⟨rfl,rfl⟩
 go_wp2_with fail
 obtain ⟨W1,hW1⟩:∃ W:World,W = w.alloc (.cells #[.bool false,.int .i64 0,.int .u64 0,.int .u64 0] 125):=⟨_,rfl⟩
 rw [<- hW1]
 have X0:W1.heap[w.heap.size]? = some (.cells #[.bool false,.int .i64 0,.int .u64 0,.int .u64 0] 125 (0,0)):=by rw [hW1]; exact (alloc_at sP)
 have z0:w.heap.size < W1.heap.size:=by rw [hW1]; simp <;> omega
 have B:Below w.heap.size w W1:=by rw [hW1]; exact (bT (Below.refl w.heap.size w) (below_alloc _ _))
 clear hW1
 refine (norm0_128 _).mono ?_
 rintro e W2 ⟨rfl,hb2⟩
 replace X0:=(hb2.block _ z0).trans X0
 replace z0:=lL z0 hb2.size
 replace B:=bT B hb2
 clear hb2
 obtain ⟨f0_0,f0_1,f0_2,f0_3,y0_0,y0_1,y0_2,y0_3⟩:=bx4 X0
 go_wp2
 refine bodyPost_ret (v:=.agg #[.bool false,.int .i64 (-4194304),.int .u64 0,.int .u64 0]) (by simp [results,Tryz.results87,go_sem,f0_0,f0_1,f0_2,f0_3,y0_0,y0_1,y0_2,y0_3]) rfl ?_
 exact ⟨rfl,(Below.setCell (p:=⟨w.heap.size,3,none⟩) (Below.setCell (p:=⟨w.heap.size,2,none⟩) (Below.setCell (p:=⟨w.heap.size,1,none⟩) (Below.setCell (p:=⟨w.heap.size,0,none⟩) B (show w.heap.size <= w.heap.size by omega) _) (show w.heap.size <= w.heap.size by omega) _) (show w.heap.size <= w.heap.size by omega) _) (show w.heap.size <= w.heap.size by omega) _)⟩
end Go.Proofs.YtjodlmanheeajaaGreatDoor
