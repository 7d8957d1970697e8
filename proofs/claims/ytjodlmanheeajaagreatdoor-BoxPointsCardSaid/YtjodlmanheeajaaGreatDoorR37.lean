import Derived.Test.YtjodlmanheeajaaGreatDoorR35
import Derived.Test.YtjodlmanheeajaaGreatDoorR36
import Derived.Test.YtjodlmanheeajaaGreatDoorR02
set_option linter.unusedVariables false
set_option linter.unusedSimpArgs false
set_option maxRecDepth 100000
set_option maxHeartbeats 8000000
namespace Go.Proofs.YtjodlmanheeajaaGreatDoor
open Go.RowKit
theorem msK_1 (w:World):Calls Tryz.prog 58 #[.float .f64 4607182418800017408,.float .f64 4611686018427387904] w fun e w'=>e = .returned (.tuple #[.agg #[.float .f64 4607182418800017408,.float .f64 4611686018427387904],.int .i64 0]) /\ Below w.heap.size w w':=by
 have:=makeSpan_any 4607182418800017408 4611686018427387904 w
 rwa [show msL 4607182418800017408 4611686018427387904 = 4607182418800017408 by decide +kernel,show msH 4607182418800017408 4611686018427387904 = 4611686018427387904 by decide +kernel,show msK 4607182418800017408 4611686018427387904 = 0 by decide +kernel] at this
theorem msK_2 (w:World):Calls Tryz.prog 58 #[.float .f64 0,.float .f64 4607182418800017408] w fun e w'=>e = .returned (.tuple #[.agg #[.float .f64 0,.float .f64 4607182418800017408],.int .i64 0]) /\ Below w.heap.size w w':=by
 have:=makeSpan_any 0 4607182418800017408 w
 rwa [show msL 0 4607182418800017408 = 0 by decide +kernel,show msH 0 4607182418800017408 = 4607182418800017408 by decide +kernel,show msK 0 4607182418800017408 = 0 by decide +kernel] at this
theorem meK_1 (w:World):Calls Tryz.prog 105 #[.float .f64 0,.float .f64 4607182418800017408] w fun e w'=>e = .returned (.bool true) /\ w = w':=by
 have:=mayEnd_any 0 4607182418800017408 w
 rwa [show mayB 0 4607182418800017408 = true by decide +kernel] at this
theorem makeK_1 (w:World):Calls Tryz.prog 53 #[.complex .f64 4607182418800017408 0,.complex .f64 4611686018427387904 4607182418800017408] w fun e w'=>e = .returned (.tuple #[.agg #[.float .f64 4607182418800017408,.float .f64 4611686018427387904,.float .f64 0,.float .f64 4607182418800017408],.int .i64 0]) /\ Below w.heap.size w w':=by
 have hfb:=floatbits_run
 have hsf:=store_float
 go_enter Tryz.func53,Tryz.ntmps53
 go_upto_region 1 with fail
 obtain ⟨W1,hW1⟩:∃ W:World,W = w.alloc (.cells #[.float .f64 0,.float .f64 0,.float .f64 0,.float .f64 0] 65):=⟨_,rfl⟩
 rw [<- hW1]
 have X0:W1.heap[w.heap.size]? = some (.cells #[.float .f64 0,.float .f64 0,.float .f64 0,.float .f64 0] 65 (0,0)):=by rw [hW1]; exact (alloc_at sP)
 have z0:w.heap.size < W1.heap.size:=by rw [hW1]; simp <;> omega
 have B:Below w.heap.size w W1:=by rw [hW1]; exact (bT (Below.refl w.heap.size w) (below_alloc _ _))
 clear hW1
 obtain ⟨f0_0,f0_1,f0_2,f0_3,y0_0,y0_1,y0_2,y0_3⟩:=bx4 X0
 go_wp2_with fail
 refine (msK_1 _).mono ?_
 rintro e W2 ⟨rfl,hb2⟩
 replace X0:=(hb2.block _ z0).trans X0
 replace z0:=lL z0 hb2.size
 replace B:=bT B hb2
 clear hb2
 clear f0_0 f0_1 f0_2 f0_3 y0_0 y0_1 y0_2 y0_3
 obtain ⟨f0_0,f0_1,f0_2,f0_3,y0_0,y0_1,y0_2,y0_3⟩:=bx4 X0
 go_wp2_with fail
 refine (meK_1 _).mono ?_
 rintro e w9 ⟨rfl,rfl⟩
 go_upto_region 4 with fail
 obtain ⟨W3,hW3⟩:∃ W:World,W = W2.alloc (.cells #[.float .f64 4607182418800017408,.float .f64 4611686018427387904] 28):=⟨_,rfl⟩
 rw [<- hW3]
 replace X0:W3.heap[w.heap.size]? = some (.cells #[.float .f64 0,.float .f64 0,.float .f64 0,.float .f64 0] 65 (0,0)):=by rw [hW3]; exact ((heap_alloc_old _ _ (by first | omega | (simp <;> omega))).trans X0)
 have X1:W3.heap[W2.heap.size]? = some (.cells #[.float .f64 4607182418800017408,.float .f64 4611686018427387904] 28 (0,0)):=by rw [hW3]; exact (alloc_at sP)
 have q0_1:w.heap.size < W2.heap.size:=oM
 replace z0:w.heap.size < W3.heap.size:=by rw [hW3]; simp <;> omega
 have z1:W2.heap.size < W3.heap.size:=by rw [hW3]; simp <;> omega
 replace B:Below w.heap.size w W3:=by rw [hW3]; exact (bT B (below_alloc _ _))
 clear hW3
 clear f0_0 f0_1 f0_2 f0_3 y0_0 y0_1 y0_2 y0_3
 obtain ⟨f0_0,f0_1,f0_2,f0_3,y0_0,y0_1,y0_2,y0_3⟩:=bx4 X0
 obtain ⟨f1_0,f1_1,y1_0,y1_1⟩:=bx2 X1
 go_wp2_with fail
 refine (msK_2 _).mono ?_
 rintro e W4 ⟨rfl,hb4⟩
 replace X0:=(hb4.block _ z0).trans X0
 replace z0:=lL z0 hb4.size
 replace X1:=(hb4.block _ z1).trans X1
 replace z1:=lL z1 hb4.size
 replace B:=bT B hb4
 clear hb4
 clear f0_0 f0_1 f0_2 f0_3 y0_0 y0_1 y0_2 y0_3 f1_0 f1_1 y1_0 y1_1
 obtain ⟨f0_0,f0_1,f0_2,f0_3,y0_0,y0_1,y0_2,y0_3⟩:=bx4 X0
 obtain ⟨f1_0,f1_1,y1_0,y1_1⟩:=bx2 X1
 go_upto_region 7 with fail
 obtain ⟨W5,hW5⟩:∃ W:World,W = W4.alloc (.cells #[.float .f64 0,.float .f64 4607182418800017408] 28):=⟨_,rfl⟩
 rw [<- hW5]
 replace X0:W5.heap[w.heap.size]? = some (.cells #[.float .f64 0,.float .f64 0,.float .f64 0,.float .f64 0] 65 (0,0)):=by rw [hW5]; exact ((heap_alloc_old _ _ (by first | omega | (simp <;> omega))).trans X0)
 replace X1:W5.heap[W2.heap.size]? = some (.cells #[.float .f64 4607182418800017408,.float .f64 4611686018427387904] 28 (0,0)):=by rw [hW5]; exact ((heap_alloc_old _ _ (by first | omega | (simp <;> omega))).trans X1)
 have X2:W5.heap[W4.heap.size]? = some (.cells #[.float .f64 0,.float .f64 4607182418800017408] 28 (0,0)):=by rw [hW5]; exact (alloc_at sP)
 have q0_2:w.heap.size < W4.heap.size:=oM
 have q1_2:W2.heap.size < W4.heap.size:=oM
 replace z0:w.heap.size < W5.heap.size:=by rw [hW5]; simp <;> omega
 replace z1:W2.heap.size < W5.heap.size:=by rw [hW5]; simp <;> omega
 have z2:W4.heap.size < W5.heap.size:=by rw [hW5]; simp <;> omega
 replace B:Below w.heap.size w W5:=by rw [hW5]; exact (bT B (below_alloc _ _))
 clear hW5
 clear f0_0 f0_1 f0_2 f0_3 y0_0 y0_1 y0_2 y0_3 f1_0 f1_1 y1_0 y1_1
 obtain ⟨f0_0,f0_1,f0_2,f0_3,y0_0,y0_1,y0_2,y0_3⟩:=bx4 X0
 obtain ⟨f1_0,f1_1,y1_0,y1_1⟩:=bx2 X1
 obtain ⟨f2_0,f2_1,y2_0,y2_1⟩:=bx2 X2
 go_wp2
 refine bodyPost_ret (v:=.tuple #[.agg #[.float .f64 4607182418800017408,.float .f64 4611686018427387904,.float .f64 0,.float .f64 4607182418800017408],.int .i64 0]) (by simp [results,Tryz.results53,go_sem,f0_0,f0_1,f0_2,f0_3,y0_0,y0_1,y0_2,y0_3,f1_0,f1_1,y1_0,y1_1,f2_0,f2_1,y2_0,y2_1]) rfl ?_
 exact ⟨rfl,(Below.setCell (p:=⟨w.heap.size,3,none⟩) (Below.setCell (p:=⟨w.heap.size,2,none⟩) (Below.setCell (p:=⟨w.heap.size,1,none⟩) (Below.setCell (p:=⟨w.heap.size,0,none⟩) B (show w.heap.size <= w.heap.size by omega) _) (show w.heap.size <= w.heap.size by omega) _) (show w.heap.size <= w.heap.size by omega) _) (show w.heap.size <= w.heap.size by omega) _)⟩
theorem loK_1 (w:World):Calls Tryz.prog 50 #[.agg #[.float .f64 0,.float .f64 4616189618054758400,.float .f64 0,.float .f64 4616189618054758400]] w fun e w'=>e = .returned (.complex .f64 0 0) /\ Below w.heap.size w w':=by
 have hfb:=floatbits_run
 have hsf:=store_float
 go_enter Tryz.func50,Tryz.ntmps50
 go_wp2
 go_ret
 exact ⟨rfl,(bT (Below.refl w.heap.size w) (below_alloc _ _))⟩
theorem hiK_1 (w:World):Calls Tryz.prog 51 #[.agg #[.float .f64 0,.float .f64 4616189618054758400,.float .f64 0,.float .f64 4616189618054758400]] w fun e w'=>e = .returned (.complex .f64 4616189618054758400 4616189618054758400) /\ Below w.heap.size w w':=by
 have hfb:=floatbits_run
 have hsf:=store_float
 go_enter Tryz.func51,Tryz.ntmps51
 go_wp2
 go_ret
 exact ⟨rfl,(bT (Below.refl w.heap.size w) (below_alloc _ _))⟩
theorem loK_2 (w:World):Calls Tryz.prog 50 #[.agg #[.float .f64 4600877379321698713,.float .f64 4607182418800017408,.float .f64 13826050856027422720,.float .f64 0]] w fun e w'=>e = .returned (.complex .f64 4600877379321698713 13826050856027422720) /\ Below w.heap.size w w':=by
 have hfb:=floatbits_run
 have hsf:=store_float
 go_enter Tryz.func50,Tryz.ntmps50
 go_wp2
 go_ret
 exact ⟨rfl,(bT (Below.refl w.heap.size w) (below_alloc _ _))⟩
theorem hiK_2 (w:World):Calls Tryz.prog 51 #[.agg #[.float .f64 4600877379321698713,.float .f64 4607182418800017408,.float .f64 13826050856027422720,.float .f64 0]] w fun e w'=>e = .returned (.complex .f64 4607182418800017408 0) /\ Below w.heap.size w w':=by
 have hfb:=floatbits_run
 have hsf:=store_float
 go_enter Tryz.func51,Tryz.ntmps51
 go_wp2
 go_ret
 exact ⟨rfl,(bT (Below.refl w.heap.size w) (below_alloc _ _))⟩
theorem hasZeroK_1 (w:World):Calls Tryz.prog 107 #[.agg #[.float .f64 0,.float .f64 4616189618054758400]] w fun e w'=>e = .returned (.bool true) /\ Below w.heap.size w w':=by
 have hfb:=floatbits_run
 have hsf:=store_float
 have k0:(FloatKind.f64.format.order 0 0 == some Ordering.lt) = false:=dK
 have k1:(FloatKind.f64.format.order 0 0 == some Ordering.eq) = true:=dK
 have k2:(FloatKind.f64.format.order 0 4616189618054758400 == some Ordering.lt) = true:=dK
 have k3:(FloatKind.f64.format.order 0 4616189618054758400 == some Ordering.eq) = false:=dK
 go_enter Tryz.func107,Tryz.ntmps107
 go_wp2
 go_ret
 exact ⟨rfl,(bT (Below.refl w.heap.size w) (below_alloc _ _))⟩
theorem clearK_1 (w:World):Calls Tryz.prog 55 #[.agg #[.float .f64 0,.float .f64 4616189618054758400,.float .f64 0,.float .f64 4616189618054758400]] w fun e w'=>e = .returned (.bool false) /\ Below w.heap.size w w':=by
 have hfb:=floatbits_run
 have hsf:=store_float
 go_enter Tryz.func55,Tryz.ntmps55
 go_wp2_with fail
 obtain ⟨W1,hW1⟩:∃ W:World,W = w.alloc (.cells #[.float .f64 0,.float .f64 4616189618054758400,.float .f64 0,.float .f64 4616189618054758400] 65):=⟨_,rfl⟩
 rw [<- hW1]
 have X0:W1.heap[w.heap.size]? = some (.cells #[.float .f64 0,.float .f64 4616189618054758400,.float .f64 0,.float .f64 4616189618054758400] 65 (0,0)):=by rw [hW1]; exact (alloc_at sP)
 have z0:w.heap.size < W1.heap.size:=by rw [hW1]; simp <;> omega
 have B:Below w.heap.size w W1:=by rw [hW1]; exact (bT (Below.refl w.heap.size w) (below_alloc _ _))
 clear hW1
 refine (hasZeroK_1 _).mono ?_
 rintro e W2 ⟨rfl,hb2⟩
 replace X0:=(hb2.block _ z0).trans X0
 replace z0:=lL z0 hb2.size
 replace B:=bT B hb2
 clear hb2
 obtain ⟨f0_0,f0_1,f0_2,f0_3,y0_0,y0_1,y0_2,y0_3⟩:=bx4 X0
 go_wp2_with fail
 refine (hasZeroK_1 _).mono ?_
 rintro e W3 ⟨rfl,hb3⟩
 replace X0:=(hb3.block _ z0).trans X0
 replace z0:=lL z0 hb3.size
 replace B:=bT B hb3
 clear hb3
 clear f0_0 f0_1 f0_2 f0_3 y0_0 y0_1 y0_2 y0_3
 obtain ⟨f0_0,f0_1,f0_2,f0_3,y0_0,y0_1,y0_2,y0_3⟩:=bx4 X0
 go_wp2
 go_ret
 exact ⟨rfl,B⟩
theorem awake2K_1 (w:World) (hT:Tab w) (hT6:Tab64 w):Calls Tryz.prog 10 #[] w fun e w'=>e = .returned (.bool true) /\ Below w.heap.size w w':=by
 have hfb:=floatbits_run
 have hsf:=store_float
 have k0:(FloatKind.f64.format.order 0 0 == some Ordering.eq) = true:=dK
 have k1:(FloatKind.f64.format.order 4616189618054758400 4616189618054758400 == some Ordering.eq) = true:=dK
 have k2:(FloatKind.f64.format.order 13826050856027422720 13826050856027422720 == some Ordering.eq) = true:=dK
 have k3:(FloatKind.f64.format.order 4607182418800017408 4607182418800017408 == some Ordering.eq) = true:=dK
 have HT:=hid hT
 have HT6:=hid hT6
 clear hT hT6
 go_enter Tryz.func10,Tryz.ntmps10
 go_wp2_with fail
 obtain ⟨W1,hW1⟩:∃ W:World,W = w:=⟨_,rfl⟩
 rw [<- hW1]
 have B:Below w.heap.size w W1:=by rw [hW1]; exact (Below.refl w.heap.size w)
 clear hW1
 refine (makeK_1 _).mono ?_
 rintro e W2 ⟨rfl,hb2⟩
 replace B:=bT B hb2
 clear hb2
 go_upto_region 2 with fail
 obtain ⟨W3,hW3⟩:∃ W:World,W = W2.alloc (.cells #[.float .f64 4607182418800017408,.float .f64 4611686018427387904,.float .f64 0,.float .f64 4607182418800017408] 65):=⟨_,rfl⟩
 rw [<- hW3]
 have X0:W3.heap[W2.heap.size]? = some (.cells #[.float .f64 4607182418800017408,.float .f64 4611686018427387904,.float .f64 0,.float .f64 4607182418800017408] 65 (0,0)):=by rw [hW3]; exact (alloc_at sP)
 have z0:W2.heap.size < W3.heap.size:=by rw [hW3]; simp <;> omega
 replace B:Below w.heap.size w W3:=by rw [hW3]; exact (bT B (below_alloc _ _))
 clear hW3
 obtain ⟨f0_0,f0_1,f0_2,f0_3,y0_0,y0_1,y0_2,y0_3⟩:=bx4 X0
 go_wp2_with fail
 refine (inv_awake _ (HT.out.below B) (HT6.out.below B)).mono ?_
 rintro e W4 ⟨rfl,hb4⟩
 replace X0:=(hb4.block _ z0).trans X0
 replace z0:=lL z0 hb4.size
 replace B:=bT B hb4
 clear hb4
 clear f0_0 f0_1 f0_2 f0_3 y0_0 y0_1 y0_2 y0_3
 obtain ⟨f0_0,f0_1,f0_2,f0_3,y0_0,y0_1,y0_2,y0_3⟩:=bx4 X0
 go_upto_region 3 with fail
 obtain ⟨W5,hW5⟩:∃ W:World,W = W4.alloc (.cells #[.float .f64 4600877379321698713,.float .f64 4607182418800017408,.float .f64 13826050856027422720,.float .f64 0] 65):=⟨_,rfl⟩
 rw [<- hW5]
 replace X0:W5.heap[W2.heap.size]? = some (.cells #[.float .f64 4607182418800017408,.float .f64 4611686018427387904,.float .f64 0,.float .f64 4607182418800017408] 65 (0,0)):=by rw [hW5]; exact ((heap_alloc_old _ _ (by first | omega | (simp <;> omega))).trans X0)
 have X1:W5.heap[W4.heap.size]? = some (.cells #[.float .f64 4600877379321698713,.float .f64 4607182418800017408,.float .f64 13826050856027422720,.float .f64 0] 65 (0,0)):=by rw [hW5]; exact (alloc_at sP)
 have q0_1:W2.heap.size < W4.heap.size:=oM
 replace z0:W2.heap.size < W5.heap.size:=by rw [hW5]; simp <;> omega
 have z1:W4.heap.size < W5.heap.size:=by rw [hW5]; simp <;> omega
 replace B:Below w.heap.size w W5:=by rw [hW5]; exact (bT B (below_alloc _ _))
 clear hW5
 clear f0_0 f0_1 f0_2 f0_3 y0_0 y0_1 y0_2 y0_3
 obtain ⟨f0_0,f0_1,f0_2,f0_3,y0_0,y0_1,y0_2,y0_3⟩:=bx4 X0
 obtain ⟨f1_0,f1_1,f1_2,f1_3,y1_0,y1_1,y1_2,y1_3⟩:=bx4 X1
 go_wp2_with fail
 refine (bmul_1 _).mono ?_
 rintro e W6 ⟨rfl,hb6⟩
 replace X0:=(hb6.block _ z0).trans X0
 replace z0:=lL z0 hb6.size
 replace X1:=(hb6.block _ z1).trans X1
 replace z1:=lL z1 hb6.size
 replace B:=bT B hb6
 clear hb6
 clear f0_0 f0_1 f0_2 f0_3 y0_0 y0_1 y0_2 y0_3 f1_0 f1_1 f1_2 f1_3 y1_0 y1_1 y1_2 y1_3
 obtain ⟨f0_0,f0_1,f0_2,f0_3,y0_0,y0_1,y0_2,y0_3⟩:=bx4 X0
 obtain ⟨f1_0,f1_1,f1_2,f1_3,y1_0,y1_1,y1_2,y1_3⟩:=bx4 X1
 go_wp2_with fail
 obtain ⟨W7,hW7⟩:∃ W:World,W = W6.alloc (.cells #[.float .f64 0,.float .f64 4616189618054758400,.float .f64 0,.float .f64 4616189618054758400] 65):=⟨_,rfl⟩
 rw [<- hW7]
 replace X0:W7.heap[W2.heap.size]? = some (.cells #[.float .f64 4607182418800017408,.float .f64 4611686018427387904,.float .f64 0,.float .f64 4607182418800017408] 65 (0,0)):=by rw [hW7]; exact ((heap_alloc_old _ _ (by first | omega | (simp <;> omega))).trans X0)
 replace X1:W7.heap[W4.heap.size]? = some (.cells #[.float .f64 4600877379321698713,.float .f64 4607182418800017408,.float .f64 13826050856027422720,.float .f64 0] 65 (0,0)):=by rw [hW7]; exact ((heap_alloc_old _ _ (by first | omega | (simp <;> omega))).trans X1)
 have X2:W7.heap[W6.heap.size]? = some (.cells #[.float .f64 0,.float .f64 4616189618054758400,.float .f64 0,.float .f64 4616189618054758400] 65 (0,0)):=by rw [hW7]; exact (alloc_at sP)
 have q0_2:W2.heap.size < W6.heap.size:=oM
 have q1_2:W4.heap.size < W6.heap.size:=oM
 replace z0:W2.heap.size < W7.heap.size:=by rw [hW7]; simp <;> omega
 replace z1:W4.heap.size < W7.heap.size:=by rw [hW7]; simp <;> omega
 have z2:W6.heap.size < W7.heap.size:=by rw [hW7]; simp <;> omega
 replace B:Below w.heap.size w W7:=by rw [hW7]; exact (bT B (below_alloc _ _))
 clear hW7
 refine (loK_1 _).mono ?_
 rintro e W8 ⟨rfl,hb8⟩
 replace X0:=(hb8.block _ z0).trans X0
 replace z0:=lL z0 hb8.size
 replace X1:=(hb8.block _ z1).trans X1
 replace z1:=lL z1 hb8.size
 replace X2:=(hb8.block _ z2).trans X2
 replace z2:=lL z2 hb8.size
 replace B:=bT B hb8
 clear hb8
 clear f0_0 f0_1 f0_2 f0_3 y0_0 y0_1 y0_2 y0_3 f1_0 f1_1 f1_2 f1_3 y1_0 y1_1 y1_2 y1_3
 obtain ⟨f0_0,f0_1,f0_2,f0_3,y0_0,y0_1,y0_2,y0_3⟩:=bx4 X0
 obtain ⟨f1_0,f1_1,f1_2,f1_3,y1_0,y1_1,y1_2,y1_3⟩:=bx4 X1
 obtain ⟨f2_0,f2_1,f2_2,f2_3,y2_0,y2_1,y2_2,y2_3⟩:=bx4 X2
 go_wp2_with fail
 refine (hiK_1 _).mono ?_
 rintro e W9 ⟨rfl,hb9⟩
 replace X0:=(hb9.block _ z0).trans X0
 replace z0:=lL z0 hb9.size
 replace X1:=(hb9.block _ z1).trans X1
 replace z1:=lL z1 hb9.size
 replace X2:=(hb9.block _ z2).trans X2
 replace z2:=lL z2 hb9.size
 replace B:=bT B hb9
 clear hb9
 clear f0_0 f0_1 f0_2 f0_3 y0_0 y0_1 y0_2 y0_3 f1_0 f1_1 f1_2 f1_3 y1_0 y1_1 y1_2 y1_3 f2_0 f2_1 f2_2 f2_3 y2_0 y2_1 y2_2 y2_3
 obtain ⟨f0_0,f0_1,f0_2,f0_3,y0_0,y0_1,y0_2,y0_3⟩:=bx4 X0
 obtain ⟨f1_0,f1_1,f1_2,f1_3,y1_0,y1_1,y1_2,y1_3⟩:=bx4 X1
 obtain ⟨f2_0,f2_1,f2_2,f2_3,y2_0,y2_1,y2_2,y2_3⟩:=bx4 X2
 go_wp2_with fail
 refine (loK_2 _).mono ?_
 rintro e W10 ⟨rfl,hb10⟩
 replace X0:=(hb10.block _ z0).trans X0
 replace z0:=lL z0 hb10.size
 replace X1:=(hb10.block _ z1).trans X1
 replace z1:=lL z1 hb10.size
 replace X2:=(hb10.block _ z2).trans X2
 replace z2:=lL z2 hb10.size
 replace B:=bT B hb10
 clear hb10
 clear f0_0 f0_1 f0_2 f0_3 y0_0 y0_1 y0_2 y0_3 f1_0 f1_1 f1_2 f1_3 y1_0 y1_1 y1_2 y1_3 f2_0 f2_1 f2_2 f2_3 y2_0 y2_1 y2_2 y2_3
 obtain ⟨f0_0,f0_1,f0_2,f0_3,y0_0,y0_1,y0_2,y0_3⟩:=bx4 X0
 obtain ⟨f1_0,f1_1,f1_2,f1_3,y1_0,y1_1,y1_2,y1_3⟩:=bx4 X1
 obtain ⟨f2_0,f2_1,f2_2,f2_3,y2_0,y2_1,y2_2,y2_3⟩:=bx4 X2
 go_wp2_with fail
 refine (hiK_2 _).mono ?_
 rintro e W11 ⟨rfl,hb11⟩
 replace X0:=(hb11.block _ z0).trans X0
 replace z0:=lL z0 hb11.size
 replace X1:=(hb11.block _ z1).trans X1
 replace z1:=lL z1 hb11.size
 replace X2:=(hb11.block _ z2).trans X2
 replace z2:=lL z2 hb11.size
 replace B:=bT B hb11
 clear hb11
 clear f0_0 f0_1 f0_2 f0_3 y0_0 y0_1 y0_2 y0_3 f1_0 f1_1 f1_2 f1_3 y1_0 y1_1 y1_2 y1_3 f2_0 f2_1 f2_2 f2_3 y2_0 y2_1 y2_2 y2_3
 obtain ⟨f0_0,f0_1,f0_2,f0_3,y0_0,y0_1,y0_2,y0_3⟩:=bx4 X0
 obtain ⟨f1_0,f1_1,f1_2,f1_3,y1_0,y1_1,y1_2,y1_3⟩:=bx4 X1
 obtain ⟨f2_0,f2_1,f2_2,f2_3,y2_0,y2_1,y2_2,y2_3⟩:=bx4 X2
 go_wp2_with fail
 refine (clearI_1 _).mono ?_
 rintro e W12 ⟨rfl,hb12⟩
 replace X0:=(hb12.block _ z0).trans X0
 replace z0:=lL z0 hb12.size
 replace X1:=(hb12.block _ z1).trans X1
 replace z1:=lL z1 hb12.size
 replace X2:=(hb12.block _ z2).trans X2
 replace z2:=lL z2 hb12.size
 replace B:=bT B hb12
 clear hb12
 clear f0_0 f0_1 f0_2 f0_3 y0_0 y0_1 y0_2 y0_3 f1_0 f1_1 f1_2 f1_3 y1_0 y1_1 y1_2 y1_3 f2_0 f2_1 f2_2 f2_3 y2_0 y2_1 y2_2 y2_3
 obtain ⟨f0_0,f0_1,f0_2,f0_3,y0_0,y0_1,y0_2,y0_3⟩:=bx4 X0
 obtain ⟨f1_0,f1_1,f1_2,f1_3,y1_0,y1_1,y1_2,y1_3⟩:=bx4 X1
 obtain ⟨f2_0,f2_1,f2_2,f2_3,y2_0,y2_1,y2_2,y2_3⟩:=bx4 X2
 go_wp2_with fail
 refine (clearK_1 _).mono ?_
 rintro e W13 ⟨rfl,hb13⟩
 replace X0:=(hb13.block _ z0).trans X0
 replace z0:=lL z0 hb13.size
 replace X1:=(hb13.block _ z1).trans X1
 replace z1:=lL z1 hb13.size
 replace X2:=(hb13.block _ z2).trans X2
 replace z2:=lL z2 hb13.size
 replace B:=bT B hb13
 clear hb13
 clear f0_0 f0_1 f0_2 f0_3 y0_0 y0_1 y0_2 y0_3 f1_0 f1_1 f1_2 f1_3 y1_0 y1_1 y1_2 y1_3 f2_0 f2_1 f2_2 f2_3 y2_0 y2_1 y2_2 y2_3
 obtain ⟨f0_0,f0_1,f0_2,f0_3,y0_0,y0_1,y0_2,y0_3⟩:=bx4 X0
 obtain ⟨f1_0,f1_1,f1_2,f1_3,y1_0,y1_1,y1_2,y1_3⟩:=bx4 X1
 obtain ⟨f2_0,f2_1,f2_2,f2_3,y2_0,y2_1,y2_2,y2_3⟩:=bx4 X2
 go_wp2
 go_ret
 exact ⟨rfl,B⟩
end Go.Proofs.YtjodlmanheeajaaGreatDoor
