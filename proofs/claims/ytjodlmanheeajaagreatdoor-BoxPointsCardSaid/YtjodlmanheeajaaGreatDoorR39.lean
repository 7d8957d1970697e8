import Derived.Test.YtjodlmanheeajaaGreatDoorR36
import Derived.Test.YtjodlmanheeajaaGreatDoorR38
import Derived.Test.YtjodlmanheeajaaGreatDoorR02
set_option linter.unusedVariables false
set_option linter.unusedSimpArgs false
set_option maxRecDepth 100000
set_option maxHeartbeats 8000000
namespace Go.Proofs.YtjodlmanheeajaaGreatDoor
open Go.RowKit
theorem floats_0 (a b:Nat) (hg:(FloatKind.f64.format.order a b == some Ordering.gt) = false) (w:World):Calls Tryz.prog 56 #[.agg #[.int .u64 (a:Int),.int .u64 (b:Int)]] w fun e w'=>e = .returned (.tuple #[.float .f64 a,.float .f64 b]) /\ Below w.heap.size w w':=by
 have hfb:=floatbits_run
 have hsf:=store_float
 have hfr:=frombits_run
 go_enter Tryz.func56,Tryz.ntmps56
 go_upto_region 1 with fail
 obtain ⟨W1,hW1⟩:∃ W:World,W = w.alloc (.cells #[.int .u64 (a:Int),.int .u64 (b:Int)] 24):=⟨_,rfl⟩
 rw [<- hW1]
 have X0:W1.heap[w.heap.size]? = some (.cells #[.int .u64 (a:Int),.int .u64 (b:Int)] 24 (0,0)):=by rw [hW1]; exact (alloc_at sP)
 have z0:w.heap.size < W1.heap.size:=by rw [hW1]; simp <;> omega
 have B:Below w.heap.size w W1:=by rw [hW1]; exact (bT (Below.refl w.heap.size w) (below_alloc _ _))
 clear hW1
 obtain ⟨f0_0,f0_1,y0_0,y0_1⟩:=bx2 X0
 refine region_lin [.val (kIs (.pointer (some ⟨w.heap.size,0,none⟩))),.val (kIs (.int .u64 (a:Int))),.val (kIs (.float .f64 a)),.val (kIs (.pointer (some ⟨w.heap.size,1,none⟩))),.val (kIs (.int .u64 (b:Int))),.val (kIs (.float .f64 b)),.val (kIs (.float .f64 a)),.val (kIs (.float .f64 b))]
  kR kR kR kR kR ⟨Stab.b (stab_is _),Stab.b (stab_is _),Stab.b (stab_is _),Stab.b (stab_is _),Stab.b (stab_is _),Stab.b (stab_is _),Stab.b (stab_is _),Stab.b (stab_is _),trivial⟩ sP ⟨?_,?_,?_,?_,?_,?_,?_,?_,trivial⟩ ?_
 ·exact obq
 ·intro ts W hb hB hp; have h0:ts 0 = _:=hp 0 kR; intro K hK; simp only [fillT,zA,Nat.reduceAdd,sA,sB,sC,h0] at hK ⊢; have HK:=hid hK; clear hK hp; obtain ⟨p0,p1,-,-⟩:=bx2 ((hb.block _ z0).trans X0); refine ⟨?_⟩; go_simp; exact HK.out _ _ kk rfB
 ·intro ts W hb hB hp; have h1:ts 1 = _:=hp 1 kR; intro K hK; simp only [fillT,zA,Nat.reduceAdd,sA,sB,sC,h1] at hK ⊢; have HK:=hid hK; clear hK hp; refine ⟨?_⟩; go_simp; exact HK.out _ _ kk rfB
 ·exact obq
 ·intro ts W hb hB hp; have h3:ts 3 = _:=hp 3 kR; intro K hK; simp only [fillT,zA,Nat.reduceAdd,sA,sB,sC,h3] at hK ⊢; have HK:=hid hK; clear hK hp; obtain ⟨p0,p1,-,-⟩:=bx2 ((hb.block _ z0).trans X0); refine ⟨?_⟩; go_simp; exact HK.out _ _ kk rfB
 ·intro ts W hb hB hp; have h4:ts 4 = _:=hp 4 kR; intro K hK; simp only [fillT,zA,Nat.reduceAdd,sA,sB,sC,h4] at hK ⊢; have HK:=hid hK; clear hK hp; refine ⟨?_⟩; go_simp; exact HK.out _ _ kk rfB
 ·intro ts W hb hB hp; have h2:ts 2 = _:=hp 2 kR; intro K hK; simp only [fillT,zA,Nat.reduceAdd,sA,sB,sC,h2] at hK ⊢; have HK:=hid hK; clear hK hp; refine ⟨?_⟩; go_simp; exact HK.out _ _ kk rfB
 ·intro ts W hb hB hp; have h5:ts 5 = _:=hp 5 kR; intro K hK; simp only [fillT,zA,Nat.reduceAdd,sA,sB,sC,h5] at hK ⊢; have HK:=hid hK; clear hK hp; refine ⟨?_⟩; go_simp; exact HK.out _ _ kk rfB
 intro ts W2 hb2 hh hap
 have e0:=held_is (hh 0 sP) rfl
 have e1:=held_is (hh 1 sP) rfl
 have e2:=held_is (hh 2 sP) rfl
 have e3:=held_is (hh 3 sP) rfl
 have e4:=held_is (hh 4 sP) rfl
 have e5:=held_is (hh 5 sP) rfl
 have e6:=held_is (hh 6 sP) rfl
 have e7:=held_is (hh 7 sP) rfl
 simp only [fillT,zA,Nat.reduceAdd,sA,sB,sC,e0,e1,e2,e3,e4,e5,e6,e7]
 clear hh hap e0 e1 e2 e3 e4 e5 e6 e7
 replace X0:=(hb2.block _ z0).trans X0
 replace z0:=lL z0 hb2.size
 replace B:=bT B hb2
 clear hb2
 clear f0_0 f0_1 y0_0 y0_1
 obtain ⟨f0_0,f0_1,y0_0,y0_1⟩:=bx2 X0
 go_wp2
 refine bodyPost_ret (v:=.tuple #[.float .f64 a,.float .f64 b]) (by simp [results,Tryz.results56]) rfl ?_
 exact ⟨rfl,B⟩
theorem floats_1 (a b:Nat) (hg:(FloatKind.f64.format.order a b == some Ordering.gt) = true) (w:World):Calls Tryz.prog 56 #[.agg #[.int .u64 (a:Int),.int .u64 (b:Int)]] w fun e w'=>e = .returned (.tuple #[.float .f64 b,.float .f64 a]) /\ Below w.heap.size w w':=by
 have hfb:=floatbits_run
 have hsf:=store_float
 have hfr:=frombits_run
 go_enter Tryz.func56,Tryz.ntmps56
 go_upto_region 1 with fail
 obtain ⟨W1,hW1⟩:∃ W:World,W = w.alloc (.cells #[.int .u64 (a:Int),.int .u64 (b:Int)] 24):=⟨_,rfl⟩
 rw [<- hW1]
 have X0:W1.heap[w.heap.size]? = some (.cells #[.int .u64 (a:Int),.int .u64 (b:Int)] 24 (0,0)):=by rw [hW1]; exact (alloc_at sP)
 have z0:w.heap.size < W1.heap.size:=by rw [hW1]; simp <;> omega
 have B:Below w.heap.size w W1:=by rw [hW1]; exact (bT (Below.refl w.heap.size w) (below_alloc _ _))
 clear hW1
 obtain ⟨f0_0,f0_1,y0_0,y0_1⟩:=bx2 X0
 refine region_lin [.val (kIs (.pointer (some ⟨w.heap.size,0,none⟩))),.val (kIs (.int .u64 (a:Int))),.val (kIs (.float .f64 a)),.val (kIs (.pointer (some ⟨w.heap.size,1,none⟩))),.val (kIs (.int .u64 (b:Int))),.val (kIs (.float .f64 b)),.val (kIs (.float .f64 a)),.val (kIs (.float .f64 b))]
  kR kR kR kR kR ⟨Stab.b (stab_is _),Stab.b (stab_is _),Stab.b (stab_is _),Stab.b (stab_is _),Stab.b (stab_is _),Stab.b (stab_is _),Stab.b (stab_is _),Stab.b (stab_is _),trivial⟩ sP ⟨?_,?_,?_,?_,?_,?_,?_,?_,trivial⟩ ?_
 ·exact obq
 ·intro ts W hb hB hp; have h0:ts 0 = _:=hp 0 kR; intro K hK; simp only [fillT,zA,Nat.reduceAdd,sA,sB,sC,h0] at hK ⊢; have HK:=hid hK; clear hK hp; obtain ⟨p0,p1,-,-⟩:=bx2 ((hb.block _ z0).trans X0); refine ⟨?_⟩; go_simp; exact HK.out _ _ kk rfB
 ·intro ts W hb hB hp; have h1:ts 1 = _:=hp 1 kR; intro K hK; simp only [fillT,zA,Nat.reduceAdd,sA,sB,sC,h1] at hK ⊢; have HK:=hid hK; clear hK hp; refine ⟨?_⟩; go_simp; exact HK.out _ _ kk rfB
 ·exact obq
 ·intro ts W hb hB hp; have h3:ts 3 = _:=hp 3 kR; intro K hK; simp only [fillT,zA,Nat.reduceAdd,sA,sB,sC,h3] at hK ⊢; have HK:=hid hK; clear hK hp; obtain ⟨p0,p1,-,-⟩:=bx2 ((hb.block _ z0).trans X0); refine ⟨?_⟩; go_simp; exact HK.out _ _ kk rfB
 ·intro ts W hb hB hp; have h4:ts 4 = _:=hp 4 kR; intro K hK; simp only [fillT,zA,Nat.reduceAdd,sA,sB,sC,h4] at hK ⊢; have HK:=hid hK; clear hK hp; refine ⟨?_⟩; go_simp; exact HK.out _ _ kk rfB
 ·intro ts W hb hB hp; have h2:ts 2 = _:=hp 2 kR; intro K hK; simp only [fillT,zA,Nat.reduceAdd,sA,sB,sC,h2] at hK ⊢; have HK:=hid hK; clear hK hp; refine ⟨?_⟩; go_simp; exact HK.out _ _ kk rfB
 ·intro ts W hb hB hp; have h5:ts 5 = _:=hp 5 kR; intro K hK; simp only [fillT,zA,Nat.reduceAdd,sA,sB,sC,h5] at hK ⊢; have HK:=hid hK; clear hK hp; refine ⟨?_⟩; go_simp; exact HK.out _ _ kk rfB
 intro ts W2 hb2 hh hap
 have e0:=held_is (hh 0 sP) rfl
 have e1:=held_is (hh 1 sP) rfl
 have e2:=held_is (hh 2 sP) rfl
 have e3:=held_is (hh 3 sP) rfl
 have e4:=held_is (hh 4 sP) rfl
 have e5:=held_is (hh 5 sP) rfl
 have e6:=held_is (hh 6 sP) rfl
 have e7:=held_is (hh 7 sP) rfl
 simp only [fillT,zA,Nat.reduceAdd,sA,sB,sC,e0,e1,e2,e3,e4,e5,e6,e7]
 clear hh hap e0 e1 e2 e3 e4 e5 e6 e7
 replace X0:=(hb2.block _ z0).trans X0
 replace z0:=lL z0 hb2.size
 replace B:=bT B hb2
 clear hb2
 clear f0_0 f0_1 y0_0 y0_1
 obtain ⟨f0_0,f0_1,y0_0,y0_1⟩:=bx2 X0
 go_wp2
 refine bodyPost_ret (v:=.tuple #[.float .f64 b,.float .f64 a]) (by simp [results,Tryz.results56]) rfl ?_
 exact ⟨rfl,B⟩
theorem below_00 (p q r s:Nat) (h1:(FloatKind.f64.format.order q r == some Ordering.lt) = false) (h2:(FloatKind.f64.format.order s p == some Ordering.lt || FloatKind.f64.format.order s p == some Ordering.eq) = false) (w:World):Calls Tryz.prog 12 #[.agg #[.float .f64 p,.float .f64 q],.agg #[.float .f64 r,.float .f64 s]] w fun e w'=>e = .returned (.int .i64 0) /\ Below w.heap.size w w':=by
 have hfb:=floatbits_run
 have hsf:=store_float
 go_enter Tryz.func12,Tryz.ntmps12
 go_wp2
 go_ret
 exact ⟨rfl,(bT (bT (Below.refl w.heap.size w) (below_alloc _ _)) (below_alloc _ _))⟩
theorem rbelow_00 (p q r s:Nat) (h1:(FloatKind.f64.format.order q r == some Ordering.lt) = false) (h2:(FloatKind.f64.format.order p s == some Ordering.gt || FloatKind.f64.format.order p s == some Ordering.eq) = false) (w:World):Calls Tryz.prog 13 #[.agg #[.float .f64 p,.float .f64 q],.agg #[.float .f64 r,.float .f64 s]] w fun e w'=>e = .returned (.int .i64 0) /\ Below w.heap.size w w':=by
 have hfb:=floatbits_run
 have hsf:=store_float
 go_enter Tryz.func13,Tryz.ntmps13
 go_wp2
 go_ret
 exact ⟨rfl,(bT (bT (Below.refl w.heap.size w) (below_alloc _ _)) (below_alloc _ _))⟩
theorem below_01 (p q r s:Nat) (h1:(FloatKind.f64.format.order q r == some Ordering.lt) = false) (h2:(FloatKind.f64.format.order s p == some Ordering.lt || FloatKind.f64.format.order s p == some Ordering.eq) = true) (w:World):Calls Tryz.prog 12 #[.agg #[.float .f64 p,.float .f64 q],.agg #[.float .f64 r,.float .f64 s]] w fun e w'=>e = .returned (.int .i64 2) /\ Below w.heap.size w w':=by
 have hfb:=floatbits_run
 have hsf:=store_float
 go_enter Tryz.func12,Tryz.ntmps12
 go_wp2
 go_ret
 exact ⟨rfl,(bT (bT (Below.refl w.heap.size w) (below_alloc _ _)) (below_alloc _ _))⟩
theorem rbelow_01 (p q r s:Nat) (h1:(FloatKind.f64.format.order q r == some Ordering.lt) = false) (h2:(FloatKind.f64.format.order p s == some Ordering.gt || FloatKind.f64.format.order p s == some Ordering.eq) = true) (w:World):Calls Tryz.prog 13 #[.agg #[.float .f64 p,.float .f64 q],.agg #[.float .f64 r,.float .f64 s]] w fun e w'=>e = .returned (.int .i64 2) /\ Below w.heap.size w w':=by
 have hfb:=floatbits_run
 have hsf:=store_float
 go_enter Tryz.func13,Tryz.ntmps13
 go_wp2
 go_ret
 exact ⟨rfl,(bT (bT (Below.refl w.heap.size w) (below_alloc _ _)) (below_alloc _ _))⟩
theorem below_10 (p q r s:Nat) (h1:(FloatKind.f64.format.order q r == some Ordering.lt) = true) (w:World):Calls Tryz.prog 12 #[.agg #[.float .f64 p,.float .f64 q],.agg #[.float .f64 r,.float .f64 s]] w fun e w'=>e = .returned (.int .i64 1) /\ Below w.heap.size w w':=by
 have hfb:=floatbits_run
 have hsf:=store_float
 go_enter Tryz.func12,Tryz.ntmps12
 go_wp2
 go_ret
 exact ⟨rfl,(bT (bT (Below.refl w.heap.size w) (below_alloc _ _)) (below_alloc _ _))⟩
theorem rbelow_10 (p q r s:Nat) (h1:(FloatKind.f64.format.order q r == some Ordering.lt) = true) (w:World):Calls Tryz.prog 13 #[.agg #[.float .f64 p,.float .f64 q],.agg #[.float .f64 r,.float .f64 s]] w fun e w'=>e = .returned (.int .i64 1) /\ Below w.heap.size w w':=by
 have hfb:=floatbits_run
 have hsf:=store_float
 go_enter Tryz.func13,Tryz.ntmps13
 go_wp2
 go_ret
 exact ⟨rfl,(bT (bT (Below.refl w.heap.size w) (below_alloc _ _)) (below_alloc _ _))⟩
theorem in_00 (p q r s:Nat) (h1:(FloatKind.f64.format.order r p == some Ordering.lt || FloatKind.f64.format.order r p == some Ordering.eq) = false) (w:World):Calls Tryz.prog 14 #[.agg #[.float .f64 p,.float .f64 q],.agg #[.float .f64 r,.float .f64 s]] w fun e w'=>e = .returned (.bool false) /\ Below w.heap.size w w':=by
 have hfb:=floatbits_run
 have hsf:=store_float
 go_enter Tryz.func14,Tryz.ntmps14
 go_wp2
 go_ret
 exact ⟨rfl,(bT (bT (Below.refl w.heap.size w) (below_alloc _ _)) (below_alloc _ _))⟩
theorem rin_00 (p q r s:Nat) (h1:(FloatKind.f64.format.order r p == some Ordering.lt || FloatKind.f64.format.order r p == some Ordering.eq) = false) (w:World):Calls Tryz.prog 15 #[.agg #[.float .f64 p,.float .f64 q],.agg #[.float .f64 r,.float .f64 s]] w fun e w'=>e = .returned (.bool false) /\ Below w.heap.size w w':=by
 have hfb:=floatbits_run
 have hsf:=store_float
 go_enter Tryz.func15,Tryz.ntmps15
 go_wp2
 go_ret
 exact ⟨rfl,(bT (bT (Below.refl w.heap.size w) (below_alloc _ _)) (below_alloc _ _))⟩
theorem in_10 (p q r s:Nat) (h1:(FloatKind.f64.format.order r p == some Ordering.lt || FloatKind.f64.format.order r p == some Ordering.eq) = true) (h2:(FloatKind.f64.format.order q s == some Ordering.lt || FloatKind.f64.format.order q s == some Ordering.eq) = false) (w:World):Calls Tryz.prog 14 #[.agg #[.float .f64 p,.float .f64 q],.agg #[.float .f64 r,.float .f64 s]] w fun e w'=>e = .returned (.bool false) /\ Below w.heap.size w w':=by
 have hfb:=floatbits_run
 have hsf:=store_float
 go_enter Tryz.func14,Tryz.ntmps14
 go_wp2
 go_ret
 exact ⟨rfl,(bT (bT (Below.refl w.heap.size w) (below_alloc _ _)) (below_alloc _ _))⟩
theorem rin_10 (p q r s:Nat) (h1:(FloatKind.f64.format.order r p == some Ordering.lt || FloatKind.f64.format.order r p == some Ordering.eq) = true) (h2:(FloatKind.f64.format.order q s == some Ordering.lt || FloatKind.f64.format.order q s == some Ordering.eq) = false) (w:World):Calls Tryz.prog 15 #[.agg #[.float .f64 p,.float .f64 q],.agg #[.float .f64 r,.float .f64 s]] w fun e w'=>e = .returned (.bool false) /\ Below w.heap.size w w':=by
 have hfb:=floatbits_run
 have hsf:=store_float
 go_enter Tryz.func15,Tryz.ntmps15
 go_wp2
 go_ret
 exact ⟨rfl,(bT (bT (Below.refl w.heap.size w) (below_alloc _ _)) (below_alloc _ _))⟩
theorem in_11 (p q r s:Nat) (h1:(FloatKind.f64.format.order r p == some Ordering.lt || FloatKind.f64.format.order r p == some Ordering.eq) = true) (h2:(FloatKind.f64.format.order q s == some Ordering.lt || FloatKind.f64.format.order q s == some Ordering.eq) = true) (w:World):Calls Tryz.prog 14 #[.agg #[.float .f64 p,.float .f64 q],.agg #[.float .f64 r,.float .f64 s]] w fun e w'=>e = .returned (.bool true) /\ Below w.heap.size w w':=by
 have hfb:=floatbits_run
 have hsf:=store_float
 go_enter Tryz.func14,Tryz.ntmps14
 go_wp2
 go_ret
 exact ⟨rfl,(bT (bT (Below.refl w.heap.size w) (below_alloc _ _)) (below_alloc _ _))⟩
theorem rin_11 (p q r s:Nat) (h1:(FloatKind.f64.format.order r p == some Ordering.lt || FloatKind.f64.format.order r p == some Ordering.eq) = true) (h2:(FloatKind.f64.format.order q s == some Ordering.lt || FloatKind.f64.format.order q s == some Ordering.eq) = true) (w:World):Calls Tryz.prog 15 #[.agg #[.float .f64 p,.float .f64 q],.agg #[.float .f64 r,.float .f64 s]] w fun e w'=>e = .returned (.bool true) /\ Below w.heap.size w w':=by
 have hfb:=floatbits_run
 have hsf:=store_float
 go_enter Tryz.func15,Tryz.ntmps15
 go_wp2
 go_ret
 exact ⟨rfl,(bT (bT (Below.refl w.heap.size w) (below_alloc _ _)) (below_alloc _ _))⟩
theorem span_ok (a b p q l h:Nat) (w:World) (HF:Hid (∀ W,Calls Tryz.prog 56 #[.agg #[.int .u64 (a:Int),.int .u64 (b:Int)]] W fun e w'=>e = .returned (.tuple #[.float .f64 p,.float .f64 q]) /\ Below W.heap.size W w'))
  (HR:Hid (∀ W,Calls Tryz.prog 57 #[.float .f64 p,.float .f64 q] W fun e w'=>e = .returned (.tuple #[.agg #[.float .f64 l,.float .f64 h],.int .i64 0]) /\ Below W.heap.size W w'))
  (HM:Hid (∀ W,Calls Tryz.prog 58 #[.float .f64 p,.float .f64 q] W fun e w'=>e = .returned (.tuple #[.agg #[.float .f64 l,.float .f64 h],.int .i64 0]) /\ Below W.heap.size W w')) :
  Calls Tryz.prog 11 #[.agg #[.int .u64 (a:Int),.int .u64 (b:Int)]] w fun e w'=>e = .returned (.tuple #[.agg #[.float .f64 l,.float .f64 h],.agg #[.float .f64 l,.float .f64 h],.bool true]) /\ Below w.heap.size w w':=by
 have hsf:=store_float
 go_enter Tryz.func11,Tryz.ntmps11
 go_wp2_with fail
 obtain ⟨W1,hW1⟩:∃ W:World,W = ((w.alloc (.cells #[.int .u64 (a:Int),.int .u64 (b:Int)] 24)).alloc (.cells #[.float .f64 0,.float .f64 0] 28)).alloc (.cells #[.float .f64 0,.float .f64 0] 30):=⟨_,rfl⟩
 rw [<- hW1]
 have X:=boxes3 w (.cells #[.int .u64 (a:Int),.int .u64 (b:Int)] 24) (.cells #[.float .f64 0,.float .f64 0] 28) (.cells #[.float .f64 0,.float .f64 0] 30)
 rw [<- hW1] at X
 obtain ⟨X0,z0,X1,z1,X2,z2⟩:=X
 have B:Below w.heap.size w W1:=by rw [hW1]; exact bT (bT (below_alloc _ _) (below_alloc _ _)) (below_alloc _ _)
 clear hW1 X0 z0
 refine (HF.out _).mono ?_
 rintro e W2 ⟨rfl,hb2⟩
 replace X1:=(hb2.block _ z1).trans X1
 replace z1:=lL z1 hb2.size
 replace X2:=(hb2.block _ z2).trans X2
 replace z2:=lL z2 hb2.size
 replace B:=bT B hb2
 clear hb2
 go_wp2_with fail
 refine (HR.out _).mono ?_
 rintro e W3 ⟨rfl,hb3⟩
 replace X1:=(hb3.block _ z1).trans X1
 replace z1:=lL z1 hb3.size
 replace X2:=(hb3.block _ z2).trans X2
 replace z2:=lL z2 hb3.size
 replace B:=bT B hb3
 clear hb3
 go_wp2_with fail
 refine (HM.out _).mono ?_
 rintro e W4 ⟨rfl,hb4⟩
 have X7:=(hb4.block W3.heap.size sP).trans (heap_alloc_new W3 _)
 have z7:W3.heap.size < W4.heap.size:=lL sP hb4.size
 have q1:w.heap.size + 1 < W3.heap.size:=z1
 have q2:w.heap.size + 1 + 1 < W3.heap.size:=z2
 replace X1:=(hb4.block _ sO).trans ((heap_alloc_old W3 _ z1).trans X1)
 replace X2:=(hb4.block _ sO).trans ((heap_alloc_old W3 _ z2).trans X2)
 replace z1:w.heap.size + 1 < W4.heap.size:=oM
 replace z2:w.heap.size + 1 + 1 < W4.heap.size:=oM
 replace B:=bT (bT B (below_alloc _ _)) hb4
 clear hb4
 go_upto_region 6 with fail
 obtain ⟨W5,hW5⟩:∃ W,W = W4.alloc (.cells #[.float .f64 l,.float .f64 h] 28):=⟨_,rfl⟩
 rw [<- hW5]
 have X9:W5.heap[W4.heap.size]? = some (.cells #[.float .f64 l,.float .f64 h] 28 (0,0)):=by rw [hW5]; exact heap_alloc_new W4 _
 replace X7:=(show W5.heap[W3.heap.size]? = W4.heap[W3.heap.size]? by rw [hW5]; exact heap_alloc_old W4 _ z7).trans X7
 replace X1:=(show W5.heap[w.heap.size + 1]? = W4.heap[w.heap.size + 1]? by rw [hW5]; exact heap_alloc_old W4 _ z1).trans X1
 replace X2:=(show W5.heap[w.heap.size + 1 + 1]? = W4.heap[w.heap.size + 1 + 1]? by rw [hW5]; exact heap_alloc_old W4 _ z2).trans X2
 replace B:Below w.heap.size w W5:=by rw [hW5]; exact bT B (below_alloc _ _)
 clear hW5
 obtain ⟨f0,f1,y0,y1⟩:=bx2 X1
 obtain ⟨g0,g1,u0,u1⟩:=bx2 X2
 obtain ⟨j0,j1,-,-⟩:=bx2 X7
 obtain ⟨k0,k1,-,-⟩:=bx2 X9
 have n1:w.heap.size + 1 ≠ W3.heap.size:=oM
 have n2:W3.heap.size ≠ w.heap.size + 1:=oM
 have n3:w.heap.size + 1 + 1 ≠ W3.heap.size:=oM
 have n4:W3.heap.size ≠ w.heap.size + 1 + 1:=oM
 have n5:w.heap.size + 1 ≠ W4.heap.size:=oM
 have n6:W4.heap.size ≠ w.heap.size + 1:=oM
 have n7:w.heap.size + 1 + 1 ≠ W4.heap.size:=oM
 have n8:W4.heap.size ≠ w.heap.size + 1 + 1:=oM
 have n9:w.heap.size + 1 ≠ w.heap.size + 1 + 1:=oM
 have na:w.heap.size + 1 + 1 ≠ w.heap.size + 1:=oM
 clear X1 X2 X7 X9
 go_region_held3 (fun w'=>w'.cell? ⟨W4.heap.size,0,none⟩ = some (.float .f64 l) /\ w'.cell? ⟨W4.heap.size,1,none⟩ = some (.float .f64 h) /\ w'.cell? ⟨W3.heap.size,0,none⟩ = some (.float .f64 l) /\ w'.cell? ⟨W3.heap.size,1,none⟩ = some (.float .f64 h)) (go_keep) (fail)
 go_wp2
 refine bodyPost_ret (v:=.tuple #[.agg #[.float .f64 l,.float .f64 h],.agg #[.float .f64 l,.float .f64 h],.bool true]) (by simp [results,Tryz.results11,go_sem,f0,f1,g0,g1,n9,na]) rfl ?_
 exact ⟨rfl,Below.drew (Below.setCell (p:=⟨w.heap.size + 1 + 1,1,none⟩) (Below.setCell (p:=⟨w.heap.size + 1 + 1,0,none⟩) (Below.setCell (p:=⟨w.heap.size + 1,1,none⟩) (Below.setCell (p:=⟨w.heap.size + 1,0,none⟩) B (show w.heap.size <= w.heap.size + 1 by omega) _) (show w.heap.size <= w.heap.size + 1 by omega) _) (show w.heap.size <= w.heap.size + 1 + 1 by omega) _) (show w.heap.size <= w.heap.size + 1 + 1 by omega) _)⟩
end Go.Proofs.YtjodlmanheeajaaGreatDoor
