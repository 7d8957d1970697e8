import Derived.Test.YtjodlmanheeajaaGreatDoorR33
import Derived.Test.YtjodlmanheeajaaGreatDoorR34
import Derived.Test.YtjodlmanheeajaaGreatDoorR02
set_option linter.unusedVariables false
set_option linter.unusedSimpArgs false
set_option maxRecDepth 100000
set_option maxHeartbeats 8000000
namespace Go.Proofs.YtjodlmanheeajaaGreatDoor
open Go.RowKit
theorem fI_pow {b k:Nat} {s:Bool} (h1:fneg b = s) (h2:fmag b = 2 ^ 52) (h3:fup b + 52 = 1074 + k):fI b = (if s then -((2 ^ k:Nat):Int) else ((2 ^ k:Nat):Int)) * (two74:Int):=by
 have e:2 ^ 52 * 2 ^ fup b = 2 ^ k * two74:=by
  have e2:52 + fup b = k + ex74:=by rw [ex74_eq]; omega
  unfold two74
  rw [<- Nat.pow_add,<- Nat.pow_add,e2]
 unfold fI
 rw [h1,h2,e]
 cases s
 ·simp only [Bool.false_eq_true,if_false,Int.natCast_mul]
 ·simp only [if_true,Int.natCast_mul,Int.neg_mul]
theorem cf_of {p q:Nat} {a b:Int} (hp:fI p = a * (two74:Int)) (hq:fI q = b * (two74:Int)):cf p q = cw a b:=by
 have hi:=Rat.inv_mul_cancel _ (natCast_ne two74_pos)
 refine Cx.ext ?_ ?_
 ·show (fI p:Rat) / (two74:Rat) = (a:Rat)
  rw [hp,Rat.intCast_mul,Rat.intCast_natCast,Rat.div_def]
  grind
 ·show (fI q:Rat) / (two74:Rat) = (b:Rat)
  rw [hq,Rat.intCast_mul,Rat.intCast_natCast,Rat.div_def]
  grind
theorem cw_ne {a b:Int} (h:a ≠ 0 ∨ b ≠ 0):cw a b ≠ .zero:=fun e=>by
 have h1:=congrArg Cx.re e
 have h2:=congrArg Cx.im e
 have h3:(a:Rat) = ((0:Int):Rat):=h1
 have h4:(b:Rat) = ((0:Int):Rat):=h2
 have:=Rat.intCast_inj.1 h3
 have:=Rat.intCast_inj.1 h4
 omega
theorem low_inv {p q a b:Int} {d n:Nat} (hn:p * p + q * q = (n:Int)) (h0:0 < n) (hd:0 < d) (h1:p * (d:Int) = a * (n:Int)) (h2:-q * (d:Int) = b * (n:Int)) (hg:Nat.gcd (Nat.gcd d a.natAbs) b.natAbs = 1):Low ((Cx.int 1).div (cw p q)) a b d:=by
 have hi:=Rat.inv_mul_cancel _ (natCast_ne h0)
 have e0:(p:Rat) * p + (q:Rat) * q = (n:Rat):=by
  rw [<- Rat.intCast_mul,<- Rat.intCast_mul,<- Rat.intCast_add,hn,Rat.intCast_natCast]
 have e1:=congrArg (fun t:Int=>(t:Rat)) h1
 have e2:=congrArg (fun t:Int=>(t:Rat)) h2
 simp only [Rat.intCast_mul,Rat.intCast_natCast,Rat.intCast_neg] at e1 e2
 have e3:(cw p q).nrm = (n:Rat):=e0
 have e4:((1:Int):Rat) = 1:=rfl
 refine ⟨hd,hg,?_,?_⟩
 ·show (((1:Int):Rat) * ((p:Rat) / (cw p q).nrm) - 0 * (-(q:Rat) / (cw p q).nrm)) * (d:Rat) = (a:Rat)
  rw [e3,e4,Rat.div_def,Rat.div_def]
  grind
 ·show (((1:Int):Rat) * (-(q:Rat) / (cw p q).nrm) + 0 * ((p:Rat) / (cw p q).nrm)) * (d:Rat) = (b:Rat)
  rw [e3,e4,Rat.div_def,Rat.div_def]
  grind
theorem snegI_1 (w:World):Calls Tryz.prog 85 #[.agg #[.float .f64 4607182418800017408,.float .f64 4611686018427387904]] w fun e w'=>e = .returned (.agg #[.float .f64 13835058055282163712,.float .f64 13830554455654793216]) /\ Below w.heap.size w w':=by
 have hfb:=floatbits_run
 have hsf:=store_float
 have k0:∀ W,(binOp BinOp.sub 26 (.float .f64 0) (.float .f64 4611686018427387904)).run Tryz.prog W = .ok (.float .f64 13835058055282163712) W:=fun W=>fsub_run dK W
 have k1:∀ W,(binOp BinOp.sub 26 (.float .f64 0) (.float .f64 4607182418800017408)).run Tryz.prog W = .ok (.float .f64 13830554455654793216) W:=fun W=>fsub_run dK W
 go_enter Tryz.func85,Tryz.ntmps85
 go_wp2
 refine bodyPost_ret (v:=.agg #[.float .f64 13835058055282163712,.float .f64 13830554455654793216]) (by simp [results,Tryz.results85,go_sem]) rfl ?_
 exact ⟨rfl,(bT (bT (Below.refl w.heap.size w) (below_alloc _ _)) (below_alloc _ _))⟩
theorem absI_1 (w:World):Calls Tryz.prog 156 #[.float .f64 0] w fun e w'=>e = .returned (.float .f64 0) /\ w = w':=by
 have hfb:=floatbits_run
 have k0:bits BinOp.andNot IntKind.u64 0 9223372036854775808 = 0:=dK
 have k1:∀ W,(callFunc 108 #[.int .u64 0]).run Tryz.prog W = .ok (.value (.float .f64 0)) W:=fun W=>frombits_run W 0
 go_enter Tryz.func156,Tryz.ntmps156
 go_wp2
 go_ret
 exact ⟨rfl,rfl⟩
theorem absI_2 (w:World):Calls Tryz.prog 156 #[.float .f64 4607182418800017408] w fun e w'=>e = .returned (.float .f64 4607182418800017408) /\ w = w':=by
 have hfb:=floatbits_run
 have k0:bits BinOp.andNot IntKind.u64 4607182418800017408 9223372036854775808 = 4607182418800017408:=dK
 have k1:∀ W,(callFunc 108 #[.int .u64 4607182418800017408]).run Tryz.prog W = .ok (.value (.float .f64 4607182418800017408)) W:=fun W=>frombits_run W 4607182418800017408
 go_enter Tryz.func156,Tryz.ntmps156
 go_wp2
 go_ret
 exact ⟨rfl,rfl⟩
theorem hasZeroI_1 (w:World):Calls Tryz.prog 107 #[.agg #[.float .f64 0,.float .f64 4607182418800017408]] w fun e w'=>e = .returned (.bool true) /\ Below w.heap.size w w':=by
 have hfb:=floatbits_run
 have hsf:=store_float
 have k0:(FloatKind.f64.format.order 0 0 == some Ordering.lt) = false:=dK
 have k1:(FloatKind.f64.format.order 0 0 == some Ordering.eq) = true:=dK
 have k2:(FloatKind.f64.format.order 0 4607182418800017408 == some Ordering.lt) = true:=dK
 have k3:(FloatKind.f64.format.order 0 4607182418800017408 == some Ordering.eq) = false:=dK
 go_enter Tryz.func107,Tryz.ntmps107
 go_wp2
 go_ret
 exact ⟨rfl,(bT (Below.refl w.heap.size w) (below_alloc _ _))⟩
theorem sizesI_1 (w:World):Calls Tryz.prog 143 #[.agg #[.float .f64 0,.float .f64 4607182418800017408]] w fun e w'=>e = .returned (.tuple #[.float .f64 0,.float .f64 4607182418800017408]) /\ Below w.heap.size w w':=by
 have hfb:=floatbits_run
 have hsf:=store_float
 have k0:∀ W,(Builtin.max_ #[26,26] 26 #[.float .f64 0,.float .f64 4607182418800017408]).run Tryz.prog W = .ok (.float .f64 4607182418800017408) W:=fun W=>fmax_lt dK W
 go_enter Tryz.func143,Tryz.ntmps143
 go_upto_region 1 with fail
 obtain ⟨W1,hW1⟩:∃ W:World,W = w.alloc (.cells #[.float .f64 0,.float .f64 4607182418800017408] 28):=⟨_,rfl⟩
 rw [<- hW1]
 have X0:W1.heap[w.heap.size]? = some (.cells #[.float .f64 0,.float .f64 4607182418800017408] 28 (0,0)):=by rw [hW1]; exact (alloc_at sP)
 have z0:w.heap.size < W1.heap.size:=by rw [hW1]; simp <;> omega
 have B:Below w.heap.size w W1:=by rw [hW1]; exact (bT (Below.refl w.heap.size w) (below_alloc _ _))
 clear hW1
 obtain ⟨f0_0,f0_1,y0_0,y0_1⟩:=bx2 X0
 refine region_lin [.val (kIs (.pointer (some ⟨w.heap.size,0,none⟩))),.val (kIs (.float .f64 0)),.val (kIs (.float .f64 0)),.val (kIs (.pointer (some ⟨w.heap.size,1,none⟩))),.val (kIs (.float .f64 4607182418800017408)),.val (kIs (.float .f64 4607182418800017408)),.val (kIs (.float .f64 0)),.val (kIs (.float .f64 4607182418800017408))]
  kR kR kR kR kR ⟨Stab.b (stab_is _),Stab.b (stab_is _),Stab.b (stab_is _),Stab.b (stab_is _),Stab.b (stab_is _),Stab.b (stab_is _),Stab.b (stab_is _),Stab.b (stab_is _),trivial⟩ sP ⟨?_,?_,?_,?_,?_,?_,?_,?_,trivial⟩ ?_
 ·exact obq
 ·intro ts W hb hB hp; have h0:ts 0 = _:=hp 0 kR; intro K hK; simp only [fillT,zA,Nat.reduceAdd,sA,sB,sC,h0] at hK ⊢; have HK:=hid hK; clear hK hp; obtain ⟨p0,p1,-,-⟩:=bx2 ((hb.block _ z0).trans X0); refine ⟨?_⟩; go_simp; exact HK.out _ _ kk rfB
 ·intro ts W hb hB hp; have h1:ts 1 = _:=hp 1 kR; intro K hK; simp only [fillT,zA,Nat.reduceAdd,sA,sB,sC,h1] at hK ⊢; have HK:=hid hK; clear hK hp; refine ⟨?_⟩; go_simp; refine (absI_1 _).mono ?_; rintro e W9 ⟨rfl,rfl⟩; exact HK.out _ _ rfl rfB
 ·exact obq
 ·intro ts W hb hB hp; have h3:ts 3 = _:=hp 3 kR; intro K hK; simp only [fillT,zA,Nat.reduceAdd,sA,sB,sC,h3] at hK ⊢; have HK:=hid hK; clear hK hp; obtain ⟨p0,p1,-,-⟩:=bx2 ((hb.block _ z0).trans X0); refine ⟨?_⟩; go_simp; exact HK.out _ _ kk rfB
 ·intro ts W hb hB hp; have h4:ts 4 = _:=hp 4 kR; intro K hK; simp only [fillT,zA,Nat.reduceAdd,sA,sB,sC,h4] at hK ⊢; have HK:=hid hK; clear hK hp; refine ⟨?_⟩; go_simp; refine (absI_2 _).mono ?_; rintro e W9 ⟨rfl,rfl⟩; exact HK.out _ _ rfl rfB
 ·intro ts W hb hB hp; have h2:ts 2 = _:=hp 2 kR; intro K hK; simp only [fillT,zA,Nat.reduceAdd,sA,sB,sC,h2] at hK ⊢; have HK:=hid hK; clear hK hp; refine ⟨?_⟩; go_simp; exact HK.out _ _ kk rfB
 ·intro ts W hb hB hp; have h5:ts 5 = _:=hp 5 kR; intro K hK; simp only [fillT,zA,Nat.reduceAdd,sA,sB,sC,h5] at hK ⊢; have HK:=hid hK; clear hK hp; refine ⟨?_⟩; go_simp; exact HK.out _ _ kk rfB
 intro ts W2 hb2 hh hap
 have e0:=held_is (hh 0 sP) rfl
 have e1:=held_is (hh 1 sP) rfl
 have e2:=held_is (hh 2 sP) rfl
 have e3:=held_is (hh 3 sP) rfl
 have e4:=held_is (hh 4 sP) rfl
 have e5:=held_is (hh 5 sP) rfl
 have e6:=held_is (hh 6 sP) rfl
 have e7:=held_is (hh 7 sP) rfl
 simp only [fillT,zA,Nat.reduceAdd,sA,sB,sC,e0,e1,e2,e3,e4,e5,e6,e7]
 clear hh hap e0 e1 e2 e3 e4 e5 e6 e7
 replace X0:=(hb2.block _ z0).trans X0
 replace z0:=lL z0 hb2.size
 replace B:=bT B hb2
 clear hb2
 clear f0_0 f0_1 y0_0 y0_1
 obtain ⟨f0_0,f0_1,y0_0,y0_1⟩:=bx2 X0
 go_wp2_with fail
 refine (hasZeroI_1 _).mono ?_
 rintro e W3 ⟨rfl,hb3⟩
 replace X0:=(hb3.block _ z0).trans X0
 replace z0:=lL z0 hb3.size
 replace B:=bT B hb3
 clear hb3
 clear f0_0 f0_1 y0_0 y0_1
 obtain ⟨f0_0,f0_1,y0_0,y0_1⟩:=bx2 X0
 go_wp2
 refine bodyPost_ret (v:=.tuple #[.float .f64 0,.float .f64 4607182418800017408]) (by simp [results,Tryz.results143]) rfl ?_
 exact ⟨rfl,B⟩
theorem isinfI_1 (w:World):Calls Tryz.prog 110 #[.float .f64 13835058055282163712,.int .i64 0] w fun e w'=>e = .returned (.bool false) /\ w = w':=by
 have hfb:=floatbits_run
 have k0:bits BinOp.andNot IntKind.u64 13835058055282163712 9223372036854775808 = 4611686018427387904:=dK
 have k1:∀ W,(callFunc 108 #[.int .u64 4611686018427387904]).run Tryz.prog W = .ok (.value (.float .f64 4611686018427387904)) W:=fun W=>frombits_run W 4611686018427387904
 have k2:(FloatKind.f64.format.order 4611686018427387904 9218868437227405311 == some Ordering.gt) = false:=dK
 go_enter Tryz.func110,Tryz.ntmps110
 go_wp2
 go_ret
 exact ⟨rfl,rfl⟩
theorem isinfI_2 (w:World):Calls Tryz.prog 110 #[.float .f64 4607182418800017408,.int .i64 0] w fun e w'=>e = .returned (.bool false) /\ w = w':=by
 have hfb:=floatbits_run
 have k0:bits BinOp.andNot IntKind.u64 4607182418800017408 9223372036854775808 = 4607182418800017408:=dK
 have k1:∀ W,(callFunc 108 #[.int .u64 4607182418800017408]).run Tryz.prog W = .ok (.value (.float .f64 4607182418800017408)) W:=fun W=>frombits_run W 4607182418800017408
 have k2:(FloatKind.f64.format.order 4607182418800017408 9218868437227405311 == some Ordering.gt) = false:=dK
 go_enter Tryz.func110,Tryz.ntmps110
 go_wp2
 go_ret
 exact ⟨rfl,rfl⟩
theorem fi_13835058055282163712:fI 13835058055282163712 = (-2) * (two74:Int):=fI_pow (b:=13835058055282163712) (k:=1) (s:=true) dE dE dE
theorem fi_4607182418800017408:fI 4607182418800017408 = 1 * (two74:Int):=fI_pow (b:=4607182418800017408) (k:=0) (s:=false) dE dE dE
theorem inverseI_1 (w:World) (hT:Tab w) (hT6:Tab64 w):Calls Tryz.prog 186 #[.float .f64 13835058055282163712,.float .f64 4607182418800017408] w fun e w'=>e = .returned (.agg #[.float .f64 13824249416176474522,.float .f64 13824249416176474521]) /\ Below w.heap.size w w' :=
 have hc:cf 13835058055282163712 4607182418800017408 = cw (-2) (1):=cf_of fi_13835058055282163712 fi_4607182418800017408
 inverse_fin 13835058055282163712 4607182418800017408 13824249416176474522 13824249416176474521 (-2) (-1) 5 w hT hT6 oM oM dE dE isinfI_1 isinfI_2 (by rw [hc]; exact cw_ne oM) (by rw [hc]; exact low_inv (n:=5) dE oM oM dE dE dE) (Nat.lt_of_le_of_lt (wl_of_two (k:=31) (n:=1) dE oM) oM) (Nat.lt_of_le_of_lt (wl_of_two (k:=31) (n:=1) dE oM) oM) dK dK
theorem isinfI_3 (w:World):Calls Tryz.prog 110 #[.float .f64 13830554455654793216,.int .i64 0] w fun e w'=>e = .returned (.bool false) /\ w = w':=by
 have hfb:=floatbits_run
 have k0:bits BinOp.andNot IntKind.u64 13830554455654793216 9223372036854775808 = 4607182418800017408:=dK
 have k1:∀ W,(callFunc 108 #[.int .u64 4607182418800017408]).run Tryz.prog W = .ok (.value (.float .f64 4607182418800017408)) W:=fun W=>frombits_run W 4607182418800017408
 have k2:(FloatKind.f64.format.order 4607182418800017408 9218868437227405311 == some Ordering.gt) = false:=dK
 go_enter Tryz.func110,Tryz.ntmps110
 go_wp2
 go_ret
 exact ⟨rfl,rfl⟩
theorem fi_13830554455654793216:fI 13830554455654793216 = (-1) * (two74:Int):=fI_pow (b:=13830554455654793216) (k:=0) (s:=true) dE dE dE
theorem inverseI_2 (w:World) (hT:Tab w) (hT6:Tab64 w):Calls Tryz.prog 186 #[.float .f64 13830554455654793216,.float .f64 4607182418800017408] w fun e w'=>e = .returned (.agg #[.float .f64 13826050856027422720,.float .f64 13826050856027422720]) /\ Below w.heap.size w w' :=
 have hc:cf 13830554455654793216 4607182418800017408 = cw (-1) (1):=cf_of fi_13830554455654793216 fi_4607182418800017408
 inverse_fin 13830554455654793216 4607182418800017408 13826050856027422720 13826050856027422720 (-1) (-1) 2 w hT hT6 oM oM dE dE isinfI_3 isinfI_2 (by rw [hc]; exact cw_ne oM) (by rw [hc]; exact low_inv (n:=2) dE oM oM dE dE dE) (Nat.lt_of_le_of_lt (wl_of_two (k:=31) (n:=1) dE oM) oM) (Nat.lt_of_le_of_lt (wl_of_two (k:=31) (n:=1) dE oM) oM) dK dK
theorem bsI_1 (W:World):(Instr.buildSlice 155 2 #[(0,.agg #[.float .f64 13824249416176474522,.float .f64 13824249416176474521]),(1,.agg #[.float .f64 13826050856027422720,.float .f64 13826050856027422720])]).run Tryz.prog W = .ok (.slice (some ⟨W.heap.size,0,none⟩) 2 2) (W.alloc (.cells #[.float .f64 13824249416176474522,.float .f64 13824249416176474521,.float .f64 13826050856027422720,.float .f64 13826050856027422720] 28)):=sG
theorem hullI_1 (w:World) (g:Nat) (X0:w.heap[g]? = some (.cells #[.float .f64 13824249416176474522,.float .f64 13824249416176474521,.float .f64 13826050856027422720,.float .f64 13826050856027422720] 28 (0,0))) (z0:g < w.heap.size):Calls Tryz.prog 60 #[.slice (some ⟨g,0,none⟩) 2 2] w fun e w'=>e = .returned (.agg #[.float .f64 13826050856027422720,.float .f64 13824249416176474521]) /\ Below w.heap.size w w':=by
 have hfb:=floatbits_run
 have hsf:=store_float
 have k0:∀ W,(Builtin.min_ #[26,26] 26 #[.float .f64 13824249416176474522,.float .f64 13826050856027422720]).run Tryz.prog W = .ok (.float .f64 13826050856027422720) W:=fun W=>fmin_gt dK W
 have k1:∀ W,(Builtin.max_ #[26,26] 26 #[.float .f64 13824249416176474521,.float .f64 13826050856027422720]).run Tryz.prog W = .ok (.float .f64 13824249416176474521) W:=fun W=>fmax_gt dK W
 go_enter Tryz.func60,Tryz.ntmps60
 have B:=Below.refl w.heap.size w
 obtain ⟨f0_0,f0_1,f0_2,f0_3,y0_0,y0_1,y0_2,y0_3⟩:=bx4 X0
 go_upto_region 1 with fail
 obtain ⟨W1,hW1⟩:∃ W:World,W = w.alloc (.cells #[.float .f64 0,.float .f64 0] 28):=⟨_,rfl⟩
 rw [<- hW1]
 replace X0:W1.heap[g]? = some (.cells #[.float .f64 13824249416176474522,.float .f64 13824249416176474521,.float .f64 13826050856027422720,.float .f64 13826050856027422720] 28 (0,0)):=by rw [hW1]; exact ((heap_alloc_old _ _ (by first | omega | (simp <;> omega))).trans X0)
 have X1:W1.heap[w.heap.size]? = some (.cells #[.float .f64 0,.float .f64 0] 28 (0,0)):=by rw [hW1]; exact (alloc_at sP)
 have q0_1:g < w.heap.size:=oM
 replace z0:g < W1.heap.size:=by rw [hW1]; simp <;> omega
 have z1:w.heap.size < W1.heap.size:=by rw [hW1]; simp <;> omega
 replace B:Below w.heap.size w W1:=by rw [hW1]; exact (bT B (below_alloc _ _))
 clear hW1
 clear f0_0 f0_1 f0_2 f0_3 y0_0 y0_1 y0_2 y0_3
 obtain ⟨f0_0,f0_1,f0_2,f0_3,y0_0,y0_1,y0_2,y0_3⟩:=bx4 X0
 obtain ⟨f1_0,f1_1,y1_0,y1_1⟩:=bx2 X1
 go_wp2_with fail
 refine wp_loop_rounds 2 ?_
 rw [rounds_succ]
 go_upto_region 4 with fail
 obtain ⟨W2,hW2⟩:∃ W:World,W = W1.alloc (.cells #[.float .f64 13824249416176474522,.float .f64 13824249416176474521] 28):=⟨_,rfl⟩
 rw [<- hW2]
 replace X0:W2.heap[g]? = some (.cells #[.float .f64 13824249416176474522,.float .f64 13824249416176474521,.float .f64 13826050856027422720,.float .f64 13826050856027422720] 28 (0,0)):=by rw [hW2]; exact ((heap_alloc_old _ _ (by first | omega | (simp <;> omega))).trans X0)
 replace X1:W2.heap[w.heap.size]? = some (.cells #[.float .f64 0,.float .f64 0] 28 (0,0)):=by rw [hW2]; exact ((heap_alloc_old _ _ (by first | omega | (simp <;> omega))).trans X1)
 have X2:W2.heap[W1.heap.size]? = some (.cells #[.float .f64 13824249416176474522,.float .f64 13824249416176474521] 28 (0,0)):=by rw [hW2]; exact (alloc_at sP)
 have q0_2:g < W1.heap.size:=oM
 have q1_2:w.heap.size < W1.heap.size:=oM
 replace z0:g < W2.heap.size:=by rw [hW2]; simp <;> omega
 replace z1:w.heap.size < W2.heap.size:=by rw [hW2]; simp <;> omega
 have z2:W1.heap.size < W2.heap.size:=by rw [hW2]; simp <;> omega
 replace B:Below w.heap.size w W2:=by rw [hW2]; exact (bT B (below_alloc _ _))
 clear hW2
 clear f0_0 f0_1 f0_2 f0_3 y0_0 y0_1 y0_2 y0_3 f1_0 f1_1 y1_0 y1_1
 obtain ⟨f0_0,f0_1,f0_2,f0_3,y0_0,y0_1,y0_2,y0_3⟩:=bx4 X0
 obtain ⟨f1_0,f1_1,y1_0,y1_1⟩:=bx2 X1
 obtain ⟨f2_0,f2_1,y2_0,y2_1⟩:=bx2 X2
 go_wp2_with fail
 rw [rounds_succ]
 go_upto_region 7 with fail
 obtain ⟨W3,hW3⟩:∃ W:World,W = ((W2.setCell ⟨W1.heap.size,0,none⟩ (.float .f64 13826050856027422720)).setCell ⟨W1.heap.size,1,none⟩ (.float .f64 13824249416176474521)).alloc (.cells #[.float .f64 13826050856027422720,.float .f64 13826050856027422720] 28):=⟨_,rfl⟩
 rw [<- hW3]
 replace X0:W3.heap[g]? = some (.cells #[.float .f64 13824249416176474522,.float .f64 13824249416176474521,.float .f64 13826050856027422720,.float .f64 13826050856027422720] 28 (0,0)):=by rw [hW3]; exact ((heap_alloc_old _ _ (by first | omega | (simp <;> omega))).trans (set_other (set_other X0 oM _) oM _))
 replace X1:W3.heap[w.heap.size]? = some (.cells #[.float .f64 0,.float .f64 0] 28 (0,0)):=by rw [hW3]; exact ((heap_alloc_old _ _ (by first | omega | (simp <;> omega))).trans (set_other (set_other X1 oM _) oM _))
 replace X2:W3.heap[W1.heap.size]? = some (.cells #[.float .f64 13826050856027422720,.float .f64 13824249416176474521] 28 (0,0)):=by rw [hW3]; exact ((heap_alloc_old _ _ (by first | omega | (simp <;> omega))).trans (set_same (set_same X2 _) _))
 have X3:W3.heap[W2.heap.size]? = some (.cells #[.float .f64 13826050856027422720,.float .f64 13826050856027422720] 28 (0,0)):=by rw [hW3]; exact (alloc_at sP)
 have q0_3:g < W2.heap.size:=oM
 have q1_3:w.heap.size < W2.heap.size:=oM
 have q2_3:W1.heap.size < W2.heap.size:=oM
 replace z0:g < W3.heap.size:=by rw [hW3]; simp <;> omega
 replace z1:w.heap.size < W3.heap.size:=by rw [hW3]; simp <;> omega
 replace z2:W1.heap.size < W3.heap.size:=by rw [hW3]; simp <;> omega
 have z3:W2.heap.size < W3.heap.size:=by rw [hW3]; simp <;> omega
 replace B:Below w.heap.size w W3:=by rw [hW3]; exact (bT (Below.setCell (p:=⟨W1.heap.size,1,none⟩) (Below.setCell (p:=⟨W1.heap.size,0,none⟩) B (show w.heap.size <= W1.heap.size by omega) _) (show w.heap.size <= W1.heap.size by omega) _) (below_alloc _ _))
 clear hW3
 clear f0_0 f0_1 f0_2 f0_3 y0_0 y0_1 y0_2 y0_3 f1_0 f1_1 y1_0 y1_1 f2_0 f2_1 y2_0 y2_1
 obtain ⟨f0_0,f0_1,f0_2,f0_3,y0_0,y0_1,y0_2,y0_3⟩:=bx4 X0
 obtain ⟨f1_0,f1_1,y1_0,y1_1⟩:=bx2 X1
 obtain ⟨f2_0,f2_1,y2_0,y2_1⟩:=bx2 X2
 obtain ⟨f3_0,f3_1,y3_0,y3_1⟩:=bx2 X3
 go_wp2
 refine bodyPost_ret (v:=.agg #[.float .f64 13826050856027422720,.float .f64 13824249416176474521]) (by simp [results,Tryz.results60,go_sem,f0_0,f0_1,f0_2,f0_3,y0_0,y0_1,y0_2,y0_3,f1_0,f1_1,y1_0,y1_1,f2_0,f2_1,y2_0,y2_1,f3_0,f3_1,y3_0,y3_1]) rfl ?_
 exact ⟨rfl,(Below.setCell (p:=⟨w.heap.size,1,none⟩) (Below.setCell (p:=⟨w.heap.size,0,none⟩) B (show w.heap.size <= w.heap.size by omega) _) (show w.heap.size <= w.heap.size by omega) _)⟩
theorem giI_1 (w:World) (hT:Tab w) (hT6:Tab64 w):Calls Tryz.prog 155 #[.agg #[.float .f64 13835058055282163712,.float .f64 13830554455654793216],.agg #[.float .f64 0,.float .f64 4607182418800017408]] w fun e w'=>e = .returned (.float .f64 13824249416176474521) /\ Below w.heap.size w w':=by
 have hfb:=floatbits_run
 have hsf:=store_float
 have k0:(FloatKind.f64.format.order 13830554455654793216 0 == some Ordering.gt) = false:=dK
 have k1:∀ W,(Instr.field 28 (.agg #[.float .f64 13826050856027422720,.float .f64 13824249416176474521]) 1).run Tryz.prog W = .ok (.float .f64 13824249416176474521) W:=fun W=>kR
 have HT:=hid hT
 have HT6:=hid hT6
 clear hT hT6
 go_enter Tryz.func155,Tryz.ntmps155
 go_wp2_with fail
 obtain ⟨W1,hW1⟩:∃ W:World,W = (w.alloc (.cells #[.float .f64 13835058055282163712,.float .f64 13830554455654793216] 28)).alloc (.cells #[.float .f64 0,.float .f64 4607182418800017408] 28):=⟨_,rfl⟩
 rw [<- hW1]
 have X0:W1.heap[w.heap.size]? = some (.cells #[.float .f64 13835058055282163712,.float .f64 13830554455654793216] 28 (0,0)):=by rw [hW1]; exact ((heap_alloc_old _ _ (by first | omega | (simp <;> omega))).trans (alloc_at sP))
 have X1:W1.heap[w.heap.size + 1]? = some (.cells #[.float .f64 0,.float .f64 4607182418800017408] 28 (0,0)):=by rw [hW1]; exact (alloc_at sP)
 have z0:w.heap.size < W1.heap.size:=by rw [hW1]; simp <;> omega
 have z1:w.heap.size + 1 < W1.heap.size:=by rw [hW1]; simp <;> omega
 have B:Below w.heap.size w W1:=by rw [hW1]; exact (bT (bT (Below.refl w.heap.size w) (below_alloc _ _)) (below_alloc _ _))
 clear hW1
 refine (sizesI_1 _).mono ?_
 rintro e W2 ⟨rfl,hb2⟩
 replace X0:=(hb2.block _ z0).trans X0
 replace z0:=lL z0 hb2.size
 replace X1:=(hb2.block _ z1).trans X1
 replace z1:=lL z1 hb2.size
 replace B:=bT B hb2
 clear hb2
 obtain ⟨f0_0,f0_1,y0_0,y0_1⟩:=bx2 X0
 obtain ⟨f1_0,f1_1,y1_0,y1_1⟩:=bx2 X1
 go_upto_region 5 with fail
 clear f0_0 f0_1 y0_0 y0_1 f1_0 f1_1 y1_0 y1_1
 obtain ⟨f0_0,f0_1,y0_0,y0_1⟩:=bx2 X0
 obtain ⟨f1_0,f1_1,y1_0,y1_1⟩:=bx2 X1
 refine region_lin [.val (kIs (.pointer (some ⟨w.heap.size,0,none⟩))),.val (kIs (.float .f64 13835058055282163712)),.val (kIs (.float .f64 4607182418800017408)),.val (kIs (.agg #[.float .f64 13824249416176474522,.float .f64 13824249416176474521])),.val (kIs (.pointer (some ⟨w.heap.size,1,none⟩))),.val (kIs (.float .f64 13830554455654793216)),.val (kIs (.float .f64 4607182418800017408)),.val (kIs (.agg #[.float .f64 13826050856027422720,.float .f64 13826050856027422720])),.val (kSl 28 #[.float .f64 13824249416176474522,.float .f64 13824249416176474521,.float .f64 13826050856027422720,.float .f64 13826050856027422720] 2),.val (kIs (.agg #[.float .f64 13826050856027422720,.float .f64 13824249416176474521])),.val (kIs (.float .f64 13824249416176474521)),.val (kIs (.float .f64 13824249416176474521))]
  kR kR kR kR kR ⟨Stab.b (stab_is _),Stab.b (stab_is _),Stab.b (stab_is _),Stab.b (stab_is _),Stab.b (stab_is _),Stab.b (stab_is _),Stab.b (stab_is _),Stab.b (stab_is _),stabB_sl _ _ _,Stab.b (stab_is _),Stab.b (stab_is _),Stab.b (stab_is _),trivial⟩ sP ⟨?_,?_,?_,?_,?_,?_,?_,?_,?_,?_,?_,?_,trivial⟩ ?_
 ·exact obq
 ·intro ts W hb hB hp; have h0:ts 0 = _:=hp 0 kR; intro K hK; simp only [fillT,zA,Nat.reduceAdd,sA,sB,sC,h0] at hK ⊢; have HK:=hid hK; clear hK hp; obtain ⟨p0,p1,-,-⟩:=bx2 ((hb.block _ z0).trans X0); refine ⟨?_⟩; go_simp; exact HK.out _ _ kk rfB
 ·exact obq
 ·intro ts W hb hB hp; have h1:ts 1 = _:=hp 1 kR; have h2:ts 2 = _:=hp 2 kR; intro K hK; simp only [fillT,zA,Nat.reduceAdd,sA,sB,sC,h1,h2] at hK ⊢; have HK:=hid hK; clear hK hp; refine ⟨?_⟩; go_simp; refine (inverseI_1 _ (HT.out.below (bT B hb)) (HT6.out.below (bT B hb))).mono ?_; rintro e W9 ⟨rfl,hb9⟩; exact HK.out _ _ rfl hb9
 ·exact obq
 ·intro ts W hb hB hp; have h4:ts 4 = _:=hp 4 kR; intro K hK; simp only [fillT,zA,Nat.reduceAdd,sA,sB,sC,h4] at hK ⊢; have HK:=hid hK; clear hK hp; obtain ⟨p0,p1,-,-⟩:=bx2 ((hb.block _ z0).trans X0); refine ⟨?_⟩; go_simp; exact HK.out _ _ kk rfB
 ·exact obq
 ·intro ts W hb hB hp; have h5:ts 5 = _:=hp 5 kR; have h6:ts 6 = _:=hp 6 kR; intro K hK; simp only [fillT,zA,Nat.reduceAdd,sA,sB,sC,h5,h6] at hK ⊢; have HK:=hid hK; clear hK hp; refine ⟨?_⟩; go_simp; refine (inverseI_2 _ (HT.out.below (bT B hb)) (HT6.out.below (bT B hb))).mono ?_; rintro e W9 ⟨rfl,hb9⟩; exact HK.out _ _ rfl hb9
 ·intro ts W hb hB hp; have h3:ts 3 = _:=hp 3 kR; have h7:ts 7 = _:=hp 7 kR; intro K hK; simp only [fillT,zA,Nat.reduceAdd,sA,sB,sC,h3,h7] at hK ⊢; have HK:=hid hK; clear hK hp; refine ⟨?_⟩; exact wp_buildSlice rfl (by simp [Act.eval]) (bsI_1 W) (HK.out _ _ ⟨_,rfl,heap_alloc_new _ _,sP⟩ (below_alloc _ _))
 ·intro ts W hb hB hp; have h8:=hp 8 kR; intro K hK; obtain ⟨g9,e9,X9,z9⟩:=h8; simp only [fillT,zA,Nat.reduceAdd,sA,sB,sC,e9] at hK ⊢; have HK:=hid hK; clear hK hp; refine ⟨?_⟩; go_simp; refine (hullI_1 _ g9 X9 z9).mono ?_; rintro e W9 ⟨rfl,hb9⟩; exact HK.out _ _ rfl hb9
 ·intro ts W hb hB hp; have h9:ts 9 = _:=hp 9 kR; intro K hK; simp only [fillT,zA,Nat.reduceAdd,sA,sB,sC,h9] at hK ⊢; have HK:=hid hK; clear hK hp; refine ⟨?_⟩; go_simp; exact HK.out _ _ kk rfB
 ·intro ts W hb hB hp; have h10:ts 10 = _:=hp 10 kR; intro K hK; simp only [fillT,zA,Nat.reduceAdd,sA,sB,sC,h10] at hK ⊢; have HK:=hid hK; clear hK hp; refine ⟨?_⟩; go_simp; exact HK.out _ _ kk rfB
 intro ts W3 hb3 hh hap
 have e0:=held_is (hh 0 sP) rfl
 have e1:=held_is (hh 1 sP) rfl
 have e2:=held_is (hh 2 sP) rfl
 have e3:=held_is (hh 3 sP) rfl
 have e4:=held_is (hh 4 sP) rfl
 have e5:=held_is (hh 5 sP) rfl
 have e6:=held_is (hh 6 sP) rfl
 have e7:=held_is (hh 7 sP) rfl
 have e9:=held_is (hh 9 sP) rfl
 have e10:=held_is (hh 10 sP) rfl
 have e11:=held_is (hh 11 sP) rfl
 simp only [fillT,zA,Nat.reduceAdd,sA,sB,sC,e0,e1,e2,e3,e4,e5,e6,e7,e9,e10,e11]
 clear hh hap e0 e1 e2 e3 e4 e5 e6 e7 e9 e10 e11
 generalize ts 8 = u8_W3 at *
 replace X0:=(hb3.block _ z0).trans X0
 replace z0:=lL z0 hb3.size
 replace X1:=(hb3.block _ z1).trans X1
 replace z1:=lL z1 hb3.size
 replace B:=bT B hb3
 clear hb3
 clear f0_0 f0_1 y0_0 y0_1 f1_0 f1_1 y1_0 y1_1
 obtain ⟨f0_0,f0_1,y0_0,y0_1⟩:=bx2 X0
 obtain ⟨f1_0,f1_1,y1_0,y1_1⟩:=bx2 X1
 go_wp2
 go_ret
 exact ⟨rfl,B⟩
theorem isinfI_4 (w:World):Calls Tryz.prog 110 #[.float .f64 0,.int .i64 0] w fun e w'=>e = .returned (.bool false) /\ w = w':=by
 have hfb:=floatbits_run
 have k0:bits BinOp.andNot IntKind.u64 0 9223372036854775808 = 0:=dK
 have k1:∀ W,(callFunc 108 #[.int .u64 0]).run Tryz.prog W = .ok (.value (.float .f64 0)) W:=fun W=>frombits_run W 0
 have k2:(FloatKind.f64.format.order 0 9218868437227405311 == some Ordering.gt) = false:=dK
 go_enter Tryz.func110,Tryz.ntmps110
 go_wp2
 go_ret
 exact ⟨rfl,rfl⟩
theorem fi_0:fI 0 = 0 * (two74:Int):=by rw [Int.zero_mul]; decide
theorem inverseI_3 (w:World) (hT:Tab w) (hT6:Tab64 w):Calls Tryz.prog 186 #[.float .f64 4607182418800017408,.float .f64 0] w fun e w'=>e = .returned (.agg #[.float .f64 4607182418800017408,.float .f64 4607182418800017408]) /\ Below w.heap.size w w' :=
 have hc:cf 4607182418800017408 0 = cw (1) (0):=cf_of fi_4607182418800017408 fi_0
 inverse_fin 4607182418800017408 0 4607182418800017408 4607182418800017408 (1) (0) 1 w hT hT6 oM oM dE dE isinfI_2 isinfI_4 (by rw [hc]; exact cw_ne oM) (by rw [hc]; exact low_inv (n:=1) dE oM oM dE dE dE) (Nat.lt_of_le_of_lt (wl_of_two (k:=31) (n:=1) dE oM) oM) (Nat.lt_of_le_of_lt (wl_of_two (k:=31) (n:=1) dE oM) oM) dK dK
theorem giI_2 (w:World) (hT:Tab w) (hT6:Tab64 w):Calls Tryz.prog 155 #[.agg #[.float .f64 4607182418800017408,.float .f64 4611686018427387904],.agg #[.float .f64 0,.float .f64 4607182418800017408]] w fun e w'=>e = .returned (.float .f64 4607182418800017408) /\ Below w.heap.size w w':=by
 have hfb:=floatbits_run
 have hsf:=store_float
 have k0:(FloatKind.f64.format.order 4611686018427387904 0 == some Ordering.gt) = true:=dK
 have k1:∀ W,(Builtin.max_ #[26,26] 26 #[.float .f64 0,.float .f64 4607182418800017408]).run Tryz.prog W = .ok (.float .f64 4607182418800017408) W:=fun W=>fmax_lt dK W
 have k2:∀ W,(Builtin.min_ #[26,26] 26 #[.float .f64 4607182418800017408,.float .f64 4611686018427387904]).run Tryz.prog W = .ok (.float .f64 4607182418800017408) W:=fun W=>fmin_lt dK W
 have k3:∀ W,(Instr.field 28 (.agg #[.float .f64 4607182418800017408,.float .f64 4607182418800017408]) 1).run Tryz.prog W = .ok (.float .f64 4607182418800017408) W:=fun W=>kR
 have HT:=hid hT
 have HT6:=hid hT6
 clear hT hT6
 go_enter Tryz.func155,Tryz.ntmps155
 go_wp2_with fail
 obtain ⟨W1,hW1⟩:∃ W:World,W = (w.alloc (.cells #[.float .f64 4607182418800017408,.float .f64 4611686018427387904] 28)).alloc (.cells #[.float .f64 0,.float .f64 4607182418800017408] 28):=⟨_,rfl⟩
 rw [<- hW1]
 have X0:W1.heap[w.heap.size]? = some (.cells #[.float .f64 4607182418800017408,.float .f64 4611686018427387904] 28 (0,0)):=by rw [hW1]; exact ((heap_alloc_old _ _ (by first | omega | (simp <;> omega))).trans (alloc_at sP))
 have X1:W1.heap[w.heap.size + 1]? = some (.cells #[.float .f64 0,.float .f64 4607182418800017408] 28 (0,0)):=by rw [hW1]; exact (alloc_at sP)
 have z0:w.heap.size < W1.heap.size:=by rw [hW1]; simp <;> omega
 have z1:w.heap.size + 1 < W1.heap.size:=by rw [hW1]; simp <;> omega
 have B:Below w.heap.size w W1:=by rw [hW1]; exact (bT (bT (Below.refl w.heap.size w) (below_alloc _ _)) (below_alloc _ _))
 clear hW1
 refine (sizesI_1 _).mono ?_
 rintro e W2 ⟨rfl,hb2⟩
 replace X0:=(hb2.block _ z0).trans X0
 replace z0:=lL z0 hb2.size
 replace X1:=(hb2.block _ z1).trans X1
 replace z1:=lL z1 hb2.size
 replace B:=bT B hb2
 clear hb2
 obtain ⟨f0_0,f0_1,y0_0,y0_1⟩:=bx2 X0
 obtain ⟨f1_0,f1_1,y1_0,y1_1⟩:=bx2 X1
 go_wp2_with fail
 refine (inverseI_3 _ (HT.out.below B) (HT6.out.below B)).mono ?_
 rintro e W3 ⟨rfl,hb3⟩
 replace X0:=(hb3.block _ z0).trans X0
 replace z0:=lL z0 hb3.size
 replace X1:=(hb3.block _ z1).trans X1
 replace z1:=lL z1 hb3.size
 replace B:=bT B hb3
 clear hb3
 clear f0_0 f0_1 y0_0 y0_1 f1_0 f1_1 y1_0 y1_1
 obtain ⟨f0_0,f0_1,y0_0,y0_1⟩:=bx2 X0
 obtain ⟨f1_0,f1_1,y1_0,y1_1⟩:=bx2 X1
 go_wp2
 go_ret
 exact ⟨rfl,B⟩
theorem invsI_1 (w:World) (hT:Tab w) (hT6:Tab64 w):Calls Tryz.prog 106 #[.agg #[.float .f64 4607182418800017408,.float .f64 4611686018427387904],.agg #[.float .f64 0,.float .f64 4607182418800017408]] w fun e w'=>e = .returned (.agg #[.float .f64 4600877379321698713,.float .f64 4607182418800017408]) /\ Below w.heap.size w w':=by
 have hfb:=floatbits_run
 have hsf:=store_float
 have k0:∀ W,(binOp BinOp.sub 26 (.float .f64 0) (.float .f64 13824249416176474521)).run Tryz.prog W = .ok (.float .f64 4600877379321698713) W:=fun W=>fsub_run dK W
 have HT:=hid hT
 have HT6:=hid hT6
 clear hT hT6
 go_enter Tryz.func106,Tryz.ntmps106
 go_upto_region 1 with fail
 obtain ⟨W1,hW1⟩:∃ W:World,W = ((w.alloc (.cells #[.float .f64 4607182418800017408,.float .f64 4611686018427387904] 28)).alloc (.cells #[.float .f64 0,.float .f64 4607182418800017408] 28)).alloc (.cells #[.float .f64 0,.float .f64 0] 28):=⟨_,rfl⟩
 rw [<- hW1]
 have X0:W1.heap[w.heap.size]? = some (.cells #[.float .f64 4607182418800017408,.float .f64 4611686018427387904] 28 (0,0)):=by rw [hW1]; exact ((heap_alloc_old _ _ (by first | omega | (simp <;> omega))).trans ((heap_alloc_old _ _ (by first | omega | (simp <;> omega))).trans (alloc_at sP)))
 have X1:W1.heap[w.heap.size + 1]? = some (.cells #[.float .f64 0,.float .f64 4607182418800017408] 28 (0,0)):=by rw [hW1]; exact ((heap_alloc_old _ _ (by first | omega | (simp <;> omega))).trans (alloc_at sP))
 have X2:W1.heap[w.heap.size + 2]? = some (.cells #[.float .f64 0,.float .f64 0] 28 (0,0)):=by rw [hW1]; exact (alloc_at sP)
 have z0:w.heap.size < W1.heap.size:=by rw [hW1]; simp <;> omega
 have z1:w.heap.size + 1 < W1.heap.size:=by rw [hW1]; simp <;> omega
 have z2:w.heap.size + 2 < W1.heap.size:=by rw [hW1]; simp <;> omega
 have B:Below w.heap.size w W1:=by rw [hW1]; exact (bT (bT (bT (Below.refl w.heap.size w) (below_alloc _ _)) (below_alloc _ _)) (below_alloc _ _))
 clear hW1
 obtain ⟨f0_0,f0_1,y0_0,y0_1⟩:=bx2 X0
 obtain ⟨f1_0,f1_1,y1_0,y1_1⟩:=bx2 X1
 obtain ⟨f2_0,f2_1,y2_0,y2_1⟩:=bx2 X2
 refine region_last [.val (kIs (.agg #[.float .f64 4607182418800017408,.float .f64 4611686018427387904])),.val (kIs (.agg #[.float .f64 13835058055282163712,.float .f64 13830554455654793216])),.val (kIs (.agg #[.float .f64 0,.float .f64 4607182418800017408])),.val (kIs (.float .f64 13824249416176474521)),.val (kIs (.float .f64 4600877379321698713)),.val (kIs (.agg #[.float .f64 4607182418800017408,.float .f64 4611686018427387904])),.val (kIs (.agg #[.float .f64 0,.float .f64 4607182418800017408])),.val (kIs (.float .f64 4607182418800017408)),.val (kIs (.agg #[.float .f64 4600877379321698713,.float .f64 4607182418800017408]))]
  kR kR kR kR kR ⟨Stab.b (stab_is _),Stab.b (stab_is _),Stab.b (stab_is _),Stab.b (stab_is _),Stab.b (stab_is _),Stab.b (stab_is _),Stab.b (stab_is _),Stab.b (stab_is _),Stab.b (stab_is _),trivial⟩ sP (ol:=_) rfl kR ⟨?_,?_,?_,?_,?_,?_,?_,?_,?_,trivial⟩ ?_
 ·intro ts W hb hB hp K hK; simp only [fillT,zA,Nat.reduceAdd,sA,sB,sC] at hK ⊢; have HK:=hid hK; clear hK hp; obtain ⟨p0,p1,-,-⟩:=bx2 ((hb.block _ z0).trans X0); refine ⟨?_⟩; go_simp; exact HK.out _ _ kk rfB
 ·intro ts W hb hB hp; have h0:ts 0 = _:=hp 0 kR; intro K hK; simp only [fillT,zA,Nat.reduceAdd,sA,sB,sC,h0] at hK ⊢; have HK:=hid hK; clear hK hp; refine ⟨?_⟩; go_simp; refine (snegI_1 _).mono ?_; rintro e W9 ⟨rfl,hb9⟩; exact HK.out _ _ rfl hb9
 ·intro ts W hb hB hp K hK; simp only [fillT,zA,Nat.reduceAdd,sA,sB,sC] at hK ⊢; have HK:=hid hK; clear hK hp; obtain ⟨p0,p1,-,-⟩:=bx2 ((hb.block _ z1).trans X1); refine ⟨?_⟩; go_simp; exact HK.out _ _ kk rfB
 ·intro ts W hb hB hp; have h1:ts 1 = _:=hp 1 kR; have h2:ts 2 = _:=hp 2 kR; intro K hK; simp only [fillT,zA,Nat.reduceAdd,sA,sB,sC,h1,h2] at hK ⊢; have HK:=hid hK; clear hK hp; refine ⟨?_⟩; go_simp; refine (giI_1 _ (HT.out.below (bT B hb)) (HT6.out.below (bT B hb))).mono ?_; rintro e W9 ⟨rfl,hb9⟩; exact HK.out _ _ rfl hb9
 ·intro ts W hb hB hp; have h3:ts 3 = _:=hp 3 kR; intro K hK; simp only [fillT,zA,Nat.reduceAdd,sA,sB,sC,h3] at hK ⊢; have HK:=hid hK; clear hK hp; refine ⟨?_⟩; go_simp; exact HK.out _ _ kk rfB
 ·intro ts W hb hB hp K hK; simp only [fillT,zA,Nat.reduceAdd,sA,sB,sC] at hK ⊢; have HK:=hid hK; clear hK hp; obtain ⟨p0,p1,-,-⟩:=bx2 ((hb.block _ z0).trans X0); refine ⟨?_⟩; go_simp; exact HK.out _ _ kk rfB
 ·intro ts W hb hB hp K hK; simp only [fillT,zA,Nat.reduceAdd,sA,sB,sC] at hK ⊢; have HK:=hid hK; clear hK hp; obtain ⟨p0,p1,-,-⟩:=bx2 ((hb.block _ z1).trans X1); refine ⟨?_⟩; go_simp; exact HK.out _ _ kk rfB
 ·intro ts W hb hB hp; have h5:ts 5 = _:=hp 5 kR; have h6:ts 6 = _:=hp 6 kR; intro K hK; simp only [fillT,zA,Nat.reduceAdd,sA,sB,sC,h5,h6] at hK ⊢; have HK:=hid hK; clear hK hp; refine ⟨?_⟩; go_simp; refine (giI_2 _ (HT.out.below (bT B hb)) (HT6.out.below (bT B hb))).mono ?_; rintro e W9 ⟨rfl,hb9⟩; exact HK.out _ _ rfl hb9
 ·intro ts W hb hB hp; have h4:ts 4 = _:=hp 4 kR; have h7:ts 7 = _:=hp 7 kR; intro K hK; simp only [fillT,zA,Nat.reduceAdd,sA,sB,sC,h4,h7] at hK ⊢; have HK:=hid hK; clear hK hp; refine ⟨?_⟩; go_simp; exact HK.out _ _ kk rfB
 intro ts W2 hb2 hh hap K hK
 have e0:=held_is (hh 0 sP) rfl
 have e1:=held_is (hh 1 sP) rfl
 have e2:=held_is (hh 2 sP) rfl
 have e3:=held_is (hh 3 sP) rfl
 have e4:=held_is (hh 4 sP) rfl
 have e5:=held_is (hh 5 sP) rfl
 have e6:=held_is (hh 6 sP) rfl
 have e7:=held_is (hh 7 sP) rfl
 have e8:=held_is (hh 8 sP) rfl
 have HK:=hid hK
 clear hK
 simp only [fillT,zA,Nat.reduceAdd,sA,sB,sC,e0,e1,e2,e3,e4,e5,e6,e7,e8]
 clear hh hap e0 e1 e2 e3 e4 e5 e6 e7 e8
 replace X0:=(hb2.block _ z0).trans X0
 replace z0:=lL z0 hb2.size
 replace X1:=(hb2.block _ z1).trans X1
 replace z1:=lL z1 hb2.size
 replace X2:=(hb2.block _ z2).trans X2
 replace z2:=lL z2 hb2.size
 replace B:=bT B hb2
 clear hb2
 clear f0_0 f0_1 y0_0 y0_1 f1_0 f1_1 y1_0 y1_1 f2_0 f2_1 y2_0 y2_1
 obtain ⟨f0_0,f0_1,y0_0,y0_1⟩:=bx2 X0
 obtain ⟨f1_0,f1_1,y1_0,y1_1⟩:=bx2 X1
 obtain ⟨f2_0,f2_1,y2_0,y2_1⟩:=bx2 X2
 refine ⟨?_⟩
 refine wp_store_row _ _ _ rfl (w.heap.size + 2) _ rfl rfl _ _ X2 kR rfl (by simp [Value.oneCell']) (HK.out _ _ ?_)
 have hput:=putAt_setRow (cs:=#[.float .f64 4600877379321698713,.float .f64 4607182418800017408]) X2
 replace B:=hput.below B oM
 clear HK f0_0 f0_1 y0_0 y0_1 f1_0 f1_1 y1_0 y1_1 f2_0 f2_1 y2_0 y2_1 X0 X1 X2
 generalize W2.setRow (w.heap.size + 2) #[.float .f64 4600877379321698713,.float .f64 4607182418800017408] = W3 at *
 have X2:=hput.here
 clear hput
 obtain ⟨f2_0,f2_1,y2_0,y2_1⟩:=bx2 X2
 go_wp2
 refine bodyPost_ret (v:=.agg #[.float .f64 4600877379321698713,.float .f64 4607182418800017408]) (by simp [results,Tryz.results106,go_sem,f2_0,f2_1,y2_0,y2_1]) rfl ?_
 exact ⟨rfl,B⟩
theorem snegI_2 (w:World):Calls Tryz.prog 85 #[.agg #[.float .f64 0,.float .f64 4607182418800017408]] w fun e w'=>e = .returned (.agg #[.float .f64 13830554455654793216,.float .f64 0]) /\ Below w.heap.size w w':=by
 have hfb:=floatbits_run
 have hsf:=store_float
 have k0:∀ W,(binOp BinOp.sub 26 (.float .f64 0) (.float .f64 4607182418800017408)).run Tryz.prog W = .ok (.float .f64 13830554455654793216) W:=fun W=>fsub_run dK W
 have k1:∀ W,(binOp BinOp.sub 26 (.float .f64 0) (.float .f64 0)).run Tryz.prog W = .ok (.float .f64 0) W:=fun W=>fsub_run dK W
 go_enter Tryz.func85,Tryz.ntmps85
 go_wp2
 refine bodyPost_ret (v:=.agg #[.float .f64 13830554455654793216,.float .f64 0]) (by simp [results,Tryz.results85,go_sem]) rfl ?_
 exact ⟨rfl,(bT (bT (Below.refl w.heap.size w) (below_alloc _ _)) (below_alloc _ _))⟩
theorem snegI_3 (w:World):Calls Tryz.prog 85 #[.agg #[.float .f64 13830554455654793216,.float .f64 0]] w fun e w'=>e = .returned (.agg #[.float .f64 0,.float .f64 4607182418800017408]) /\ Below w.heap.size w w':=by
 have hfb:=floatbits_run
 have hsf:=store_float
 have k0:∀ W,(binOp BinOp.sub 26 (.float .f64 0) (.float .f64 0)).run Tryz.prog W = .ok (.float .f64 0) W:=fun W=>fsub_run dK W
 have k1:∀ W,(binOp BinOp.sub 26 (.float .f64 0) (.float .f64 13830554455654793216)).run Tryz.prog W = .ok (.float .f64 4607182418800017408) W:=fun W=>fsub_run dK W
 go_enter Tryz.func85,Tryz.ntmps85
 go_wp2
 refine bodyPost_ret (v:=.agg #[.float .f64 0,.float .f64 4607182418800017408]) (by simp [results,Tryz.results85,go_sem]) rfl ?_
 exact ⟨rfl,(bT (bT (Below.refl w.heap.size w) (below_alloc _ _)) (below_alloc _ _))⟩
theorem absI_3 (w:World):Calls Tryz.prog 156 #[.float .f64 4611686018427387904] w fun e w'=>e = .returned (.float .f64 4611686018427387904) /\ w = w':=by
 have hfb:=floatbits_run
 have k0:bits BinOp.andNot IntKind.u64 4611686018427387904 9223372036854775808 = 4611686018427387904:=dK
 have k1:∀ W,(callFunc 108 #[.int .u64 4611686018427387904]).run Tryz.prog W = .ok (.value (.float .f64 4611686018427387904)) W:=fun W=>frombits_run W 4611686018427387904
 go_enter Tryz.func156,Tryz.ntmps156
 go_wp2
 go_ret
 exact ⟨rfl,rfl⟩
theorem hasZeroI_2 (w:World):Calls Tryz.prog 107 #[.agg #[.float .f64 4607182418800017408,.float .f64 4611686018427387904]] w fun e w'=>e = .returned (.bool false) /\ Below w.heap.size w w':=by
 have hfb:=floatbits_run
 have hsf:=store_float
 have k0:(FloatKind.f64.format.order 4607182418800017408 0 == some Ordering.lt) = false:=dK
 have k1:(FloatKind.f64.format.order 4607182418800017408 0 == some Ordering.eq) = false:=dK
 go_enter Tryz.func107,Tryz.ntmps107
 go_wp2
 go_ret
 exact ⟨rfl,(bT (Below.refl w.heap.size w) (below_alloc _ _))⟩
theorem sizesI_2 (w:World):Calls Tryz.prog 143 #[.agg #[.float .f64 4607182418800017408,.float .f64 4611686018427387904]] w fun e w'=>e = .returned (.tuple #[.float .f64 4607182418800017408,.float .f64 4611686018427387904]) /\ Below w.heap.size w w':=by
 have hfb:=floatbits_run
 have hsf:=store_float
 have k0:∀ W,(Builtin.min_ #[26,26] 26 #[.float .f64 4607182418800017408,.float .f64 4611686018427387904]).run Tryz.prog W = .ok (.float .f64 4607182418800017408) W:=fun W=>fmin_lt dK W
 have k1:∀ W,(Builtin.max_ #[26,26] 26 #[.float .f64 4607182418800017408,.float .f64 4611686018427387904]).run Tryz.prog W = .ok (.float .f64 4611686018427387904) W:=fun W=>fmax_lt dK W
 go_enter Tryz.func143,Tryz.ntmps143
 go_upto_region 1 with fail
 obtain ⟨W1,hW1⟩:∃ W:World,W = w.alloc (.cells #[.float .f64 4607182418800017408,.float .f64 4611686018427387904] 28):=⟨_,rfl⟩
 rw [<- hW1]
 have X0:W1.heap[w.heap.size]? = some (.cells #[.float .f64 4607182418800017408,.float .f64 4611686018427387904] 28 (0,0)):=by rw [hW1]; exact (alloc_at sP)
 have z0:w.heap.size < W1.heap.size:=by rw [hW1]; simp <;> omega
 have B:Below w.heap.size w W1:=by rw [hW1]; exact (bT (Below.refl w.heap.size w) (below_alloc _ _))
 clear hW1
 obtain ⟨f0_0,f0_1,y0_0,y0_1⟩:=bx2 X0
 refine region_lin [.val (kIs (.pointer (some ⟨w.heap.size,0,none⟩))),.val (kIs (.float .f64 4607182418800017408)),.val (kIs (.float .f64 4607182418800017408)),.val (kIs (.pointer (some ⟨w.heap.size,1,none⟩))),.val (kIs (.float .f64 4611686018427387904)),.val (kIs (.float .f64 4611686018427387904)),.val (kIs (.float .f64 4607182418800017408)),.val (kIs (.float .f64 4611686018427387904))]
  kR kR kR kR kR ⟨Stab.b (stab_is _),Stab.b (stab_is _),Stab.b (stab_is _),Stab.b (stab_is _),Stab.b (stab_is _),Stab.b (stab_is _),Stab.b (stab_is _),Stab.b (stab_is _),trivial⟩ sP ⟨?_,?_,?_,?_,?_,?_,?_,?_,trivial⟩ ?_
 ·exact obq
 ·intro ts W hb hB hp; have h0:ts 0 = _:=hp 0 kR; intro K hK; simp only [fillT,zA,Nat.reduceAdd,sA,sB,sC,h0] at hK ⊢; have HK:=hid hK; clear hK hp; obtain ⟨p0,p1,-,-⟩:=bx2 ((hb.block _ z0).trans X0); refine ⟨?_⟩; go_simp; exact HK.out _ _ kk rfB
 ·intro ts W hb hB hp; have h1:ts 1 = _:=hp 1 kR; intro K hK; simp only [fillT,zA,Nat.reduceAdd,sA,sB,sC,h1] at hK ⊢; have HK:=hid hK; clear hK hp; refine ⟨?_⟩; go_simp; refine (absI_2 _).mono ?_; rintro e W9 ⟨rfl,rfl⟩; exact HK.out _ _ rfl rfB
 ·exact obq
 ·intro ts W hb hB hp; have h3:ts 3 = _:=hp 3 kR; intro K hK; simp only [fillT,zA,Nat.reduceAdd,sA,sB,sC,h3] at hK ⊢; have HK:=hid hK; clear hK hp; obtain ⟨p0,p1,-,-⟩:=bx2 ((hb.block _ z0).trans X0); refine ⟨?_⟩; go_simp; exact HK.out _ _ kk rfB
 ·intro ts W hb hB hp; have h4:ts 4 = _:=hp 4 kR; intro K hK; simp only [fillT,zA,Nat.reduceAdd,sA,sB,sC,h4] at hK ⊢; have HK:=hid hK; clear hK hp; refine ⟨?_⟩; go_simp; refine (absI_3 _).mono ?_; rintro e W9 ⟨rfl,rfl⟩; exact HK.out _ _ rfl rfB
 ·intro ts W hb hB hp; have h2:ts 2 = _:=hp 2 kR; intro K hK; simp only [fillT,zA,Nat.reduceAdd,sA,sB,sC,h2] at hK ⊢; have HK:=hid hK; clear hK hp; refine ⟨?_⟩; go_simp; exact HK.out _ _ kk rfB
 ·intro ts W hb hB hp; have h5:ts 5 = _:=hp 5 kR; intro K hK; simp only [fillT,zA,Nat.reduceAdd,sA,sB,sC,h5] at hK ⊢; have HK:=hid hK; clear hK hp; refine ⟨?_⟩; go_simp; exact HK.out _ _ kk rfB
 intro ts W2 hb2 hh hap
 have e0:=held_is (hh 0 sP) rfl
 have e1:=held_is (hh 1 sP) rfl
 have e2:=held_is (hh 2 sP) rfl
 have e3:=held_is (hh 3 sP) rfl
 have e4:=held_is (hh 4 sP) rfl
 have e5:=held_is (hh 5 sP) rfl
 have e6:=held_is (hh 6 sP) rfl
 have e7:=held_is (hh 7 sP) rfl
 simp only [fillT,zA,Nat.reduceAdd,sA,sB,sC,e0,e1,e2,e3,e4,e5,e6,e7]
 clear hh hap e0 e1 e2 e3 e4 e5 e6 e7
 replace X0:=(hb2.block _ z0).trans X0
 replace z0:=lL z0 hb2.size
 replace B:=bT B hb2
 clear hb2
 clear f0_0 f0_1 y0_0 y0_1
 obtain ⟨f0_0,f0_1,y0_0,y0_1⟩:=bx2 X0
 go_wp2_with fail
 refine (hasZeroI_2 _).mono ?_
 rintro e W3 ⟨rfl,hb3⟩
 replace X0:=(hb3.block _ z0).trans X0
 replace z0:=lL z0 hb3.size
 replace B:=bT B hb3
 clear hb3
 clear f0_0 f0_1 y0_0 y0_1
 obtain ⟨f0_0,f0_1,y0_0,y0_1⟩:=bx2 X0
 go_wp2
 refine bodyPost_ret (v:=.tuple #[.float .f64 4607182418800017408,.float .f64 4611686018427387904]) (by simp [results,Tryz.results143]) rfl ?_
 exact ⟨rfl,B⟩
theorem inverseI_4 (w:World) (hT:Tab w) (hT6:Tab64 w):Calls Tryz.prog 186 #[.float .f64 4607182418800017408,.float .f64 4607182418800017408] w fun e w'=>e = .returned (.agg #[.float .f64 4602678819172646912,.float .f64 4602678819172646912]) /\ Below w.heap.size w w' :=
 have hc:cf 4607182418800017408 4607182418800017408 = cw (1) (1):=cf_of fi_4607182418800017408 fi_4607182418800017408
 inverse_fin 4607182418800017408 4607182418800017408 4602678819172646912 4602678819172646912 (1) (-1) 2 w hT hT6 oM oM dE dE isinfI_2 isinfI_2 (by rw [hc]; exact cw_ne oM) (by rw [hc]; exact low_inv (n:=2) dE oM oM dE dE dE) (Nat.lt_of_le_of_lt (wl_of_two (k:=31) (n:=1) dE oM) oM) (Nat.lt_of_le_of_lt (wl_of_two (k:=31) (n:=1) dE oM) oM) dK dK
theorem giI_3 (w:World) (hT:Tab w) (hT6:Tab64 w):Calls Tryz.prog 155 #[.agg #[.float .f64 0,.float .f64 4607182418800017408],.agg #[.float .f64 4607182418800017408,.float .f64 4611686018427387904]] w fun e w'=>e = .returned (.float .f64 4602678819172646912) /\ Below w.heap.size w w':=by
 have hfb:=floatbits_run
 have hsf:=store_float
 have k0:(FloatKind.f64.format.order 4607182418800017408 0 == some Ordering.gt) = true:=dK
 have k1:∀ W,(Builtin.max_ #[26,26] 26 #[.float .f64 4607182418800017408,.float .f64 0]).run Tryz.prog W = .ok (.float .f64 4607182418800017408) W:=fun W=>fmax_gt dK W
 have k2:∀ W,(Builtin.min_ #[26,26] 26 #[.float .f64 4607182418800017408,.float .f64 4607182418800017408]).run Tryz.prog W = .ok (.float .f64 4607182418800017408) W:=fun W=>fmin_eq dK dK W
 have k3:∀ W,(Instr.field 28 (.agg #[.float .f64 4602678819172646912,.float .f64 4602678819172646912]) 1).run Tryz.prog W = .ok (.float .f64 4602678819172646912) W:=fun W=>kR
 have HT:=hid hT
 have HT6:=hid hT6
 clear hT hT6
 go_enter Tryz.func155,Tryz.ntmps155
 go_wp2_with fail
 obtain ⟨W1,hW1⟩:∃ W:World,W = (w.alloc (.cells #[.float .f64 0,.float .f64 4607182418800017408] 28)).alloc (.cells #[.float .f64 4607182418800017408,.float .f64 4611686018427387904] 28):=⟨_,rfl⟩
 rw [<- hW1]
 have X0:W1.heap[w.heap.size]? = some (.cells #[.float .f64 0,.float .f64 4607182418800017408] 28 (0,0)):=by rw [hW1]; exact ((heap_alloc_old _ _ (by first | omega | (simp <;> omega))).trans (alloc_at sP))
 have X1:W1.heap[w.heap.size + 1]? = some (.cells #[.float .f64 4607182418800017408,.float .f64 4611686018427387904] 28 (0,0)):=by rw [hW1]; exact (alloc_at sP)
 have z0:w.heap.size < W1.heap.size:=by rw [hW1]; simp <;> omega
 have z1:w.heap.size + 1 < W1.heap.size:=by rw [hW1]; simp <;> omega
 have B:Below w.heap.size w W1:=by rw [hW1]; exact (bT (bT (Below.refl w.heap.size w) (below_alloc _ _)) (below_alloc _ _))
 clear hW1
 refine (sizesI_2 _).mono ?_
 rintro e W2 ⟨rfl,hb2⟩
 replace X0:=(hb2.block _ z0).trans X0
 replace z0:=lL z0 hb2.size
 replace X1:=(hb2.block _ z1).trans X1
 replace z1:=lL z1 hb2.size
 replace B:=bT B hb2
 clear hb2
 obtain ⟨f0_0,f0_1,y0_0,y0_1⟩:=bx2 X0
 obtain ⟨f1_0,f1_1,y1_0,y1_1⟩:=bx2 X1
 go_wp2_with fail
 refine (inverseI_4 _ (HT.out.below B) (HT6.out.below B)).mono ?_
 rintro e W3 ⟨rfl,hb3⟩
 replace X0:=(hb3.block _ z0).trans X0
 replace z0:=lL z0 hb3.size
 replace X1:=(hb3.block _ z1).trans X1
 replace z1:=lL z1 hb3.size
 replace B:=bT B hb3
 clear hb3
 clear f0_0 f0_1 y0_0 y0_1 f1_0 f1_1 y1_0 y1_1
 obtain ⟨f0_0,f0_1,y0_0,y0_1⟩:=bx2 X0
 obtain ⟨f1_0,f1_1,y1_0,y1_1⟩:=bx2 X1
 go_wp2
 go_ret
 exact ⟨rfl,B⟩
theorem isinfI_5 (w:World):Calls Tryz.prog 110 #[.float .f64 4611686018427387904,.int .i64 0] w fun e w'=>e = .returned (.bool false) /\ w = w':=by
 have hfb:=floatbits_run
 have k0:bits BinOp.andNot IntKind.u64 4611686018427387904 9223372036854775808 = 4611686018427387904:=dK
 have k1:∀ W,(callFunc 108 #[.int .u64 4611686018427387904]).run Tryz.prog W = .ok (.value (.float .f64 4611686018427387904)) W:=fun W=>frombits_run W 4611686018427387904
 have k2:(FloatKind.f64.format.order 4611686018427387904 9218868437227405311 == some Ordering.gt) = false:=dK
 go_enter Tryz.func110,Tryz.ntmps110
 go_wp2
 go_ret
 exact ⟨rfl,rfl⟩
theorem fi_4611686018427387904:fI 4611686018427387904 = 2 * (two74:Int):=fI_pow (b:=4611686018427387904) (k:=1) (s:=false) dE dE dE
theorem inverseI_5 (w:World) (hT:Tab w) (hT6:Tab64 w):Calls Tryz.prog 186 #[.float .f64 13830554455654793216,.float .f64 4611686018427387904] w fun e w'=>e = .returned (.agg #[.float .f64 13819745816549104026,.float .f64 13819745816549104025]) /\ Below w.heap.size w w' :=
 have hc:cf 13830554455654793216 4611686018427387904 = cw (-1) (2):=cf_of fi_13830554455654793216 fi_4611686018427387904
 inverse_fin 13830554455654793216 4611686018427387904 13819745816549104026 13819745816549104025 (-1) (-2) 5 w hT hT6 oM oM dE dE isinfI_3 isinfI_5 (by rw [hc]; exact cw_ne oM) (by rw [hc]; exact low_inv (n:=5) dE oM oM dE dE dE) (Nat.lt_of_le_of_lt (wl_of_two (k:=31) (n:=1) dE oM) oM) (Nat.lt_of_le_of_lt (wl_of_two (k:=31) (n:=1) dE oM) oM) dK dK
theorem inverseI_6 (w:World) (hT:Tab w) (hT6:Tab64 w):Calls Tryz.prog 186 #[.float .f64 0,.float .f64 4611686018427387904] w fun e w'=>e = .returned (.agg #[.float .f64 0,.float .f64 0]) /\ Below w.heap.size w w' :=
 have hc:cf 0 4611686018427387904 = cw (0) (2):=cf_of fi_0 fi_4611686018427387904
 inverse_fin 0 4611686018427387904 0 0 (0) (-1) 2 w hT hT6 oM oM dE dE isinfI_4 isinfI_5 (by rw [hc]; exact cw_ne oM) (by rw [hc]; exact low_inv (n:=4) dE oM oM dE dE dE) (Nat.lt_of_le_of_lt (wl_of_two (k:=31) (n:=1) dE oM) oM) (Nat.lt_of_le_of_lt (wl_of_two (k:=31) (n:=1) dE oM) oM) dK dK
theorem bsI_2 (W:World):(Instr.buildSlice 155 2 #[(0,.agg #[.float .f64 13819745816549104026,.float .f64 13819745816549104025]),(1,.agg #[.float .f64 0,.float .f64 0])]).run Tryz.prog W = .ok (.slice (some ⟨W.heap.size,0,none⟩) 2 2) (W.alloc (.cells #[.float .f64 13819745816549104026,.float .f64 13819745816549104025,.float .f64 0,.float .f64 0] 28)):=sG
theorem hullI_2 (w:World) (g:Nat) (X0:w.heap[g]? = some (.cells #[.float .f64 13819745816549104026,.float .f64 13819745816549104025,.float .f64 0,.float .f64 0] 28 (0,0))) (z0:g < w.heap.size):Calls Tryz.prog 60 #[.slice (some ⟨g,0,none⟩) 2 2] w fun e w'=>e = .returned (.agg #[.float .f64 13819745816549104026,.float .f64 0]) /\ Below w.heap.size w w':=by
 have hfb:=floatbits_run
 have hsf:=store_float
 have k0:∀ W,(Builtin.min_ #[26,26] 26 #[.float .f64 13819745816549104026,.float .f64 0]).run Tryz.prog W = .ok (.float .f64 13819745816549104026) W:=fun W=>fmin_lt dK W
 have k1:∀ W,(Builtin.max_ #[26,26] 26 #[.float .f64 13819745816549104025,.float .f64 0]).run Tryz.prog W = .ok (.float .f64 0) W:=fun W=>fmax_lt dK W
 go_enter Tryz.func60,Tryz.ntmps60
 have B:=Below.refl w.heap.size w
 obtain ⟨f0_0,f0_1,f0_2,f0_3,y0_0,y0_1,y0_2,y0_3⟩:=bx4 X0
 go_upto_region 1 with fail
 obtain ⟨W1,hW1⟩:∃ W:World,W = w.alloc (.cells #[.float .f64 0,.float .f64 0] 28):=⟨_,rfl⟩
 rw [<- hW1]
 replace X0:W1.heap[g]? = some (.cells #[.float .f64 13819745816549104026,.float .f64 13819745816549104025,.float .f64 0,.float .f64 0] 28 (0,0)):=by rw [hW1]; exact ((heap_alloc_old _ _ (by first | omega | (simp <;> omega))).trans X0)
 have X1:W1.heap[w.heap.size]? = some (.cells #[.float .f64 0,.float .f64 0] 28 (0,0)):=by rw [hW1]; exact (alloc_at sP)
 have q0_1:g < w.heap.size:=oM
 replace z0:g < W1.heap.size:=by rw [hW1]; simp <;> omega
 have z1:w.heap.size < W1.heap.size:=by rw [hW1]; simp <;> omega
 replace B:Below w.heap.size w W1:=by rw [hW1]; exact (bT B (below_alloc _ _))
 clear hW1
 clear f0_0 f0_1 f0_2 f0_3 y0_0 y0_1 y0_2 y0_3
 obtain ⟨f0_0,f0_1,f0_2,f0_3,y0_0,y0_1,y0_2,y0_3⟩:=bx4 X0
 obtain ⟨f1_0,f1_1,y1_0,y1_1⟩:=bx2 X1
 go_wp2_with fail
 refine wp_loop_rounds 2 ?_
 rw [rounds_succ]
 go_upto_region 4 with fail
 obtain ⟨W2,hW2⟩:∃ W:World,W = W1.alloc (.cells #[.float .f64 13819745816549104026,.float .f64 13819745816549104025] 28):=⟨_,rfl⟩
 rw [<- hW2]
 replace X0:W2.heap[g]? = some (.cells #[.float .f64 13819745816549104026,.float .f64 13819745816549104025,.float .f64 0,.float .f64 0] 28 (0,0)):=by rw [hW2]; exact ((heap_alloc_old _ _ (by first | omega | (simp <;> omega))).trans X0)
 replace X1:W2.heap[w.heap.size]? = some (.cells #[.float .f64 0,.float .f64 0] 28 (0,0)):=by rw [hW2]; exact ((heap_alloc_old _ _ (by first | omega | (simp <;> omega))).trans X1)
 have X2:W2.heap[W1.heap.size]? = some (.cells #[.float .f64 13819745816549104026,.float .f64 13819745816549104025] 28 (0,0)):=by rw [hW2]; exact (alloc_at sP)
 have q0_2:g < W1.heap.size:=oM
 have q1_2:w.heap.size < W1.heap.size:=oM
 replace z0:g < W2.heap.size:=by rw [hW2]; simp <;> omega
 replace z1:w.heap.size < W2.heap.size:=by rw [hW2]; simp <;> omega
 have z2:W1.heap.size < W2.heap.size:=by rw [hW2]; simp <;> omega
 replace B:Below w.heap.size w W2:=by rw [hW2]; exact (bT B (below_alloc _ _))
 clear hW2
 clear f0_0 f0_1 f0_2 f0_3 y0_0 y0_1 y0_2 y0_3 f1_0 f1_1 y1_0 y1_1
 obtain ⟨f0_0,f0_1,f0_2,f0_3,y0_0,y0_1,y0_2,y0_3⟩:=bx4 X0
 obtain ⟨f1_0,f1_1,y1_0,y1_1⟩:=bx2 X1
 obtain ⟨f2_0,f2_1,y2_0,y2_1⟩:=bx2 X2
 go_wp2_with fail
 rw [rounds_succ]
 go_upto_region 7 with fail
 obtain ⟨W3,hW3⟩:∃ W:World,W = ((W2.setCell ⟨W1.heap.size,0,none⟩ (.float .f64 13819745816549104026)).setCell ⟨W1.heap.size,1,none⟩ (.float .f64 0)).alloc (.cells #[.float .f64 0,.float .f64 0] 28):=⟨_,rfl⟩
 rw [<- hW3]
 replace X0:W3.heap[g]? = some (.cells #[.float .f64 13819745816549104026,.float .f64 13819745816549104025,.float .f64 0,.float .f64 0] 28 (0,0)):=by rw [hW3]; exact ((heap_alloc_old _ _ (by first | omega | (simp <;> omega))).trans (set_other (set_other X0 oM _) oM _))
 replace X1:W3.heap[w.heap.size]? = some (.cells #[.float .f64 0,.float .f64 0] 28 (0,0)):=by rw [hW3]; exact ((heap_alloc_old _ _ (by first | omega | (simp <;> omega))).trans (set_other (set_other X1 oM _) oM _))
 replace X2:W3.heap[W1.heap.size]? = some (.cells #[.float .f64 13819745816549104026,.float .f64 0] 28 (0,0)):=by rw [hW3]; exact ((heap_alloc_old _ _ (by first | omega | (simp <;> omega))).trans (set_same (set_same X2 _) _))
 have X3:W3.heap[W2.heap.size]? = some (.cells #[.float .f64 0,.float .f64 0] 28 (0,0)):=by rw [hW3]; exact (alloc_at sP)
 have q0_3:g < W2.heap.size:=oM
 have q1_3:w.heap.size < W2.heap.size:=oM
 have q2_3:W1.heap.size < W2.heap.size:=oM
 replace z0:g < W3.heap.size:=by rw [hW3]; simp <;> omega
 replace z1:w.heap.size < W3.heap.size:=by rw [hW3]; simp <;> omega
 replace z2:W1.heap.size < W3.heap.size:=by rw [hW3]; simp <;> omega
 have z3:W2.heap.size < W3.heap.size:=by rw [hW3]; simp <;> omega
 replace B:Below w.heap.size w W3:=by rw [hW3]; exact (bT (Below.setCell (p:=⟨W1.heap.size,1,none⟩) (Below.setCell (p:=⟨W1.heap.size,0,none⟩) B (show w.heap.size <= W1.heap.size by omega) _) (show w.heap.size <= W1.heap.size by omega) _) (below_alloc _ _))
 clear hW3
 clear f0_0 f0_1 f0_2 f0_3 y0_0 y0_1 y0_2 y0_3 f1_0 f1_1 y1_0 y1_1 f2_0 f2_1 y2_0 y2_1
 obtain ⟨f0_0,f0_1,f0_2,f0_3,y0_0,y0_1,y0_2,y0_3⟩:=bx4 X0
 obtain ⟨f1_0,f1_1,y1_0,y1_1⟩:=bx2 X1
 obtain ⟨f2_0,f2_1,y2_0,y2_1⟩:=bx2 X2
 obtain ⟨f3_0,f3_1,y3_0,y3_1⟩:=bx2 X3
 go_wp2
 refine bodyPost_ret (v:=.agg #[.float .f64 13819745816549104026,.float .f64 0]) (by simp [results,Tryz.results60,go_sem,f0_0,f0_1,f0_2,f0_3,y0_0,y0_1,y0_2,y0_3,f1_0,f1_1,y1_0,y1_1,f2_0,f2_1,y2_0,y2_1,f3_0,f3_1,y3_0,y3_1]) rfl ?_
 exact ⟨rfl,(Below.setCell (p:=⟨w.heap.size,1,none⟩) (Below.setCell (p:=⟨w.heap.size,0,none⟩) B (show w.heap.size <= w.heap.size by omega) _) (show w.heap.size <= w.heap.size by omega) _)⟩
theorem giI_4 (w:World) (hT:Tab w) (hT6:Tab64 w):Calls Tryz.prog 155 #[.agg #[.float .f64 13830554455654793216,.float .f64 0],.agg #[.float .f64 4607182418800017408,.float .f64 4611686018427387904]] w fun e w'=>e = .returned (.float .f64 0) /\ Below w.heap.size w w':=by
 have hfb:=floatbits_run
 have hsf:=store_float
 have k0:(FloatKind.f64.format.order 0 0 == some Ordering.gt) = false:=dK
 have k1:∀ W,(Instr.field 28 (.agg #[.float .f64 13819745816549104026,.float .f64 0]) 1).run Tryz.prog W = .ok (.float .f64 0) W:=fun W=>kR
 have HT:=hid hT
 have HT6:=hid hT6
 clear hT hT6
 go_enter Tryz.func155,Tryz.ntmps155
 go_wp2_with fail
 obtain ⟨W1,hW1⟩:∃ W:World,W = (w.alloc (.cells #[.float .f64 13830554455654793216,.float .f64 0] 28)).alloc (.cells #[.float .f64 4607182418800017408,.float .f64 4611686018427387904] 28):=⟨_,rfl⟩
 rw [<- hW1]
 have X0:W1.heap[w.heap.size]? = some (.cells #[.float .f64 13830554455654793216,.float .f64 0] 28 (0,0)):=by rw [hW1]; exact ((heap_alloc_old _ _ (by first | omega | (simp <;> omega))).trans (alloc_at sP))
 have X1:W1.heap[w.heap.size + 1]? = some (.cells #[.float .f64 4607182418800017408,.float .f64 4611686018427387904] 28 (0,0)):=by rw [hW1]; exact (alloc_at sP)
 have z0:w.heap.size < W1.heap.size:=by rw [hW1]; simp <;> omega
 have z1:w.heap.size + 1 < W1.heap.size:=by rw [hW1]; simp <;> omega
 have B:Below w.heap.size w W1:=by rw [hW1]; exact (bT (bT (Below.refl w.heap.size w) (below_alloc _ _)) (below_alloc _ _))
 clear hW1
 refine (sizesI_2 _).mono ?_
 rintro e W2 ⟨rfl,hb2⟩
 replace X0:=(hb2.block _ z0).trans X0
 replace z0:=lL z0 hb2.size
 replace X1:=(hb2.block _ z1).trans X1
 replace z1:=lL z1 hb2.size
 replace B:=bT B hb2
 clear hb2
 obtain ⟨f0_0,f0_1,y0_0,y0_1⟩:=bx2 X0
 obtain ⟨f1_0,f1_1,y1_0,y1_1⟩:=bx2 X1
 go_upto_region 5 with fail
 clear f0_0 f0_1 y0_0 y0_1 f1_0 f1_1 y1_0 y1_1
 obtain ⟨f0_0,f0_1,y0_0,y0_1⟩:=bx2 X0
 obtain ⟨f1_0,f1_1,y1_0,y1_1⟩:=bx2 X1
 refine region_lin [.val (kIs (.pointer (some ⟨w.heap.size,0,none⟩))),.val (kIs (.float .f64 13830554455654793216)),.val (kIs (.float .f64 4611686018427387904)),.val (kIs (.agg #[.float .f64 13819745816549104026,.float .f64 13819745816549104025])),.val (kIs (.pointer (some ⟨w.heap.size,1,none⟩))),.val (kIs (.float .f64 0)),.val (kIs (.float .f64 4611686018427387904)),.val (kIs (.agg #[.float .f64 0,.float .f64 0])),.val (kSl 28 #[.float .f64 13819745816549104026,.float .f64 13819745816549104025,.float .f64 0,.float .f64 0] 2),.val (kIs (.agg #[.float .f64 13819745816549104026,.float .f64 0])),.val (kIs (.float .f64 0)),.val (kIs (.float .f64 0))]
  kR kR kR kR kR ⟨Stab.b (stab_is _),Stab.b (stab_is _),Stab.b (stab_is _),Stab.b (stab_is _),Stab.b (stab_is _),Stab.b (stab_is _),Stab.b (stab_is _),Stab.b (stab_is _),stabB_sl _ _ _,Stab.b (stab_is _),Stab.b (stab_is _),Stab.b (stab_is _),trivial⟩ sP ⟨?_,?_,?_,?_,?_,?_,?_,?_,?_,?_,?_,?_,trivial⟩ ?_
 ·exact obq
 ·intro ts W hb hB hp; have h0:ts 0 = _:=hp 0 kR; intro K hK; simp only [fillT,zA,Nat.reduceAdd,sA,sB,sC,h0] at hK ⊢; have HK:=hid hK; clear hK hp; obtain ⟨p0,p1,-,-⟩:=bx2 ((hb.block _ z0).trans X0); refine ⟨?_⟩; go_simp; exact HK.out _ _ kk rfB
 ·exact obq
 ·intro ts W hb hB hp; have h1:ts 1 = _:=hp 1 kR; have h2:ts 2 = _:=hp 2 kR; intro K hK; simp only [fillT,zA,Nat.reduceAdd,sA,sB,sC,h1,h2] at hK ⊢; have HK:=hid hK; clear hK hp; refine ⟨?_⟩; go_simp; refine (inverseI_5 _ (HT.out.below (bT B hb)) (HT6.out.below (bT B hb))).mono ?_; rintro e W9 ⟨rfl,hb9⟩; exact HK.out _ _ rfl hb9
 ·exact obq
 ·intro ts W hb hB hp; have h4:ts 4 = _:=hp 4 kR; intro K hK; simp only [fillT,zA,Nat.reduceAdd,sA,sB,sC,h4] at hK ⊢; have HK:=hid hK; clear hK hp; obtain ⟨p0,p1,-,-⟩:=bx2 ((hb.block _ z0).trans X0); refine ⟨?_⟩; go_simp; exact HK.out _ _ kk rfB
 ·exact obq
 ·intro ts W hb hB hp; have h5:ts 5 = _:=hp 5 kR; have h6:ts 6 = _:=hp 6 kR; intro K hK; simp only [fillT,zA,Nat.reduceAdd,sA,sB,sC,h5,h6] at hK ⊢; have HK:=hid hK; clear hK hp; refine ⟨?_⟩; go_simp; refine (inverseI_6 _ (HT.out.below (bT B hb)) (HT6.out.below (bT B hb))).mono ?_; rintro e W9 ⟨rfl,hb9⟩; exact HK.out _ _ rfl hb9
 ·intro ts W hb hB hp; have h3:ts 3 = _:=hp 3 kR; have h7:ts 7 = _:=hp 7 kR; intro K hK; simp only [fillT,zA,Nat.reduceAdd,sA,sB,sC,h3,h7] at hK ⊢; have HK:=hid hK; clear hK hp; refine ⟨?_⟩; exact wp_buildSlice rfl (by simp [Act.eval]) (bsI_2 W) (HK.out _ _ ⟨_,rfl,heap_alloc_new _ _,sP⟩ (below_alloc _ _))
 ·intro ts W hb hB hp; have h8:=hp 8 kR; intro K hK; obtain ⟨g9,e9,X9,z9⟩:=h8; simp only [fillT,zA,Nat.reduceAdd,sA,sB,sC,e9] at hK ⊢; have HK:=hid hK; clear hK hp; refine ⟨?_⟩; go_simp; refine (hullI_2 _ g9 X9 z9).mono ?_; rintro e W9 ⟨rfl,hb9⟩; exact HK.out _ _ rfl hb9
 ·intro ts W hb hB hp; have h9:ts 9 = _:=hp 9 kR; intro K hK; simp only [fillT,zA,Nat.reduceAdd,sA,sB,sC,h9] at hK ⊢; have HK:=hid hK; clear hK hp; refine ⟨?_⟩; go_simp; exact HK.out _ _ kk rfB
 ·intro ts W hb hB hp; have h10:ts 10 = _:=hp 10 kR; intro K hK; simp only [fillT,zA,Nat.reduceAdd,sA,sB,sC,h10] at hK ⊢; have HK:=hid hK; clear hK hp; refine ⟨?_⟩; go_simp; exact HK.out _ _ kk rfB
 intro ts W3 hb3 hh hap
 have e0:=held_is (hh 0 sP) rfl
 have e1:=held_is (hh 1 sP) rfl
 have e2:=held_is (hh 2 sP) rfl
 have e3:=held_is (hh 3 sP) rfl
 have e4:=held_is (hh 4 sP) rfl
 have e5:=held_is (hh 5 sP) rfl
 have e6:=held_is (hh 6 sP) rfl
 have e7:=held_is (hh 7 sP) rfl
 have e9:=held_is (hh 9 sP) rfl
 have e10:=held_is (hh 10 sP) rfl
 have e11:=held_is (hh 11 sP) rfl
 simp only [fillT,zA,Nat.reduceAdd,sA,sB,sC,e0,e1,e2,e3,e4,e5,e6,e7,e9,e10,e11]
 clear hh hap e0 e1 e2 e3 e4 e5 e6 e7 e9 e10 e11
 generalize ts 8 = u8_W3 at *
 replace X0:=(hb3.block _ z0).trans X0
 replace z0:=lL z0 hb3.size
 replace X1:=(hb3.block _ z1).trans X1
 replace z1:=lL z1 hb3.size
 replace B:=bT B hb3
 clear hb3
 clear f0_0 f0_1 y0_0 y0_1 f1_0 f1_1 y1_0 y1_1
 obtain ⟨f0_0,f0_1,y0_0,y0_1⟩:=bx2 X0
 obtain ⟨f1_0,f1_1,y1_0,y1_1⟩:=bx2 X1
 go_wp2
 go_ret
 exact ⟨rfl,B⟩
theorem invsI_2 (w:World) (hT:Tab w) (hT6:Tab64 w):Calls Tryz.prog 106 #[.agg #[.float .f64 13830554455654793216,.float .f64 0],.agg #[.float .f64 4607182418800017408,.float .f64 4611686018427387904]] w fun e w'=>e = .returned (.agg #[.float .f64 13826050856027422720,.float .f64 0]) /\ Below w.heap.size w w':=by
 have hfb:=floatbits_run
 have hsf:=store_float
 have k0:∀ W,(binOp BinOp.sub 26 (.float .f64 0) (.float .f64 4602678819172646912)).run Tryz.prog W = .ok (.float .f64 13826050856027422720) W:=fun W=>fsub_run dK W
 have HT:=hid hT
 have HT6:=hid hT6
 clear hT hT6
 go_enter Tryz.func106,Tryz.ntmps106
 go_upto_region 1 with fail
 obtain ⟨W1,hW1⟩:∃ W:World,W = ((w.alloc (.cells #[.float .f64 13830554455654793216,.float .f64 0] 28)).alloc (.cells #[.float .f64 4607182418800017408,.float .f64 4611686018427387904] 28)).alloc (.cells #[.float .f64 0,.float .f64 0] 28):=⟨_,rfl⟩
 rw [<- hW1]
 have X0:W1.heap[w.heap.size]? = some (.cells #[.float .f64 13830554455654793216,.float .f64 0] 28 (0,0)):=by rw [hW1]; exact ((heap_alloc_old _ _ (by first | omega | (simp <;> omega))).trans ((heap_alloc_old _ _ (by first | omega | (simp <;> omega))).trans (alloc_at sP)))
 have X1:W1.heap[w.heap.size + 1]? = some (.cells #[.float .f64 4607182418800017408,.float .f64 4611686018427387904] 28 (0,0)):=by rw [hW1]; exact ((heap_alloc_old _ _ (by first | omega | (simp <;> omega))).trans (alloc_at sP))
 have X2:W1.heap[w.heap.size + 2]? = some (.cells #[.float .f64 0,.float .f64 0] 28 (0,0)):=by rw [hW1]; exact (alloc_at sP)
 have z0:w.heap.size < W1.heap.size:=by rw [hW1]; simp <;> omega
 have z1:w.heap.size + 1 < W1.heap.size:=by rw [hW1]; simp <;> omega
 have z2:w.heap.size + 2 < W1.heap.size:=by rw [hW1]; simp <;> omega
 have B:Below w.heap.size w W1:=by rw [hW1]; exact (bT (bT (bT (Below.refl w.heap.size w) (below_alloc _ _)) (below_alloc _ _)) (below_alloc _ _))
 clear hW1
 obtain ⟨f0_0,f0_1,y0_0,y0_1⟩:=bx2 X0
 obtain ⟨f1_0,f1_1,y1_0,y1_1⟩:=bx2 X1
 obtain ⟨f2_0,f2_1,y2_0,y2_1⟩:=bx2 X2
 refine region_last [.val (kIs (.agg #[.float .f64 13830554455654793216,.float .f64 0])),.val (kIs (.agg #[.float .f64 0,.float .f64 4607182418800017408])),.val (kIs (.agg #[.float .f64 4607182418800017408,.float .f64 4611686018427387904])),.val (kIs (.float .f64 4602678819172646912)),.val (kIs (.float .f64 13826050856027422720)),.val (kIs (.agg #[.float .f64 13830554455654793216,.float .f64 0])),.val (kIs (.agg #[.float .f64 4607182418800017408,.float .f64 4611686018427387904])),.val (kIs (.float .f64 0)),.val (kIs (.agg #[.float .f64 13826050856027422720,.float .f64 0]))]
  kR kR kR kR kR ⟨Stab.b (stab_is _),Stab.b (stab_is _),Stab.b (stab_is _),Stab.b (stab_is _),Stab.b (stab_is _),Stab.b (stab_is _),Stab.b (stab_is _),Stab.b (stab_is _),Stab.b (stab_is _),trivial⟩ sP (ol:=_) rfl kR ⟨?_,?_,?_,?_,?_,?_,?_,?_,?_,trivial⟩ ?_
 ·intro ts W hb hB hp K hK; simp only [fillT,zA,Nat.reduceAdd,sA,sB,sC] at hK ⊢; have HK:=hid hK; clear hK hp; obtain ⟨p0,p1,-,-⟩:=bx2 ((hb.block _ z0).trans X0); refine ⟨?_⟩; go_simp; exact HK.out _ _ kk rfB
 ·intro ts W hb hB hp; have h0:ts 0 = _:=hp 0 kR; intro K hK; simp only [fillT,zA,Nat.reduceAdd,sA,sB,sC,h0] at hK ⊢; have HK:=hid hK; clear hK hp; refine ⟨?_⟩; go_simp; refine (snegI_3 _).mono ?_; rintro e W9 ⟨rfl,hb9⟩; exact HK.out _ _ rfl hb9
 ·intro ts W hb hB hp K hK; simp only [fillT,zA,Nat.reduceAdd,sA,sB,sC] at hK ⊢; have HK:=hid hK; clear hK hp; obtain ⟨p0,p1,-,-⟩:=bx2 ((hb.block _ z1).trans X1); refine ⟨?_⟩; go_simp; exact HK.out _ _ kk rfB
 ·intro ts W hb hB hp; have h1:ts 1 = _:=hp 1 kR; have h2:ts 2 = _:=hp 2 kR; intro K hK; simp only [fillT,zA,Nat.reduceAdd,sA,sB,sC,h1,h2] at hK ⊢; have HK:=hid hK; clear hK hp; refine ⟨?_⟩; go_simp; refine (giI_3 _ (HT.out.below (bT B hb)) (HT6.out.below (bT B hb))).mono ?_; rintro e W9 ⟨rfl,hb9⟩; exact HK.out _ _ rfl hb9
 ·intro ts W hb hB hp; have h3:ts 3 = _:=hp 3 kR; intro K hK; simp only [fillT,zA,Nat.reduceAdd,sA,sB,sC,h3] at hK ⊢; have HK:=hid hK; clear hK hp; refine ⟨?_⟩; go_simp; exact HK.out _ _ kk rfB
 ·intro ts W hb hB hp K hK; simp only [fillT,zA,Nat.reduceAdd,sA,sB,sC] at hK ⊢; have HK:=hid hK; clear hK hp; obtain ⟨p0,p1,-,-⟩:=bx2 ((hb.block _ z0).trans X0); refine ⟨?_⟩; go_simp; exact HK.out _ _ kk rfB
 ·intro ts W hb hB hp K hK; simp only [fillT,zA,Nat.reduceAdd,sA,sB,sC] at hK ⊢; have HK:=hid hK; clear hK hp; obtain ⟨p0,p1,-,-⟩:=bx2 ((hb.block _ z1).trans X1); refine ⟨?_⟩; go_simp; exact HK.out _ _ kk rfB
 ·intro ts W hb hB hp; have h5:ts 5 = _:=hp 5 kR; have h6:ts 6 = _:=hp 6 kR; intro K hK; simp only [fillT,zA,Nat.reduceAdd,sA,sB,sC,h5,h6] at hK ⊢; have HK:=hid hK; clear hK hp; refine ⟨?_⟩; go_simp; refine (giI_4 _ (HT.out.below (bT B hb)) (HT6.out.below (bT B hb))).mono ?_; rintro e W9 ⟨rfl,hb9⟩; exact HK.out _ _ rfl hb9
 ·intro ts W hb hB hp; have h4:ts 4 = _:=hp 4 kR; have h7:ts 7 = _:=hp 7 kR; intro K hK; simp only [fillT,zA,Nat.reduceAdd,sA,sB,sC,h4,h7] at hK ⊢; have HK:=hid hK; clear hK hp; refine ⟨?_⟩; go_simp; exact HK.out _ _ kk rfB
 intro ts W2 hb2 hh hap K hK
 have e0:=held_is (hh 0 sP) rfl
 have e1:=held_is (hh 1 sP) rfl
 have e2:=held_is (hh 2 sP) rfl
 have e3:=held_is (hh 3 sP) rfl
 have e4:=held_is (hh 4 sP) rfl
 have e5:=held_is (hh 5 sP) rfl
 have e6:=held_is (hh 6 sP) rfl
 have e7:=held_is (hh 7 sP) rfl
 have e8:=held_is (hh 8 sP) rfl
 have HK:=hid hK
 clear hK
 simp only [fillT,zA,Nat.reduceAdd,sA,sB,sC,e0,e1,e2,e3,e4,e5,e6,e7,e8]
 clear hh hap e0 e1 e2 e3 e4 e5 e6 e7 e8
 replace X0:=(hb2.block _ z0).trans X0
 replace z0:=lL z0 hb2.size
 replace X1:=(hb2.block _ z1).trans X1
 replace z1:=lL z1 hb2.size
 replace X2:=(hb2.block _ z2).trans X2
 replace z2:=lL z2 hb2.size
 replace B:=bT B hb2
 clear hb2
 clear f0_0 f0_1 y0_0 y0_1 f1_0 f1_1 y1_0 y1_1 f2_0 f2_1 y2_0 y2_1
 obtain ⟨f0_0,f0_1,y0_0,y0_1⟩:=bx2 X0
 obtain ⟨f1_0,f1_1,y1_0,y1_1⟩:=bx2 X1
 obtain ⟨f2_0,f2_1,y2_0,y2_1⟩:=bx2 X2
 refine ⟨?_⟩
 refine wp_store_row _ _ _ rfl (w.heap.size + 2) _ rfl rfl _ _ X2 kR rfl (by simp [Value.oneCell']) (HK.out _ _ ?_)
 have hput:=putAt_setRow (cs:=#[.float .f64 13826050856027422720,.float .f64 0]) X2
 replace B:=hput.below B oM
 clear HK f0_0 f0_1 y0_0 y0_1 f1_0 f1_1 y1_0 y1_1 f2_0 f2_1 y2_0 y2_1 X0 X1 X2
 generalize W2.setRow (w.heap.size + 2) #[.float .f64 13826050856027422720,.float .f64 0] = W3 at *
 have X2:=hput.here
 clear hput
 obtain ⟨f2_0,f2_1,y2_0,y2_1⟩:=bx2 X2
 go_wp2
 refine bodyPost_ret (v:=.agg #[.float .f64 13826050856027422720,.float .f64 0]) (by simp [results,Tryz.results106,go_sem,f2_0,f2_1,y2_0,y2_1]) rfl ?_
 exact ⟨rfl,B⟩
theorem clearI_1 (w:World):Calls Tryz.prog 55 #[.agg #[.float .f64 4607182418800017408,.float .f64 4611686018427387904,.float .f64 0,.float .f64 4607182418800017408]] w fun e w'=>e = .returned (.bool true) /\ Below w.heap.size w w':=by
 have hfb:=floatbits_run
 have hsf:=store_float
 go_enter Tryz.func55,Tryz.ntmps55
 go_wp2_with fail
 obtain ⟨W1,hW1⟩:∃ W:World,W = w.alloc (.cells #[.float .f64 4607182418800017408,.float .f64 4611686018427387904,.float .f64 0,.float .f64 4607182418800017408] 65):=⟨_,rfl⟩
 rw [<- hW1]
 have X0:W1.heap[w.heap.size]? = some (.cells #[.float .f64 4607182418800017408,.float .f64 4611686018427387904,.float .f64 0,.float .f64 4607182418800017408] 65 (0,0)):=by rw [hW1]; exact (alloc_at sP)
 have z0:w.heap.size < W1.heap.size:=by rw [hW1]; simp <;> omega
 have B:Below w.heap.size w W1:=by rw [hW1]; exact (bT (Below.refl w.heap.size w) (below_alloc _ _))
 clear hW1
 refine (hasZeroI_2 _).mono ?_
 rintro e W2 ⟨rfl,hb2⟩
 replace X0:=(hb2.block _ z0).trans X0
 replace z0:=lL z0 hb2.size
 replace B:=bT B hb2
 clear hb2
 obtain ⟨f0_0,f0_1,f0_2,f0_3,y0_0,y0_1,y0_2,y0_3⟩:=bx4 X0
 go_wp2
 go_ret
 exact ⟨rfl,B⟩
theorem inv_awake (w:World) (hT:Tab w) (hT6:Tab64 w):Calls Tryz.prog 54 #[.agg #[.float .f64 4607182418800017408,.float .f64 4611686018427387904,.float .f64 0,.float .f64 4607182418800017408]] w fun e w'=>e = .returned (.tuple #[.agg #[.float .f64 4600877379321698713,.float .f64 4607182418800017408,.float .f64 13826050856027422720,.float .f64 0],.int .i64 0]) /\ Below w.heap.size w w':=by
 have hsf:=store_float
 have HT:=hid hT
 have HT6:=hid hT6
 clear hT hT6
 go_enter Tryz.func54,Tryz.ntmps54
 go_wp2_with fail
 obtain ⟨W1,hW1⟩:∃ W:World,W = (w.alloc (.cells #[.float .f64 4607182418800017408,.float .f64 4611686018427387904,.float .f64 0,.float .f64 4607182418800017408] 65)).alloc (.cells #[.float .f64 0,.float .f64 0,.float .f64 0,.float .f64 0] 65):=⟨_,rfl⟩
 rw [<- hW1]
 have X0:W1.heap[w.heap.size]? = some (.cells #[.float .f64 4607182418800017408,.float .f64 4611686018427387904,.float .f64 0,.float .f64 4607182418800017408] 65 (0,0)):=by rw [hW1]; exact (heap_alloc_old _ _ sP).trans (heap_alloc_new w _)
 have z0:w.heap.size < W1.heap.size:=by rw [hW1]; simp <;> omega
 have X1:W1.heap[w.heap.size + 1]? = some (.cells #[.float .f64 0,.float .f64 0,.float .f64 0,.float .f64 0] 65 (0,0)):=by rw [hW1]; exact alloc_at sP
 have z1:w.heap.size + 1 < W1.heap.size:=by rw [hW1]; simp
 have B:Below w.heap.size w W1:=by rw [hW1]; exact bT (below_alloc _ _) (below_alloc _ _)
 clear hW1
 refine (clearI_1 _).mono ?_
 rintro e W2 ⟨rfl,hb2⟩
 replace X0:=(hb2.block _ z0).trans X0
 replace z0:=lL z0 hb2.size
 replace X1:=(hb2.block _ z1).trans X1
 replace z1:=lL z1 hb2.size
 replace B:=bT B hb2
 clear hb2
 obtain ⟨f0,f1,f2,f3,y0,y1,y2,y3⟩:=bx4 X0
 obtain ⟨g0,g1,g2,g3,v0,v1,v2,v3⟩:=bx4 X1
 go_upto_region 3 with fail
 go_region_held3 (fun w'=>w'.cell? ⟨w.heap.size,0,none⟩ = some (.float .f64 4607182418800017408) /\ w'.cell? ⟨w.heap.size,1,none⟩ = some (.float .f64 4611686018427387904) /\ w'.cell? ⟨w.heap.size,2,none⟩ = some (.float .f64 0) /\ w'.cell? ⟨w.heap.size,3,none⟩ = some (.float .f64 4607182418800017408)) (go_keep) (first | (go_at_call 106; (first | ((with_reducible refine (invsI_1 _ (HT.out.below ?_) (HT6.out.below ?_)).mono ?_); (exact bel); (exact bel); (rintro e W7 ⟨rfl,hb7⟩; have kb7:Below W2.heap.size W2 W7:=bel; clear hb7; obtain ⟨hc7,hf7,hz7⟩:=bcells kb7 (W2.heap.size) lR)) | ((with_reducible refine (invsI_2 _ (HT.out.below ?_) (HT6.out.below ?_)).mono ?_); (exact bel); (exact bel); (rintro e W8 ⟨rfl,hb8⟩; have kb8:Below W2.heap.size W2 W8:=bel; clear hb8; obtain ⟨hc8,hf8,hz8⟩:=bcells kb8 (W2.heap.size) lR)))) | (go_at_call 85; ((with_reducible refine (snegI_2 _).mono ?_); (rintro e W9 ⟨rfl,hb9⟩; have kb9:Below W2.heap.size W2 W9:=bel; clear hb9; obtain ⟨hc9,hf9,hz9⟩:=bcells kb9 (W2.heap.size) lR))))
 clear g0 g1 g2 g3 v0 v1 v2 v3 f0 f1 f2 f3 y0 y1 y2 y3
 replace X1:=(kb8.block _ z1).trans X1
 replace B:=bT B kb8
 obtain ⟨g0,g1,g2,g3,v0,v1,v2,v3⟩:=bx4 X1
 go_wp2
 refine bodyPost_ret (v:=.tuple #[.agg #[.float .f64 4600877379321698713,.float .f64 4607182418800017408,.float .f64 13826050856027422720,.float .f64 0],.int .i64 0]) (by simp [results,Tryz.results54,go_sem,g0,g1,g2,g3]) rfl ?_
 exact ⟨rfl,Below.setCell (p:=⟨w.heap.size + 1,3,none⟩) (Below.setCell (p:=⟨w.heap.size + 1,2,none⟩) (Below.setCell (p:=⟨w.heap.size + 1,1,none⟩) (Below.setCell (p:=⟨w.heap.size + 1,0,none⟩) B (show w.heap.size <= w.heap.size + 1 by omega) _) (show w.heap.size <= w.heap.size + 1 by omega) _) (show w.heap.size <= w.heap.size + 1 by omega) _) (show w.heap.size <= w.heap.size + 1 by omega) _⟩
end Go.Proofs.YtjodlmanheeajaaGreatDoor
