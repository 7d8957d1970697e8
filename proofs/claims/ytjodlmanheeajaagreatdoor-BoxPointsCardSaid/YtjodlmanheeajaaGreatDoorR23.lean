import Derived.IntWalk
import Derived.Test.YtjodlmanheeajaaGreatDoorR13
import Derived.Test.YtjodlmanheeajaaGreatDoorR15
import Derived.Test.YtjodlmanheeajaaGreatDoorR21
import Derived.Test.YtjodlmanheeajaaGreatDoorR02
set_option linter.unusedVariables false
set_option linter.unusedSimpArgs false
set_option maxRecDepth 100000
set_option maxHeartbeats 8000000
namespace Go.Proofs.YtjodlmanheeajaaGreatDoor
open Go.RowKit
def RetSplit (w:World) (b:Nat) (e:Ending) (w':World):Prop:=∃ v z n,e = .returned (.tuple #[v,.int .i64 n,.bool (decide (fx b ≠ 2047))]) /\ IsInt w' v z /\ Below w.heap.size w w' /\ -1074 <= n /\ n <= 1023 /\ wl z.natAbs <= 2 /\ (z = 0 /\ n = 0 ∨ z % 2 ≠ 0) /\ (fx b ≠ 2047 -> z * 2 ^ (n + 1074).toNat = fI b)
theorem fx_bits (b:Nat) (hb:b < 18446744073709551616):bits BinOp.and IntKind.u64 ((b:Int) / 4503599627370496) 2047 = (fx b:Int):=by
 have:=u64_and_nat (b / 4503599627370496) 2047 oM oM
 have e:(b / 4503599627370496) &&& 2047 = fx b:=by
  have:=Nat.and_two_pow_sub_one_eq_mod (b / 4503599627370496) 11
  simpa [fx] using this
 rw [e] at this
 exact this
theorem fm_bits (b:Nat) (hb:b < 18446744073709551616):bits BinOp.and IntKind.u64 (b:Int) 4503599627370495 = (fm b:Int):=by
 have:=u64_and_nat b 4503599627370495 oM oM
 have e:b &&& 4503599627370495 = fm b:=by
  have:=Nat.and_two_pow_sub_one_eq_mod b 52
  simpa [fm] using this
 rw [e] at this
 exact this
theorem or_52 {m:Nat} (h:m < 4503599627370496):bits BinOp.or IntKind.u64 (m:Int) 4503599627370496 = ((m + 4503599627370496:Nat):Int):=by
 have:=u64_or_nat m 4503599627370496 oM oM
 have e:m ||| 4503599627370496 = m + 4503599627370496:=by
  have:=Nat.two_pow_add_eq_or_of_lt (i:=52) (b:=m) (by simpa using h) 1
  rw [Nat.or_comm]
  simp at this
  omega
 rw [e] at this
 exact this
theorem split_inf (b:Nat) (w:World) (hb:b < 18446744073709551616) (hx:fx b = 2047):Calls Tryz.prog 96 #[.float .f64 b] w (RetSplit w b):=by
 have hfb:=floatbits_run
 have h1:=fx_bits b hb
 rw [hx] at h1
 have h2:=fm_bits b hb
 have hm:=fm_lt b
 have HX:=hid hx
 generalize fm b = m at *
 clear hx hb
 go_enter Tryz.func96,Tryz.ntmps96
 go_wp2
 refine bodyPost_ret (v:=.tuple #[.agg #[.slice none 0 0,.bool false],.int .i64 0,.bool false]) (by simp [results,Tryz.results96,go_sem]) rfl ?_
 exact ⟨_,0,0,by rw [HX.out]; rfl,.zero _ _ _,below_alloc _ _,oM,oM,by simp [wl_zero],.inl ⟨rfl,rfl⟩,fun h=>absurd HX.out h⟩
theorem split_zero (b:Nat) (w:World) (hb:b < 18446744073709551616) (hx:fx b = 0) (h0:fm b = 0):Calls Tryz.prog 96 #[.float .f64 b] w (RetSplit w b):=by
 have hfb:=floatbits_run
 have h1:=fx_bits b hb
 have h2:=fm_bits b hb
 rw [hx] at h1
 rw [h0] at h2
 have HX:=hid hx
 have H0:=hid (show fI b = 0 by unfold fI fmag; rw [hx,h0]; simp)
 clear hx hb h0
 go_enter Tryz.func96,Tryz.ntmps96
 go_wp2
 refine bodyPost_ret (v:=.tuple #[.agg #[.slice none 0 0,.bool false],.int .i64 0,.bool true]) (by simp [results,Tryz.results96,go_sem]) rfl ?_
 exact ⟨_,0,0,by rw [HX.out]; rfl,.zero _ _ _,below_alloc _ _,oM,oM,by simp [wl_zero],.inl ⟨rfl,rfl⟩,fun h=>by rw [H0.out,Int.zero_mul]⟩
theorem lt_zero {b:Nat} (hb:b < 18446744073709551616) (h:fx b ≠ 2047) (h0:fmag b ≠ 0):(FloatKind.f64.format.order b 0 == some Ordering.lt) = fneg b:=by
 have:=order_zero hb h h0
 rw [show FloatKind.f64.format = Ieee.double from rfl,this]
 cases fneg b <;> rfl
theorem ctz_spec {m:Nat} (h0:m ≠ 0) (hm:m < 9007199254740992):Lib.ctz 64 m < 53 /\ m / 2 ^ Lib.ctz 64 m * 2 ^ Lib.ctz 64 m = m /\ m / 2 ^ Lib.ctz 64 m % 2 = 1:=by
 obtain ⟨j,h1,h2⟩:=Lib.ctzFrom_spec 64 m oM oM
 have h3:Lib.ctz 64 m = Lib.ctzFrom 64 m:=by unfold Lib.ctz; rw [if_neg h0]
 rw [<- h3] at h1 h2
 generalize Lib.ctz 64 m = k at *
 have hp:0 < 2 ^ k:=Nat.pow_pos oM
 have h4:m / 2 ^ k = 2 * j + 1:=by rw [h1]; exact Nat.mul_div_cancel_left _ hp
 refine ⟨?_,by rw [h4,Nat.mul_comm]; exact h1.symm,oM⟩
 refine (Nat.pow_lt_pow_iff_right (a:=2) oM).1 (Nat.lt_of_le_of_lt ?_ (show m < 2 ^ 53 by omega))
 rw [h1]
 exact Nat.le_mul_of_pos_right _ oM
theorem split_val {b q k:Nat} (h:q * 2 ^ k = fmag b):(if fneg b then -(q:Int) else (q:Int)) * 2 ^ (fup b + k) = fI b:=by
 unfold fI
 rw [<- h]
 have e:(q * 2 ^ k * 2 ^ fup b:Nat) = q * 2 ^ (fup b + k):=by rw [Nat.mul_assoc,<- Nat.pow_add,Nat.add_comm]
 rw [e]
 split <;> simp [Int.neg_mul]
theorem split_sg {b q:Nat} (h:q ≠ 0):(if fneg b then -(q:Int) else (q:Int)).natAbs = q /\ decide ((if fneg b then -(q:Int) else (q:Int)) < 0) = fneg b:=by
 cases fneg b
 ·simp
 ·simp; omega
theorem run_loadZe {w:World} {g:Nat} (h:IntBox w g) (v0 v1 r u:Value) :
  ((Sem.run Tryz.prog (asAddr (Value.pointer (some { block:=g,off:=0 }))) ((w.setCell ⟨g,0,none⟩ v0).setCell ⟨g,1,none⟩ v1)).andThen
   fun a w'=>(Sem.run Tryz.prog (loadVar 47 a) w').andThen fun a w'=>Result.ok (Value.tuple #[a,r,u]) w') =
  Result.ok (Value.tuple #[Value.agg #[v0,v1],r,u]) ((w.setCell ⟨g,0,none⟩ v0).setCell ⟨g,1,none⟩ v1):=by
 obtain ⟨o0,o1,h0,h1,-⟩:=h
 simp [go_sem,h0,h1]
theorem split_sub (b:Nat) (w:World) (hb:b < 18446744073709551616) (hx:fx b = 0) (h0:fm b ≠ 0) (hT:Tab64 w):Calls Tryz.prog 96 #[.float .f64 b] w (RetSplit w b):=by
 have hfb:=floatbits_run
 have h1:=fx_bits b hb
 have h2:=fm_bits b hb
 have hf:=fm_lt b
 have HM:=hid (show fmag b = fm b by unfold fmag; rw [if_pos hx])
 have hU:fup b = 0:=by unfold fup; rw [hx]
 have hX7:fx b ≠ 2047:=oM
 rw [hx] at h1
 have hm0:fm b ≠ 0:=h0
 have hm:fm b < 9007199254740992:=oM
 generalize fm b = m at *
 have HLT:=hid (lt_zero hb oM (by rw [HM.out]; exact hm0))
 have hz:((m:Int) == 0) = false:=sO
 have H7:=hid (show decide (fx b ≠ 2047) = true by simp; omega)
 have HT:=hid (fun W (hT:Tab64 W)=>tz64_any m W hm0 oM hT)
 obtain ⟨k,hk⟩:∃ k,Lib.ctz 64 m = k:=⟨_,rfl⟩
 obtain ⟨hk6,hkm,hq0⟩:=ctz_spec hm0 hm
 rw [hk] at hk6 hkm hq0
 obtain ⟨q,hq⟩:∃ q,m / 2 ^ k = q:=⟨_,rfl⟩
 rw [hq] at hkm hq0
 have HOD:=hid hq0
 replace hq0:q ≠ 0:=oM
 have hql:q <= m:=by rw [<- hq]; exact Nat.div_le_self _ _
 have hq64:q < 18446744073709551616:=oM
 have HDV:=hid (show (m:Int) / 2 ^ k = (q:Int) by rw [<- hq]; simp)
 have HV:=hid (split_val (b:=b) (by rw [HM.out]; exact hkm))
 have HSG:=hid (split_sg (b:=b) hq0)
 have HU:=hid hU
 have HWQ:=hid (show wl q <= 2 from wl_le_of oM)
 have HK:=hid hk
 have HX7:=hid hX7
 clear hx hX7 hb h0 hm0 hm hk hkm hq hU hq0
 go_enter Tryz.func96,Tryz.ntmps96
 go_wp2_with fail
 refine (HT.out _ (hT.below (below_alloc _ _))).mono ?_
 rintro e w1 ⟨rfl,rfl⟩
 rw [HK.out]
 go_wp2_with fail
 rw [HDV.out]
 refine (fromUint_any q _ hq64).mono ?_
 rintro e w2 ⟨v,rfl,hv,hb2⟩
 obtain ⟨A,n,c,rfl,-⟩:=hv.ex
 have hbx:w2.heap[w.heap.size]? = some (.cells #[.slice none 0 0,.bool false] 47 (0,0)):=(hb2.block w.heap.size sP).trans (heap_alloc_new w _)
 obtain ⟨f0,f1,y0,y1⟩:=bx2 hbx
 have HVV:=hid hv
 have HB2:=hid (bT (below_alloc w _) hb2)
 have hlt:=HLT.out
 clear hv hb2 hbx
 go_wp2
 have IB:IntBox w2 w.heap.size:=.mk f0 f1
 refine bodyPost_ret (v:=.tuple #[.agg #[.slice A n c,.bool (fneg b)],.int .i64 (-1074 + (k:Int)),.bool true]) (by simp [results,Tryz.results96]; exact run_loadZe IB _ _ _ _) rfl ?_
 have h3:=HU.out
 have h7:=HX7.out
 refine ⟨_,_,_,by rw [H7.out],IsInt.box2 (z:=if fneg b then -(q:Int) else (q:Int)) ⟨_,by rw [HSG.out.2],by rw [HSG.out.1]; exact HVV.out⟩ IB _ _,(HB2.out.setCell lR _).setCell lR _,oM,oM,by rw [HSG.out.1]; exact HWQ.out,.inr ?_,fun _=>?_⟩
 ·have:=HSG.out.1; have:=HOD.out; omega
 ·rw [<- HV.out]
  congr 2
  omega
theorem split_norm (b:Nat) (w:World) (hb:b < 18446744073709551616) (hx:0 < fx b) (hx2:fx b ≠ 2047) (hT:Tab64 w):Calls Tryz.prog 96 #[.float .f64 b] w (RetSplit w b):=by
 have hfb:=floatbits_run
 have h1:=fx_bits b hb
 have h2:=fm_bits b hb
 have hf:=fm_lt b
 have hor:=or_52 hf
 have HM:=hid (show fmag b = fm b + 4503599627370496 by unfold fmag; rw [if_neg oM])
 have hU:fup b = fx b - 1:=rfl
 have hX7:=hx2
 have hXl:=fx_lt b
 generalize fm b = m0 at *
 obtain ⟨m,hmd⟩:∃ m,m = m0 + 4503599627370496:=⟨_,rfl⟩
 rw [<- hmd] at hor
 have HM:=hid (HM.out.trans hmd.symm)
 have hm0:m ≠ 0:=oM
 have hm:m < 9007199254740992:=oM
 obtain ⟨X,hX⟩:∃ X,fx b = X:=⟨_,rfl⟩
 rw [hX] at h1 hU hx hX7 hXl
 have hX7d:((X:Int) == 2047) = false:=sO
 have hXp:(0:Int) < (X:Int):=oM
 have hXpd:decide ((0:Int) < (X:Int)) = true:=sO
 have hwX:IntKind.i64.wrap (X:Int) = (X:Int):=IntWalk.i64_in _ oM
 clear hmd
 have HLT:=hid (lt_zero hb (by rw [hX]; exact hX7) (by rw [HM.out]; exact hm0))
 have hz:((m:Int) == 0) = false:=sO
 have H7:=hid (show decide (fx b ≠ 2047) = true by rw [hX]; simp; omega)
 have HT:=hid (fun W (hT:Tab64 W)=>tz64_any m W hm0 oM hT)
 obtain ⟨k,hk⟩:∃ k,Lib.ctz 64 m = k:=⟨_,rfl⟩
 obtain ⟨hk6,hkm,hq0⟩:=ctz_spec hm0 hm
 rw [hk] at hk6 hkm hq0
 obtain ⟨q,hq⟩:∃ q,m / 2 ^ k = q:=⟨_,rfl⟩
 rw [hq] at hkm hq0
 have HOD:=hid hq0
 replace hq0:q ≠ 0:=oM
 have hql:q <= m:=by rw [<- hq]; exact Nat.div_le_self _ _
 have hq64:q < 18446744073709551616:=oM
 have HDV:=hid (show (m:Int) / 2 ^ k = (q:Int) by rw [<- hq]; simp)
 have HV:=hid (split_val (b:=b) (by rw [HM.out]; exact hkm))
 have HSG:=hid (split_sg (b:=b) hq0)
 have HU:=hid hU
 have HWQ:=hid (show wl q <= 2 from wl_le_of oM)
 have HK:=hid hk
 have HX7:=hid hX7
 clear hx hx2 hX7 hb hX hm0 hm hk hkm hq hU hq0
 go_enter Tryz.func96,Tryz.ntmps96
 go_wp2_with fail
 refine (HT.out _ (hT.below (below_alloc _ _))).mono ?_
 rintro e w1 ⟨rfl,rfl⟩
 rw [HK.out]
 go_wp2_with fail
 rw [HDV.out]
 refine (fromUint_any q _ hq64).mono ?_
 rintro e w2 ⟨v,rfl,hv,hb2⟩
 obtain ⟨A,n,c,rfl,-⟩:=hv.ex
 have hbx:w2.heap[w.heap.size]? = some (.cells #[.slice none 0 0,.bool false] 47 (0,0)):=(hb2.block w.heap.size sP).trans (heap_alloc_new w _)
 obtain ⟨f0,f1,y0,y1⟩:=bx2 hbx
 have HVV:=hid hv
 have HB2:=hid (bT (below_alloc w _) hb2)
 have hlt:=HLT.out
 clear hv hb2 hbx
 go_wp2
 have IB:IntBox w2 w.heap.size:=.mk f0 f1
 refine bodyPost_ret (v:=.tuple #[.agg #[.slice A n c,.bool (fneg b)],.int .i64 ((X:Int) - 1 - 1074 + (k:Int)),.bool true]) (by simp [results,Tryz.results96]; exact run_loadZe IB _ _ _ _) rfl ?_
 have h3:=HU.out
 have h7:=HX7.out
 refine ⟨_,_,_,by rw [H7.out],IsInt.box2 (z:=if fneg b then -(q:Int) else (q:Int)) ⟨_,by rw [HSG.out.2],by rw [HSG.out.1]; exact HVV.out⟩ IB _ _,(HB2.out.setCell lR _).setCell lR _,oM,oM,by rw [HSG.out.1]; exact HWQ.out,.inr ?_,fun _=>?_⟩
 ·have:=HSG.out.1; have:=HOD.out; omega
 ·rw [<- HV.out]
  congr 2
  omega
theorem split_any (b:Nat) (w:World) (hb:b < 18446744073709551616) (hT:Tab64 w):Calls Tryz.prog 96 #[.float .f64 b] w (RetSplit w b):=by
 by_cases h:fx b = 2047
 ·exact split_inf b w hb h
 rcases Nat.eq_zero_or_pos (fx b) with h0 | h0
 ·by_cases h1:fm b = 0
  ·exact split_zero b w hb h0 h1
  ·exact split_sub b w hb h0 h1 hT
 ·exact split_norm b w hb h0 h hT
end Go.Proofs.YtjodlmanheeajaaGreatDoor
