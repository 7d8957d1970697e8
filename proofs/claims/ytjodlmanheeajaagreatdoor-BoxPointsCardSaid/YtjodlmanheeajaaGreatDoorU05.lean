import Derived.Test.YtjodlmanheeajaaGreatDoorR22
import Derived.Test.YtjodlmanheeajaaGreatDoorU02
import Derived.Test.YtjodlmanheeajaaGreatDoorR24
import Derived.Test.YtjodlmanheeajaaGreatDoorU03
import Derived.Test.YtjodlmanheeajaaGreatDoorR40
import Derived.Test.YtjodlmanheeajaaGreatDoorU04
import Derived.Test.YtjodlmanheeajaaGreatDoorU01
import Derived.Test.YtjodlmanheeajaaGreatDoorR02
set_option linter.unusedVariables false
set_option linter.unusedSimpArgs false
set_option maxRecDepth 100000
set_option maxHeartbeats 8000000
namespace Go.Proofs.YtjodlmanheeajaaGreatDoor
open Go.RowKit
def arS (a:Int) (d:Nat):Sp:=⟨rdB64 a d (if a < 0 then 1 else 0),rdB64 a d (if a < 0 then 0 else 1)⟩
theorem cancel_le {x y k:Nat} (hk:0 < k) (h:x * k <= y * k):x <= y:=Nat.le_of_mul_le_mul_right h hk
theorem cancel_lt {x y k:Nat} (h:x * k < y * k):x < y:=Nat.lt_of_mul_lt_mul_right h
theorem Spl.scale {dg:Nat} {lo:Int} {p q p' q' m t:Nat} (h:Spl dg lo p q m t) (hq:0 < q) (hx:p * q' = p' * q) (hq':0 < q'):Spl dg lo p' q' m t:=by
 obtain ⟨h1,h2,h3,h4⟩:=h
 refine ⟨?_,?_,h3,h4⟩ <;> clear h3 h4 <;> generalize 2 ^ (-lo).toNat = c at * <;> generalize 2 ^ t = s at *
 ·have h5:=Nat.mul_le_mul_right q' h1
  refine cancel_le hq ?_
  have e1:m * s * q' * q = m * s * q * q':=by rw [Nat.mul_assoc,Nat.mul_comm q' q,<- Nat.mul_assoc]
  have e2:p * c * q' = p' * c * q:=by rw [Nat.mul_right_comm,hx,Nat.mul_right_comm]
  rw [e1,<- e2]
  exact h5
 ·have h5:=Nat.mul_lt_mul_of_pos_right h2 hq'
  refine cancel_lt (k:=q) ?_
  have e1:(m + 1) * s * q' * q = (m + 1) * s * q * q':=by rw [Nat.mul_assoc,Nat.mul_comm q' q,<- Nat.mul_assoc]
  have e2:p * c * q' = p' * c * q:=by rw [Nat.mul_right_comm,hx,Nat.mul_right_comm]
  rw [e1,<- e2]
  exact h5
theorem Spl.left_zero {dg:Nat} {lo:Int} {p q p' q' m t:Nat} (h:Spl dg lo p q m t) (h':Spl dg lo p' q' m t) (hq:0 < q) (hx:p * q' = p' * q) (hq':0 < q') (h0:0 < splR lo p q m t):0 < splR lo p' q' m t:=by
 unfold splR at *
 have h1:=h.le
 have h2:=h'.le
 generalize 2 ^ (-lo).toNat = c at *
 generalize 2 ^ t = s at *
 rcases Nat.lt_or_ge (m * s * q') (p' * c) with k | k
 ·omega
 ·exfalso
  have e:p' * c = m * s * q':=Nat.le_antisymm k h2
  have h5:m * s * q < p * c:=oM
  have h6:=Nat.mul_lt_mul_of_pos_right h5 hq'
  have e1:m * s * q * q' = m * s * q' * q:=by rw [Nat.mul_assoc,Nat.mul_comm q q',<- Nat.mul_assoc]
  have e2:p * c * q' = p' * c * q:=by rw [Nat.mul_right_comm,hx,Nat.mul_right_comm]
  rw [e1,e2,e] at h6
  omega
theorem rdF_scale {p q p' q':Nat} {way:Int} (hq:0 < q) (hq':0 < q') (hx:p * q' = p' * q) (hw:way = 0 ∨ way = 1):rdF 53 (-1074) 971 p q way = rdF 53 (-1074) 971 p' q' way:=by
 rcases Nat.eq_zero_or_pos p with h0 | hp
 ·subst h0
  have:p' = 0:=by
   rcases Nat.eq_zero_or_pos p' with h | h
   ·exact h
   ·have:=Nat.mul_pos h hq; omega
  subst this
  simp [rdF]
 ·have hp':0 < p':=by
   rcases Nat.eq_zero_or_pos p' with h | h
   ·subst h; have:=Nat.mul_pos hp hq'; omega
   ·exact h
  obtain ⟨m,t,h,hr⟩:=rdF_spl (hi:=971) Fm.double hp hq
  obtain ⟨m',t',h',hr'⟩:=rdF_spl (hi:=971) Fm.double hp' hq'
  obtain ⟨rfl,rfl⟩:=Spl.uniq oM (h.scale hq hx hq') h' hq'
  rw [hr way,hr' way]
  rcases hw with rfl | rfl
  ·rw [up_0,up_0]
  ·rw [up_1,up_1]
   have e:decide (0 < splR (-1074) p q m t) = decide (0 < splR (-1074) p' q' m t):=by
    rw [Bool.eq_iff_iff,decide_eq_true_iff,decide_eq_true_iff]
    exact ⟨h.left_zero h' hq hx hq',h'.left_zero h hq' hx.symm hq⟩
   rw [e]
theorem arS_scale {a a':Int} {d d':Nat} (hd:0 < d) (hd':0 < d') (hx:a * d' = a' * d):arS a d = arS a' d':=by
 have hn:a.natAbs * d' = a'.natAbs * d:=by
  have:=congrArg Int.natAbs hx
  rwa [Int.natAbs_mul,Int.natAbs_mul,Int.natAbs_natCast,Int.natAbs_natCast] at this
 have hs:(a < 0 ↔ a' < 0):=by
  have h1:a * d' < 0 ↔ a < 0:=⟨fun h=>Int.not_le.1 fun h'=>absurd (Int.mul_nonneg h' (Int.natCast_nonneg d')) oM,fun h=>Int.mul_neg_of_neg_of_pos h oM⟩
  have h2:a' * d < 0 ↔ a' < 0:=⟨fun h=>Int.not_le.1 fun h'=>absurd (Int.mul_nonneg h' (Int.natCast_nonneg d)) oM,fun h=>Int.mul_neg_of_neg_of_pos h oM⟩
  rw [<- h1,<- h2,hx]
 unfold arS rdB64
 by_cases h:a < 0
 ·rw [if_pos h,if_pos h,if_pos (hs.1 h),if_pos (hs.1 h),rdF_scale hd hd' hn (.inr rfl),rdF_scale hd hd' hn (.inl rfl),decide_eq_true h,decide_eq_true (hs.1 h)]
 ·have h':¬ a' < 0:=fun e=>h (hs.2 e)
  rw [if_neg h,if_neg h,if_neg h',if_neg h',rdF_scale hd hd' hn (.inr rfl),rdF_scale hd hd' hn (.inl rfl),decide_eq_false h,decide_eq_false h']
theorem nan_ninf:nanb 18442240474082181120 = false:=dK
theorem nan_pinf:nanb 9218868437227405312 = false:=dK
theorem fb_fin {b:Nat} (hb:b < 18446744073709551616) (hx:fx b ≠ 2047):FB b:=⟨hb,by unfold nanb; rw [ord_self hb hx]; rfl⟩
theorem rk_fin {b:Nat} (hx:fx b ≠ 2047):rk64 b = fI b:=by unfold rk64; rw [if_neg hx]
theorem rk_ninf:rk64 18442240474082181120 = -bigI:=by
 unfold rk64
 rw [if_pos dE,if_pos dE]
theorem rk_pinf:rk64 9218868437227405312 = bigI:=by
 unfold rk64
 rw [if_pos dE,if_neg dE]
theorem le_of_scaled {x y:Int} {d:Nat} (hd:0 < d) (h:x * (d:Int) <= y * (d:Int)):x <= y:=Int.le_of_mul_le_mul_right h oM
theorem ar_ok (a:Int) {d:Nat} (hd:0 < d):(arS a d).Ok:=by
 have h:=around_of a hd
 unfold arS
 generalize rdB64 a d (if a < 0 then 1 else 0) = L at *
 generalize rdB64 a d (if a < 0 then 0 else 1) = H at *
 obtain ⟨h1,h2,h3,h4,h5,h6,-⟩:=h
 have big:=big_pos
 by_cases xL:fx L = 2047
 ·have e:=h3 xL
  subst e
  by_cases xH:fx H = 2047
  ·have e:=h4 xH
   subst e
   exact ⟨⟨h1,nan_ninf⟩,⟨h2,nan_pinf⟩,by simp only; rw [rk_ninf,rk_pinf]; omega⟩
  ·exact ⟨⟨h1,nan_ninf⟩,fb_fin h2 xH,by simp only; rw [rk_ninf,rk_fin xH]; have:=(fI_big H).1; omega⟩
 ·by_cases xH:fx H = 2047
  ·have e:=h4 xH
   subst e
   exact ⟨fb_fin h1 xL,⟨h2,nan_pinf⟩,by simp only; rw [rk_pinf,rk_fin xL]; have:=(fI_big L).2; omega⟩
  ·exact ⟨fb_fin h1 xL,fb_fin h2 xH,by simp only; rw [rk_fin xL,rk_fin xH]; exact le_of_scaled hd (Int.le_trans (h5 xL) (h6 xH))⟩
theorem ar_one {a:Int} {d:Nat} (hd:0 < d) (h:eqb (arS a d).lo (arS a d).hi = true):fx (arS a d).lo ≠ 2047 /\ (arS a d).lo < 18446744073709551616 /\ IsF (arS a d).lo a d:=by
 have ho:=ar_ok a hd
 rw [ho.lo.eqb ho.hi] at h
 have hr:=of_decide_eq_true h
 have hA:=around_of a hd
 clear h ho
 unfold arS at *
 simp only at *
 generalize rdB64 a d (if a < 0 then 1 else 0) = L at *
 generalize rdB64 a d (if a < 0 then 0 else 1) = H at *
 have big:=big_pos
 rcases hA.step with ⟨-,h1,h2⟩ | ⟨h1,rfl⟩ | ⟨n,h1,rfl,rfl⟩
 ·exact ⟨h1,hA.l64,h2⟩
 ·exfalso
  have hx:=fx_fin h1
  rw [rk_fin hx] at hr
  rcases Nat.lt_or_ge (L + 1) 9218868437227405312 with k | k
  ·rw [rk_fin (fx_fin k)] at hr
   have:=fI_step k
   omega
  ·have e:L + 1 = 9218868437227405312:=oM
   rw [e,rk_pinf] at hr
   have:=(fI_big L).2
   omega
 ·exfalso
  have hH:rk64 (if n = 0 then 0 else n + 9223372036854775808) = fI (n + 9223372036854775808):=by
   split
   ·rename_i e
    subst e
    decide +kernel
   ·exact rk_fin (fx_fin' h1)
  rw [hH] at hr
  rcases Nat.lt_or_ge (n + 1) 9218868437227405312 with k | k
  ·rw [rk_fin (fx_fin' k)] at hr
   have:=fI_step' k
   omega
  ·have e:n + 1 = 9218868437227405312:=oM
   have e2:n + 1 + 9223372036854775808 = 18442240474082181120:=oM
   rw [e2,rk_ninf] at hr
   have:=(fI_big (n + 9223372036854775808)).1
   omega
theorem ar_float {a:Int} {d n:Nat} (hd:0 < d) (hx:fx n ≠ 2047) (h:IsF n a d):(arS a d).lo = (arS a d).hi:=by
 unfold arS rdB64
 simp only
 have key:rdF 53 (-1074) 971 a.natAbs d 0 = rdF 53 (-1074) 971 a.natAbs d 1:=by
  rcases Nat.eq_zero_or_pos a.natAbs with h0 | hp
  ·rw [h0]; simp [rdF]
  ·obtain ⟨m,t,hs,hr⟩:=rdF_spl (hi:=971) Fm.double hp hd
   have hm:=fmag_lt n
   have hu:fup n <= 2045:=by have:=fx_lt n; unfold fup; omega
   have he:a.natAbs * two74 = fmag n * 2 ^ fup n * d:=by
    have:=congrArg Int.natAbs h
    rwa [Int.natAbs_mul,Int.natAbs_mul,Int.natAbs_natCast,Int.natAbs_natCast,fI_abs] at this
   have hT:a.natAbs * 2 ^ ex74 = a.natAbs * two74:=by unfold two74; rfl
   have hS:Spl 53 (-1074) a.natAbs d (fmag n) (fup n):=by
    have hpos:0 < 2 ^ fup n * d:=Nat.mul_pos (Nat.pow_pos oM) hd
    refine ⟨by rw [c74,hT,he]; exact Nat.le_refl _,by rw [c74,hT,he,Nat.mul_assoc,Nat.mul_assoc,Nat.add_mul]; omega,by rw [two53]; exact hm,?_⟩
    rw [two52]
    unfold fup fmag
    split
    ·left; omega
    ·right; omega
   obtain ⟨rfl,rfl⟩:=Spl.uniq oM hs hS hd
   have hz:splR (-1074) a.natAbs d (fmag n) (fup n) = 0:=by
    unfold splR
    rw [c74,hT,he]
    omega
   rw [hr 0,hr 1,if_neg oM,up_0,if_neg Bool.false_ne_true,if_neg oM,up_1,hz]
   rfl
 by_cases h0:a < 0
 ·rw [if_pos h0,if_pos h0,key]
 ·rw [if_neg h0,if_neg h0,key]
theorem ar_iff {a:Int} {d:Nat} (hd:0 < d):eqb (arS a d).lo (arS a d).hi = true ↔ ∃ n,n < 18446744073709551616 /\ fx n ≠ 2047 /\ IsF n a d:=by
 constructor
 ·intro h
  obtain ⟨h1,h2,h3⟩:=ar_one hd h
  exact ⟨_,h2,h1,h3⟩
 ·rintro ⟨n,-,hx,h⟩
  have ho:=ar_ok a hd
  rw [ho.lo.eqb ho.hi,ar_float hd hx h]
  simp
theorem near_float {a:Int} {d n:Nat} (hn:n < 18446744073709551616) (hd:0 < d) (hx:fx n ≠ 2047) (h:IsF n a d):fx (nearB a d) ≠ 2047 /\ IsF (nearB a d) a d:=by
 rw [nearB_eq hn hx hd h]
 split
 ·rename_i h0
  have e:fI n = 0:=by have:=fI_abs n; rw [h0,Nat.zero_mul] at this; omega
  refine ⟨dE,?_⟩
  unfold IsF at *
  rw [h,e,show fI 0 = 0 by decide]
 ·exact ⟨hx,h⟩
theorem isF_scale {n d d':Nat} {a a':Int} (hd:0 < d) (hx:a * d' = a' * d) (h:IsF n a d):IsF n a' d':=by
 unfold IsF at *
 refine Int.eq_of_mul_eq_mul_right (a:=(d:Int)) oM ?_
 have e1:a' * (two74:Int) * (d:Int) = a * (d':Int) * (two74:Int):=by rw [hx,Int.mul_right_comm]
 have e2:a * (d':Int) * (two74:Int) = a * (two74:Int) * (d':Int):=by rw [Int.mul_right_comm]
 rw [e1,e2,h,Int.mul_right_comm]
theorem cf_of_isF {x:Cx} {a b:Int} {d n1 n2:Nat} (hl:Low x a b d) (h1:IsF n1 a d) (h2:IsF n2 b d):cf n1 n2 = x:=by
 have hd:=natCast_ne hl.pos
 have ht:=natCast_ne two74_pos
 have k1:=div_two74 (fI n1)
 have k2:=div_two74 (fI n2)
 have x1:x.re * (d:Rat) = (a:Rat):=hl.2.2.1
 have x2:x.im * (d:Rat) = (b:Rat):=hl.2.2.2
 have c1:(a:Rat) * (two74:Rat) = (fI n1:Rat) * (d:Rat):=by
  have:=congrArg (fun z:Int=>(z:Rat)) h1
  simp only [Rat.intCast_mul,Rat.intCast_natCast] at this
  exact this
 have c2:(b:Rat) * (two74:Rat) = (fI n2:Rat) * (d:Rat):=by
  have:=congrArg (fun z:Int=>(z:Rat)) h2
  simp only [Rat.intCast_mul,Rat.intCast_natCast] at this
  exact this
 refine Cx.ext ?_ ?_
 ·show (fI n1:Rat) / (two74:Rat) = x.re
  grind
 ·show (fI n2:Rat) / (two74:Rat) = x.im
  grind
theorem nearB_lt (a:Int) {d:Nat} (hd:0 < d):nearB a d < 18446744073709551616:=by
 have hn:rdF 53 (-1074) 971 a.natAbs d 2 <= 9218868437227405312:=by
  rcases Nat.eq_zero_or_pos a.natAbs with h0 | hp
  ·rw [h0]; simp [rdF]
  ·obtain ⟨m,t,hs,hr⟩:=rdF_spl (hi:=971) Fm.double hp hd
   have hm:=hs.hm
   rw [two53] at hm
   rw [hr 2]
   split
   ·unfold ovB; rw [infB_double]; decide
   ·rw [two52]
    split <;> omega
 unfold nearB
 cases decide (a < 0)
 ·rw [flt_pos]; omega
 ·rw [flt_neg oM]; split <;> omega
def exN (a b:Int) (d:Nat):Cx:=if fx (nearB a d) ≠ 2047 /\ fx (nearB b d) ≠ 2047 then cf (nearB a d) (nearB b d) else .zero
theorem point_iff {x:Cx} {a b a2:Int} {d d2:Nat} (hl:Low x a b d) (hd2:0 < d2) (hx:a2 * d = b * d2) :
  (eqb (arS a d).lo (arS a d).hi && eqb (arS a2 d2).lo (arS a2 d2).hi) = decide (exN a b d = x):=by
 have hd:=hl.pos
 rw [Bool.eq_iff_iff,Bool.and_eq_true,ar_iff hd,ar_iff hd2,decide_eq_true_iff]
 constructor
 ·rintro ⟨⟨n1,l1,x1,h1⟩,n2,l2,x2,h2⟩
  obtain ⟨y1,k1⟩:=near_float l1 hd x1 h1
  obtain ⟨y2,k2⟩:=near_float l2 hd x2 (isF_scale hd2 hx h2)
  unfold exN
  rw [if_pos ⟨y1,y2⟩]
  exact cf_of_isF hl k1 k2
 ·intro h
  unfold exN at h
  split at h
  ·rename_i hf
   rw [<- h] at hl
   obtain ⟨-,f1,f2⟩:=cf_isF hl
   exact ⟨⟨_,nearB_lt a hd,hf.1,f1⟩,_,nearB_lt b hd,hf.2,isF_scale hd hx.symm f2⟩
  ·have e0:a = 0 /\ b = 0:=by
    rw [<- h] at hl
    obtain ⟨rfl,rfl,-⟩:=hl.uniq (Low.int 0)
    exact ⟨rfl,rfl⟩
   obtain ⟨rfl,rfl⟩:=e0
   have e1:a2 = 0:=by
    rw [Int.zero_mul] at hx
    rcases Int.mul_eq_zero.1 hx with e | e
    ·exact e
    ·omega
   subst e1
   have z:∀ k:Nat,IsF 0 0 k:=fun k=>by unfold IsF; rw [show fI 0 = 0 by decide,Int.zero_mul,Int.zero_mul]
   exact ⟨⟨0,oM,dE,z _⟩,0,oM,dE,z _⟩
end Go.Proofs.YtjodlmanheeajaaGreatDoor
