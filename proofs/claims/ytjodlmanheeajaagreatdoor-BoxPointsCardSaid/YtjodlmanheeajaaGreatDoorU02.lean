import Derived.Test.YtjodlmanheeajaaGreatDoorR01
import Derived.Test.YtjodlmanheeajaaGreatDoorU01
import Derived.Test.YtjodlmanheeajaaGreatDoorR19
import Derived.Test.YtjodlmanheeajaaGreatDoorR21
import Derived.Test.YtjodlmanheeajaaGreatDoorR22
import Derived.Test.YtjodlmanheeajaaGreatDoorR17
import Derived.Test.YtjodlmanheeajaaGreatDoorR23
import Derived.Test.YtjodlmanheeajaaGreatDoorR24
import Derived.Test.YtjodlmanheeajaaGreatDoorR02
set_option linter.unusedVariables false
set_option linter.unusedSimpArgs false
set_option maxRecDepth 100000
set_option maxHeartbeats 8000000
namespace Go.Proofs.YtjodlmanheeajaaGreatDoor
theorem pow2_lt {a b:Nat} (h:(2:Nat) ^ a < 2 ^ b):a < b:=(Nat.pow_lt_pow_iff_right (a:=2) oM).1 h
theorem exact_shift {dg p q m u c:Nat} (hq:0 < q) (hp:0 < p) (h:p * 2 ^ c = m * 2 ^ u * q) (hm:m < 2 ^ dg) :
  ∃ t:Nat,(t:Int) = (u:Int) - c + rdS dg p q /\ 2 <= t /\ rdM dg p q = m * 2 ^ t /\ rdX dg p q = false:=by
 obtain ⟨m1,m2,mQ⟩:=rdM_bounds (dg:=dg) hp hq
 unfold rdX
 unfold rdM at *
 generalize rdS dg p q = s at *
 obtain ⟨a,ha⟩:∃ a:Nat,s.toNat = a:=⟨_,rfl⟩
 obtain ⟨b,hb⟩:∃ b:Nat,(-s).toNat = b:=⟨_,rfl⟩
 unfold scP scQ at *
 rw [ha,hb] at m1 m2 ⊢
 rw [hb] at mQ
 rw [Nat.le_div_iff_mul_le mQ] at m1
 have k1:p * 2 ^ a * 2 ^ c = m * (2 ^ (u + a) * q):=by
  rw [Nat.mul_right_comm,h,Nat.pow_add]
  simp only [Nat.mul_assoc,Nat.mul_comm,Nat.mul_left_comm]
 have k2:c + b + 1 < u + a:=by
  refine Nat.lt_of_not_le fun hn=>?_
  have e1:2 ^ (dg + 1) * (q * 2 ^ b) * 2 ^ c <= m * (2 ^ (u + a) * q):=by rw [<- k1]; exact Nat.mul_le_mul_right _ m1
  have e2:2 ^ (dg + 1) * (q * 2 ^ b) * 2 ^ c = 2 ^ (dg + (c + b + 1)) * q:=by
   rw [show dg + (c + b + 1) = dg + 1 + b + c by omega,Nat.pow_add _ _ c,Nat.pow_add _ (dg + 1) b]
   simp only [Nat.mul_assoc,Nat.mul_comm,Nat.mul_left_comm]
  have e3:m * (2 ^ (u + a) * q) < 2 ^ dg * (2 ^ (u + a) * q):=Nat.mul_lt_mul_of_pos_right hm (Nat.mul_pos (Nat.pow_pos oM) hq)
  have e4:2 ^ dg * (2 ^ (u + a) * q) = 2 ^ (dg + (u + a)) * q:=by rw [Nat.pow_add 2 dg (u + a),Nat.mul_assoc]
  rw [e2] at e1
  rw [e4] at e3
  have e5:=pow2_lt (Nat.lt_of_mul_lt_mul_right (Nat.lt_of_le_of_lt e1 e3))
  omega
 obtain ⟨t,ht⟩:∃ t,u + a = c + b + t:=⟨u + a - (c + b),oM⟩
 have k3:p * 2 ^ a = m * 2 ^ t * (q * 2 ^ b):=by
  refine Nat.eq_of_mul_eq_mul_right (Nat.pow_pos (n:=c) (show 0 < 2 by omega)) ?_
  rw [k1,ht,Nat.pow_add,Nat.pow_add]
  simp only [Nat.mul_assoc,Nat.mul_comm,Nat.mul_left_comm]
 refine ⟨t,oM,oM,?_,?_⟩
 ·rw [k3,Nat.mul_div_cancel _ mQ]
 ·rw [k3,Nat.mul_mod_left]; simp
theorem bl_shift {m t:Nat} (hm:0 < m):bl (m * 2 ^ t) = bl m + t:=by
 obtain ⟨h0,h1,h2⟩:=bl_pow hm
 have h3:2 ^ (bl m - 1 + t) <= m * 2 ^ t:=by rw [Nat.pow_add]; exact Nat.mul_le_mul_right _ h1
 have h4:m * 2 ^ t < 2 ^ (bl m + t):=by rw [Nat.pow_add]; exact Nat.mul_lt_mul_of_pos_right h2 (Nat.pow_pos oM)
 have:=bl_between h3 h4
 omega
theorem rUp_exact (k h:Nat) (hh:0 < h):rUp k 0 h false 2 = false:=by
 have e1:¬ (0 = h):=oM
 simp [rUp,e1]
theorem rdF_exact {dg:Nat} {lo hi:Int} {p q m u c:Nat} (hf:Fm dg lo hi) (hc:(c:Int) = -lo) (hq:0 < q) (h0:0 < m) (hm:m < 2 ^ dg) (hu:u = 0 ∨ 2 ^ (dg - 1) <= m) (hhi:(u:Int) + lo <= hi) (h:p * 2 ^ c = m * 2 ^ u * q) :
  rdF dg lo hi p q 2 = u * 2 ^ (dg - 1) + m:=by
 obtain ⟨f1,f2,f3,f4,f5,f6⟩:=hf
 have hp:0 < p:=by
  rcases Nat.eq_zero_or_pos p with e | e
  ·subst e
   have:0 < m * 2 ^ u * q:=Nat.mul_pos (Nat.mul_pos h0 (Nat.pow_pos oM)) hq
   omega
  ·exact e
 obtain ⟨t,ht,ht2,hM,hX⟩:=exact_shift hq hp h hm
 have hS:rdS dg p q = (t:Int) - u - lo:=oM
 obtain ⟨-,m2,-⟩:=rdM_bounds (dg:=dg) hp hq
 have ht3:t <= 60:=by
  rw [hM] at m2
  have:2 ^ t < 2 ^ (dg + 3):=Nat.lt_of_le_of_lt (Nat.le_mul_of_pos_left _ h0) m2
  have:=pow2_lt this
  omega
 have hbl:bl m <= dg:=by
  obtain ⟨b0,b1,b2⟩:=bl_pow h0
  have:=pow2_lt (Nat.lt_of_le_of_lt b1 hm)
  omega
 have hblu:u = 0 ∨ bl m = dg:=by
  rcases hu with e | e
  ·exact .inl e
  ·right
   have:=(bl_between e (bl_pow h0).2.2).1
   omega
 have hU:rdU dg lo p q = (u:Int) + lo:=by
  unfold rdU
  rw [hM,bl_shift h0,hS]
  omega
 have hD:rdD dg lo p q = t:=by
  unfold rdD
  rw [hU,hS]
  omega
 have ht0:0 < 2 ^ t:=Nat.pow_pos oM
 unfold rdF
 rw [if_neg oM,if_neg oM,rdB_eq,hD,hU,hM,hX,Nat.mul_div_cancel _ ht0,Nat.mul_mod_left,rUp_exact _ _ (Nat.pow_pos oM)]
 have e:((u:Int) + lo - lo).toNat = u:=oM
 rw [e]
 simp
theorem fm_back {b:Nat} (hb:b < 18446744073709551616) (h:fx b ≠ 2047):fup b * 2 ^ 52 + fmag b = b % 9223372036854775808:=by
 have e:(2:Nat) ^ 52 = 4503599627370496:=dK
 rw [e]
 unfold fup fmag fm
 have:=fx_lt b
 split
 ·rename_i h0
  rw [h0]
  unfold fx at h0
  omega
 ·rename_i h0
  have h1:fx b = b % 9223372036854775808 / 4503599627370496:=by unfold fx; omega
  have h2:b % 4503599627370496 = b % 9223372036854775808 % 4503599627370496:=oM
  rw [h2]
  generalize b % 9223372036854775808 = c at *
  rw [h1] at h0 ⊢
  have h3:=Nat.div_add_mod c 4503599627370496
  obtain ⟨k,hk⟩:∃ k,c / 4503599627370496 = k + 1:=⟨c / 4503599627370496 - 1,oM⟩
  rw [hk] at h3 ⊢
  generalize c % 4503599627370496 = r at h3 ⊢
  rw [<- h3,Nat.add_sub_cancel,Nat.mul_add,Nat.mul_one,Nat.mul_comm k,Nat.add_assoc,Nat.add_comm r]
theorem fup_le {b:Nat} (h:fx b ≠ 2047):fup b <= 2045:=by
 have:=fx_lt b
 unfold fup
 omega
theorem fmag_pos {b:Nat} (h:fmag b ≠ 0):0 < fmag b * 2 ^ fup b:=Nat.mul_pos oM (Nat.pow_pos oM)
theorem fI_neg (b:Nat):decide (fI b < 0) = (fneg b && decide (fmag b ≠ 0)):=by
 by_cases h:fmag b = 0
 ·have e:fI b = 0:=by unfold fI; rw [h]; simp
  rw [e,h]; simp
 ·have hp:=fmag_pos h
  unfold fI
  generalize fmag b * 2 ^ fup b = m at hp
  cases fneg b
  ·simp only [h,Bool.false_eq_true,if_false,Bool.false_and,decide_eq_false_iff_not]; omega
  ·simp only [if_true,Bool.true_and,decide_eq_decide]; omega
theorem fmag_or (b:Nat):fup b = 0 ∨ 2 ^ (53 - 1) <= fmag b:=by
 have e:(2:Nat) ^ (53 - 1) = 4503599627370496:=dK
 rw [e]
 unfold fup fmag
 split
 ·left; omega
 ·right; omega
theorem or_63 {m:Nat} (h:m < 9223372036854775808):m ||| 9223372036854775808 = m + 9223372036854775808:=by
 have:=Nat.two_pow_add_eq_or_of_lt (i:=63) (b:=m) (by simpa using h) 1
 rw [Nat.or_comm]
 simp at this
 omega
def IsF (b:Nat) (a:Int) (d:Nat):Prop:=a * (two74:Int) = fI b * (d:Int)
theorem nearB_eq {b:Nat} {a:Int} {d:Nat} (hb:b < 18446744073709551616) (hx:fx b ≠ 2047) (hd:0 < d) (h:IsF b a d) :
  nearB a d = if fmag b = 0 then 0 else b:=by
 unfold IsF at h
 have hT:=two74_pos
 have hT':(0:Int) < (two74:Int):=oM
 have hd':(0:Int) < (d:Int):=oM
 have h1:a.natAbs * two74 = fmag b * 2 ^ fup b * d:=by
  have:=congrArg Int.natAbs h
  rw [Int.natAbs_mul,Int.natAbs_mul,fI_abs,Int.natAbs_natCast,Int.natAbs_natCast] at this
  exact this
 unfold nearB
 by_cases h0:fmag b = 0
 ·have ha:a.natAbs = 0:=by
   rw [h0,Nat.zero_mul,Nat.zero_mul] at h1
   rcases Nat.mul_eq_zero.1 h1 with e | e <;> omega
  rw [if_pos h0,ha]
  unfold rdF
  rw [if_pos rfl]
  simp [flt]
 ·rw [if_neg h0]
  have hlt:fmag b < 2 ^ 53:=by
   have:=fmag_lt b
   have e:(2:Nat) ^ 53 = 9007199254740992:=dK
   omega
  have hr:=rdF_exact (hi:=971) (p:=a.natAbs) (u:=fup b) (c:=ex74) Fm.double (by rw [ex74_eq]; rfl) hd oM hlt (fmag_or b) (by have:=fup_le hx; omega) h1
  rw [hr]
  have hb2:=fm_back hb hx
  have hbk:b = b % 9223372036854775808 + (if fneg b then 9223372036854775808 else 0):=by
   unfold fneg
   split <;> rename_i e <;> simp at e <;> omega
  have hn:decide (a < 0) = fneg b:=by
   have:=fI_neg b
   rw [decide_eq_true h0,Bool.and_true] at this
   rw [<- this,decide_eq_decide]
   constructor
   ·intro ha
    have:a * (two74:Int) < 0:=Int.mul_neg_of_neg_of_pos ha hT'
    rw [h] at this
    refine Int.lt_of_not_ge fun hn=>?_
    have:=Int.mul_nonneg hn (Int.le_of_lt hd')
    omega
   ·intro hf
    have:fI b * (d:Int) < 0:=Int.mul_neg_of_neg_of_pos hf hd'
    rw [<- h] at this
    refine Int.lt_of_not_ge fun hn=>?_
    have:=Int.mul_nonneg hn (Int.le_of_lt hT')
    omega
  rw [hn,hb2]
  have hp:b % 9223372036854775808 ≠ 0:=by rw [<- hb2]; omega
  unfold flt
  cases hs:fneg b
  ·rw [hs] at hbk
   rw [if_neg Bool.false_ne_true,Nat.add_zero] at hbk
   rw [Bool.false_and,if_neg Bool.false_ne_true]
   exact hbk.symm
  ·rw [hs] at hbk
   simp [hp]
   rw [or_63 (Nat.mod_lt _ oM)]
   simp at hbk
   exact hbk.symm
theorem isF_of {b d:Nat} {a:Int} (h:(fI b:Rat) / (two74:Rat) * (d:Rat) = (a:Rat)):IsF b a d:=by
 unfold IsF
 refine Rat.intCast_inj.1 ?_
 rw [Rat.intCast_mul,Rat.intCast_mul,Rat.intCast_natCast,Rat.intCast_natCast,<- h]
 have:=div_two74 (fI b)
 grind
theorem cf_isF {x y d:Nat} {a b:Int} (h:Low (cf x y) a b d):0 < d /\ IsF x a d /\ IsF y b d:=by
 obtain ⟨h1,-,h3,h4⟩:=h
 exact ⟨h1,isF_of h3,isF_of h4⟩
end Go.Proofs.YtjodlmanheeajaaGreatDoor
namespace Go.Proofs.YtjodlmanheeajaaGreatDoor
open Go.RowKit
theorem complex_bad (a b:Nat) (w:World) (ha:a < 18446744073709551616) (hb:b < 18446744073709551616) (hT:Tab64 w) (h:fx a = 2047 ∨ fx b = 2047) :
  Calls Tryz.prog 48 #[.complex .f64 a b] w (RetNumE w .zero 1):=by
 have HA:=hid (fun W (hb:Below w.heap.size w W)=>split_any a W ha (hT.below hb))
 have HB:=hid (fun W (h:Below w.heap.size w W)=>split_any b W hb (hT.below h))
 obtain ⟨oa,hoa⟩:∃ o,decide (fx a ≠ 2047) = o:=⟨_,rfl⟩
 obtain ⟨ob,hob⟩:∃ o,decide (fx b ≠ 2047) = o:=⟨_,rfl⟩
 have HO:=hid (show oa = false ∨ ob = false by
  rcases h with h | h
  ·left; rw [<- hoa,h]; rfl
  ·right; rw [<- hob,h]; rfl)
 have HOA:=hid hoa
 have HOB:=hid hob
 clear hT ha hb h hoa hob
 go_enter Tryz.func48,Tryz.ntmps48
 go_wp2_with fail
 refine (HA.out _ (below_alloc _ _)).mono ?_
 rintro e w1 ⟨v,z1,n1,rfl,hz1,hb1,-⟩
 obtain ⟨A1,m1,c1,rfl,-⟩:=hz1.parts
 rw [HOA.out]
 generalize decide (z1 < 0) = p1 at *
 have hbx:w1.heap[w.heap.size]? = some (.cells #[.slice none 0 0,.bool false,.slice none 0 0,.bool false,.slice none 0 0] 49 (0,0)):=(hb1.block w.heap.size sP).trans (heap_alloc_new w _)
 have hlt:w.heap.size < w1.heap.size:=lL sP hb1.size
 have B1:=hid (bT (below_alloc w _) hb1)
 clear hb1 hz1
 go_wp2_with fail
 refine (HB.out _ (bT B1.out (below_alloc _ _))).mono ?_
 rintro e w2 ⟨v,z2,n2,rfl,hz2,hb2,-⟩
 obtain ⟨A2,m2,c2,rfl,-⟩:=hz2.parts
 rw [HOB.out]
 generalize decide (z2 < 0) = p2 at *
 have hbx2:=(hb2.block w.heap.size sO).trans ((heap_alloc_old w1 _ hlt).trans hbx)
 have hlt2:w.heap.size < w2.heap.size:=lL hlt (Nat.le_trans sP hb2.size)
 obtain ⟨f0,f1,f2,f3,f4,y0,y1,y2,y3,y4⟩:=bx5 ((heap_alloc_old w2 (.cells #[.slice A2 m2 c2,.bool p2] 47) hlt2).trans hbx2)
 have B2:=hid (bT (bT B1.out (below_alloc _ _)) hb2)
 clear hb2 hz2 hbx hbx2
 go_upto_region 3 with fail
 obtain ⟨W3,hW3⟩:∃ W,W = w2.alloc (.cells #[.slice A2 m2 c2,.bool p2] 47):=⟨_,rfl⟩
 rw [<- hW3] at f0 f1 f2 f3 f4 y0 y1 y2 y3 y4 ⊢
 have NB:=NumBox.nil f0 f1 f2 f3 f4
 have B3:=hid (show Below w.heap.size w W3 by rw [hW3]; exact bT B2.out (below_alloc _ _))
 have HZ:=hid (IsNum.zero W3)
 clear hW3
 cases oa
 ·go_wp2
  refine bodyPost_ret (v:=.tuple #[.agg #[.slice none 0 0,.bool false,.slice none 0 0,.bool false,.slice none 0 0],.int .i64 1]) (by simp [results,Tryz.results48]; exact run_load5e NB _ _ _ _ _ _) rfl ?_
  exact RetNumE.box B3.out lR NB HZ.out _ _ _ _ _
 ·obtain rfl:ob = false:=by rcases HO.out with h | h <;> simp_all
  go_wp2
  refine bodyPost_ret (v:=.tuple #[.agg #[.slice none 0 0,.bool false,.slice none 0 0,.bool false,.slice none 0 0],.int .i64 1]) (by simp [results,Tryz.results48]; exact run_load5e NB _ _ _ _ _ _) rfl ?_
  exact RetNumE.box B3.out lR NB HZ.out _ _ _ _ _
end Go.Proofs.YtjodlmanheeajaaGreatDoor
