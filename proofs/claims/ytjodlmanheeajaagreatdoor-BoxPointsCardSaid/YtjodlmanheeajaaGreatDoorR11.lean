import Derived.Test.YtjodlmanheeajaaGreatDoorR10
import Derived.Test.YtjodlmanheeajaaGreatDoorR02
set_option linter.unusedVariables false
set_option linter.unusedSimpArgs false
set_option maxRecDepth 100000
set_option maxHeartbeats 8000000
namespace Go.Proofs.YtjodlmanheeajaaGreatDoor
open Go.RowKit
def SmRel (w:World) (g0:Nat) (a b:Value) (wr:World):Prop:=∃ x y:Nat,a = .int .u64 x /\ b = .int .u64 y /\ x < 18446744073709551616 /\ y < 18446744073709551616 /\ Nat.gcd x y = g0 /\ Below w.heap.size w wr
theorem gcdSmall_any (v u:Value) (x y:Nat) (w:World) (hv:IsNat w v x) (hu:IsNat w u y) (hy2:wl y <= 2) (hn:wl x < 549755813888) :
  Calls Tryz.prog 239 #[v,u] w (RetNat w (Nat.gcd x y)):=by
 have HV:=hid hv
 have HU:=hid hu
 rcases Nat.eq_zero_or_pos (wl y) with h0 | h0
 ·obtain rfl:=wl_eq_zero.1 h0
  obtain ⟨A,c,rfl,hc,hw⟩:=hu
  rw [wl_zero] at *
  rw [Nat.gcd_zero_right]
  clear hw hv
  go_enter Tryz.func239,Tryz.ntmps239
  go_wp2
  go_ret
  exact ⟨v,rfl,HV.out,Below.refl _ _⟩
 ·have hy0:0 < y:=Nat.pos_of_ne_zero (fun e=>by rw [e,wl_zero] at h0; omega)
  have hyl:=lt_of_wl_two hy2
  have hrl:x % y < 18446744073709551616:=Nat.lt_trans (Nat.mod_lt _ hy0) hyl
  have hsy:=fun W (h:IsNat W u y)=>small_any u y W h
  rw [if_pos hyl,decide_eq_true hyl] at hsy
  have hsr:=fun v W (h:IsNat W v (x % y))=>small_any v (x % y) W h
  rw [if_pos hrl,decide_eq_true hrl] at hsr
  have HD:=hid (div_any v u x y w hv hu hy0 hn oM)
  have HSY:=hid hsy
  have HSR:=hid hsr
  have hg:Nat.gcd y (x % y) = Nat.gcd x y:=gcd_step x y
  have HG:=hid hg
  obtain ⟨A',n',c',rfl,hnn⟩:=hu.ex
  have hl:((n':Int) == 0) = false:=sO
  have HNN:=hid hnn
  clear hsy hsr hv hu hnn hg h0
  generalize x % y = r at *
  generalize Nat.gcd x y = g0 at *
  go_enter Tryz.func239,Tryz.ntmps239
  go_wp2_with fail
  refine HD.out.mono ?_
  rintro e w1 ⟨vq,vr,rfl,hvq,hvr,hb1⟩
  have HVR:=hid hvr
  have HB1:=hid hb1
  clear hvq hvr hb1
  go_wp2_with fail
  refine (HSY.out _ (HU.out.below HB1.out)).mono ?_
  rintro e w2 ⟨rfl,q,rfl⟩
  go_wp2_with fail
  refine (HSR.out _ _ (HVR.out.drewN q)).mono ?_
  rintro e w3 ⟨rfl,q2,rfl⟩
  go_wp2_with fail
  go_loopw [7,9] (fun a b wr=>SmRel w g0 a b wr) (fun _ b _=>(intOf b).toNat)
  case atStart=>exact ⟨y,r,rfl,rfl,hyl,hrl,HG.out,bT HB1.out (below_drewN _ _)⟩
  case round =>
   obtain ⟨a,b,rfl,rfl,ha,hb,hgab,hbw⟩:=hrel
   have HGAB:=hid hgab
   have HBW:=hid hbw
   clear hgab hbw
   rcases Nat.eq_zero_or_pos b with hb0 | hb0
   ·subst hb0
    go_wp2_with fail
    refine (fromUint_any a _ ha).mono ?_
    rintro e w4 ⟨vv,rfl,hvv,hb4⟩
    have HVV:=hid hvv
    have HB4:=hid hb4
    clear hvv hb4
    go_wp2
    go_ret
    exact ⟨vv,rfl,by rw [<- HGAB.out,Nat.gcd_zero_right]; exact HVV.out,bT HBW.out HB4.out⟩
   ·have hbn:((b:Int) == 0) = false:=sO
    have hbn2:((b:Int) != 0) = true:=sO
    obtain ⟨t,ht⟩:∃ t,a % b = t:=⟨_,rfl⟩
    have ht1:(a:Int).tmod (b:Int) = (t:Int):=by rw [Int.tmod_eq_emod_of_nonneg oM,<- ht]; rfl
    have ht2:(a:Int) % (b:Int) = (t:Int):=by rw [<- ht]; rfl
    have htl:t < b:=by rw [<- ht]; exact Nat.mod_lt _ hb0
    have hgt:Nat.gcd b t = g0:=by rw [<- ht,gcd_step]; exact HGAB.out
    have HGT:=hid hgt
    clear ht hgt
    go_wp2
    go_quiet (fail)
    go_wp2
    go_roundw
    case rel=>exact ⟨b,t,by go_num,by go_num,hb,oM,HGT.out,bT HBW.out (below_drewN _ _)⟩
    case measure=>exact mS
theorem one_nat (w:World):IsNat (w.alloc (.cells #[.int .u32 1] 140)) (.slice (some ⟨w.heap.size,0,none⟩) 1 1) 1:=by
 have h:Wn (w.alloc (.cells #[.int .u32 1] 140)) (some ⟨w.heap.size,0,none⟩) 1 (fun _=>1):=fun _=>⟨_,_,rfl,sP,fun j hj=>by
  have:j = 0:=oM
  subst this
  simp⟩
 have:=IsNat.mk (c:=1) h (fun _ _=>show (1:Nat) < 4294967296 by omega) (fun _=>show (1:Nat) ≠ 0 by omega) lR
 rw [vs_one] at this
 exact this
theorem gcdOdd_one (v u:Value) (x y:Nat) (w:World) (hv:IsNat w v x) (hu:IsNat w u y) (h1:x = 1 ∨ y = 1) :
  Calls Tryz.prog 226 #[v,u] w (RetNat w (Nat.gcd x y)):=by
 have HI:=hid (isOne_any v x w hv)
 have HJ:=hid (isOne_any u y w hu)
 have hg:Nat.gcd x y = 1:=by
  rcases h1 with h1 | h1
  ·rw [h1]; exact Nat.gcd_one_left y
  ·rw [h1]; exact Nat.gcd_one_right x
 rw [hg]
 clear hg
 by_cases hx1:x = 1
 ·have hd:decide (x = 1) = true:=by simp [hx1]
  rw [hd] at HI
  clear hd h1 hv hu hx1
  go_enter Tryz.func226,Tryz.ntmps226
  go_wp2_with fail
  refine HI.out.mono ?_
  rintro e w1 ⟨rfl,rfl⟩
  go_wp2
  go_ret
  exact ⟨_,rfl,one_nat w,below_alloc _ _⟩
 ·have hd:decide (x = 1) = false:=by simp [hx1]
  have hd2:decide (y = 1) = true:=sO
  rw [hd] at HI
  rw [hd2] at HJ
  clear hd hd2 h1 hv hu hx1
  go_enter Tryz.func226,Tryz.ntmps226
  go_wp2_with fail
  refine HI.out.mono ?_
  rintro e w1 ⟨rfl,rfl⟩
  go_wp2_with fail
  refine HJ.out.mono ?_
  rintro e w1 ⟨rfl,rfl⟩
  go_wp2
  go_ret
  exact ⟨_,rfl,one_nat w,below_alloc _ _⟩
theorem gcdOdd_ge (v u:Value) (x y:Nat) (w:World) (hv:IsNat w v x) (hu:IsNat w u y) (hx1:x ≠ 1) (hy1:y ≠ 1) (hn:wl x < 549755813888) (hm:wl y < 549755813888) (hlt:y <= x) :
  Calls Tryz.prog 226 #[v,u] w (RetNat w (Nat.gcd x y)):=by
 have HV:=hid hv
 have HU:=hid hu
 have hi:=isOne_any v x w hv
 rw [decide_eq_false hx1] at hi
 have hj:=isOne_any u y w hu
 rw [decide_eq_false hy1] at hj
 have HI:=hid hi
 have HJ:=hid hj
 have hc:=compare_any v u x y w hv hu oM oM
 have hcm:decide (cmpN x y < 0) = false:=by
  unfold cmpN
  rw [if_neg oM]
  split <;> rfl
 have HC:=hid hc
 generalize cmpN x y = cm at *
 have hle:y <= x:=oM
 obtain ⟨A,n,c,rfl,hnn⟩:=HV.out.ex
 have HNN:=hid hnn
 have hgc:Nat.gcd x y = Nat.gcd x y:=by rfl
 by_cases hl2:wl x <= 2
 ·have hs2:wl y <= 2:=Nat.le_trans (wl_mono hle) hl2
  have hnn2:n <= 2:=oM
  have hgs:=fun q=>gcdSmall_any _ _ x y (w.drewN q) (HV.out.drewN q) (HU.out.drewN q) hs2 oM
  rw [hgc] at hgs
  have HGS:=hid hgs
  clear hi hj hc hgc hnn hgs hv hu hlt hx1 hy1 hle
  go_enter Tryz.func226,Tryz.ntmps226
  go_wp2_with fail
  refine HI.out.mono ?_
  rintro e w1 ⟨rfl,rfl⟩
  go_wp2_with fail
  refine HJ.out.mono ?_
  rintro e w1 ⟨rfl,rfl⟩
  go_wp2_with fail
  refine HC.out.mono ?_
  rintro e w1 ⟨rfl,q,rfl⟩
  go_wp2_with fail
  refine (HGS.out q).mono ?_
  rintro e w2 ⟨vv,rfl,hvv,hb⟩
  have HVV:=hid hvv
  have HB:=hid hb
  clear hvv hb
  go_wp2
  go_ret
  exact ⟨vv,rfl,HVV.out,bT (below_drewN w q) HB.out⟩
 ·have hnn2:¬ ((n:Nat):Int) <= 2:=oM
  have hnn3:(2:Int) < (n:Int):=oM
  have hne:=fun q=>newEuclid_any _ _ x y (w.drewN q) (HV.out.drewN q) (HU.out.drewN q) hle oM
  have HNE:=hid hne
  clear hi hj hc hgc hnn hne hv hu hlt hx1 hy1
  go_enter Tryz.func226,Tryz.ntmps226
  go_wp2_with fail
  refine HI.out.mono ?_
  rintro e w1 ⟨rfl,rfl⟩
  go_wp2_with fail
  refine HJ.out.mono ?_
  rintro e w1 ⟨rfl,rfl⟩
  go_wp2_with fail
  refine HC.out.mono ?_
  rintro e w1 ⟨rfl,q,rfl⟩
  go_wp2_with fail
  refine (HNE.out q).mono ?_
  rintro e w2 ⟨p,gx,gy,ga,gb,fx,fy,fa,fb,rfl,hE,hX,hY,hb⟩
  have HE:=hid hE
  have HX:=hid hX
  have HY:=hid hY
  have HB:=hid hb
  clear hE hX hY hb
  go_wp2_with fail
  refine (shorten_any w2 _ p _ (wl x) gx gy ga gb _ _ x y fx fy fa fb HE.out oM HX.out HY.out rfl hle).mono ?_
  rintro e w3 ⟨v1,v2,X,Y,rfl,hv1,hv2,hg,hw2,hYX,hwX,hb3⟩
  have HV1:=hid hv1
  have HV2:=hid hv2
  have HG:=hid hg
  have HB3:=hid (bT (below_drewN w q) (HB.out.trans (hb3.mono lR)))
  clear hv1 hv2 hg hb3
  go_wp2_with fail
  refine (gcdSmall_any _ _ X Y w3 HV1.out HV2.out hw2 hwX).mono ?_
  rintro e w4 ⟨vv,rfl,hvv,hb⟩
  have HVV:=hid hvv
  have HB4:=hid hb
  clear hvv hb
  go_wp2
  go_ret
  exact ⟨vv,rfl,by have h:=HVV.out; rw [HG.out] at h; first | exact h | (rw [Nat.gcd_comm] at h; exact h),bT HB3.out HB4.out⟩
theorem gcdOdd_lt (v u:Value) (x y:Nat) (w:World) (hv:IsNat w v x) (hu:IsNat w u y) (hx1:x ≠ 1) (hy1:y ≠ 1) (hn:wl x < 549755813888) (hm:wl y < 549755813888) (hlt:x < y) :
  Calls Tryz.prog 226 #[v,u] w (RetNat w (Nat.gcd x y)):=by
 have HV:=hid hv
 have HU:=hid hu
 have hi:=isOne_any v x w hv
 rw [decide_eq_false hx1] at hi
 have hj:=isOne_any u y w hu
 rw [decide_eq_false hy1] at hj
 have HI:=hid hi
 have HJ:=hid hj
 have hc:=compare_any v u x y w hv hu oM oM
 have hcm:decide (cmpN x y < 0) = true:=by
  unfold cmpN
  rw [if_pos hlt]; rfl
 have HC:=hid hc
 generalize cmpN x y = cm at *
 have hle:x <= y:=oM
 obtain ⟨A,n,c,rfl,hnn⟩:=HU.out.ex
 have HNN:=hid hnn
 have hgc:Nat.gcd y x = Nat.gcd x y:=by exact Nat.gcd_comm y x
 by_cases hl2:wl y <= 2
 ·have hs2:wl x <= 2:=Nat.le_trans (wl_mono hle) hl2
  have hnn2:n <= 2:=oM
  have hgs:=fun q=>gcdSmall_any _ _ y x (w.drewN q) (HU.out.drewN q) (HV.out.drewN q) hs2 oM
  rw [hgc] at hgs
  have HGS:=hid hgs
  clear hi hj hc hgc hnn hgs hv hu hlt hx1 hy1 hle
  go_enter Tryz.func226,Tryz.ntmps226
  go_wp2_with fail
  refine HI.out.mono ?_
  rintro e w1 ⟨rfl,rfl⟩
  go_wp2_with fail
  refine HJ.out.mono ?_
  rintro e w1 ⟨rfl,rfl⟩
  go_wp2_with fail
  refine HC.out.mono ?_
  rintro e w1 ⟨rfl,q,rfl⟩
  go_wp2_with fail
  refine (HGS.out q).mono ?_
  rintro e w2 ⟨vv,rfl,hvv,hb⟩
  have HVV:=hid hvv
  have HB:=hid hb
  clear hvv hb
  go_wp2
  go_ret
  exact ⟨vv,rfl,HVV.out,bT (below_drewN w q) HB.out⟩
 ·have hnn2:¬ ((n:Nat):Int) <= 2:=oM
  have hnn3:(2:Int) < (n:Int):=oM
  have hne:=fun q=>newEuclid_any _ _ y x (w.drewN q) (HU.out.drewN q) (HV.out.drewN q) hle oM
  have HNE:=hid hne
  clear hi hj hc hgc hnn hne hv hu hlt hx1 hy1
  go_enter Tryz.func226,Tryz.ntmps226
  go_wp2_with fail
  refine HI.out.mono ?_
  rintro e w1 ⟨rfl,rfl⟩
  go_wp2_with fail
  refine HJ.out.mono ?_
  rintro e w1 ⟨rfl,rfl⟩
  go_wp2_with fail
  refine HC.out.mono ?_
  rintro e w1 ⟨rfl,q,rfl⟩
  go_wp2_with fail
  refine (HNE.out q).mono ?_
  rintro e w2 ⟨p,gx,gy,ga,gb,fx,fy,fa,fb,rfl,hE,hX,hY,hb⟩
  have HE:=hid hE
  have HX:=hid hX
  have HY:=hid hY
  have HB:=hid hb
  clear hE hX hY hb
  go_wp2_with fail
  refine (shorten_any w2 _ p _ (wl y) gx gy ga gb _ _ y x fx fy fa fb HE.out oM HX.out HY.out rfl hle).mono ?_
  rintro e w3 ⟨v1,v2,X,Y,rfl,hv1,hv2,hg,hw2,hYX,hwX,hb3⟩
  have HV1:=hid hv1
  have HV2:=hid hv2
  have HG:=hid hg
  have HB3:=hid (bT (below_drewN w q) (HB.out.trans (hb3.mono lR)))
  clear hv1 hv2 hg hb3
  go_wp2_with fail
  refine (gcdSmall_any _ _ X Y w3 HV1.out HV2.out hw2 hwX).mono ?_
  rintro e w4 ⟨vv,rfl,hvv,hb⟩
  have HVV:=hid hvv
  have HB4:=hid hb
  clear hvv hb
  go_wp2
  go_ret
  exact ⟨vv,rfl,by have h:=HVV.out; rw [HG.out] at h; first | exact h | (rw [Nat.gcd_comm] at h; exact h),bT HB3.out HB4.out⟩
theorem gcdOdd_any (v u:Value) (x y:Nat) (w:World) (hv:IsNat w v x) (hu:IsNat w u y) (hn:wl x < 549755813888) (hm:wl y < 549755813888) :
  Calls Tryz.prog 226 #[v,u] w (RetNat w (Nat.gcd x y)):=by
 by_cases h1:x = 1 ∨ y = 1
 ·exact gcdOdd_one v u x y w hv hu h1
 ·rcases Nat.lt_or_ge x y with h | h
  ·exact gcdOdd_lt v u x y w hv hu (fun e=>h1 (.inl e)) (fun e=>h1 (.inr e)) hn hm h
  ·exact gcdOdd_ge v u x y w hv hu (fun e=>h1 (.inl e)) (fun e=>h1 (.inr e)) hn hm h
theorem twos_pos {x t:Nat} (h:Twos x t):0 < x:=by
 obtain ⟨m,hm⟩:=h
 rw [hm]
 exact Nat.mul_pos (Nat.pow_pos oM) oM
theorem odd_part {x t:Nat} (h:Twos x t):∃ m,x / 2 ^ t = 2 * m + 1:=by
 obtain ⟨m,hm⟩:=h
 exact ⟨m,by rw [hm,Nat.mul_div_cancel_left _ (Nat.pow_pos oM)]⟩
theorem gcd_odd_two (a m:Nat):∀ k,Nat.gcd (2 * m + 1) (2 ^ k * a) = Nat.gcd (2 * m + 1) a
 | 0=>sP
 | k + 1=>by
  have hc:Nat.gcd (2 * m + 1) 2 = 1:=by
   rw [Nat.gcd_comm,Nat.gcd_rec,show (2 * m + 1) % 2 = 1 by omega,Nat.gcd_one_left]
  have:Nat.Coprime (2 * m + 1) 2:=hc
  rw [Nat.pow_succ,Nat.mul_comm (2 ^ k) 2,Nat.mul_assoc,Nat.Coprime.gcd_mul_left_cancel_right _ this.symm,gcd_odd_two a m k]
theorem gcd_twos {x y a b:Nat} (hx:Twos x a) (hy:Twos y b):Nat.gcd (x / 2 ^ a) (y / 2 ^ b) * 2 ^ min a b = Nat.gcd x y:=by
 obtain ⟨m,hm⟩:=odd_part hx
 obtain ⟨k,hk⟩:=odd_part hy
 obtain ⟨m',hm'⟩:=hx
 obtain ⟨k',hk'⟩:=hy
 have e1:x = 2 ^ a * (2 * m + 1):=by rw [<- hm,hm',Nat.mul_div_cancel_left _ (Nat.pow_pos oM)]
 have e2:y = 2 ^ b * (2 * k + 1):=by rw [<- hk,hk',Nat.mul_div_cancel_left _ (Nat.pow_pos oM)]
 rw [hm,hk,e1,e2]
 rcases Nat.le_total a b with h | h
 ·obtain ⟨d,rfl⟩:∃ d,b = a + d:=⟨b - a,oM⟩
  rw [Nat.min_eq_left h,Nat.pow_add,Nat.mul_assoc,Nat.gcd_mul_left,gcd_odd_two,Nat.mul_comm]
 ·obtain ⟨d,rfl⟩:∃ d,a = b + d:=⟨a - b,oM⟩
  rw [Nat.min_eq_right h,Nat.pow_add,Nat.mul_assoc,Nat.gcd_mul_left,Nat.gcd_comm (2 ^ d * (2 * m + 1)),gcd_odd_two,Nat.mul_comm,Nat.gcd_comm]
theorem gcd_any (v u:Value) (x y:Nat) (w:World) (hv:IsNat w v x) (hu:IsNat w u y) (hn:wl x < 549755813888) (hm:wl y < 549755813888) (hT:Tab w) :
  Calls Tryz.prog 210 #[v,u] w (RetNat w (Nat.gcd x y)):=by
 have HV:=hid hv
 have HU:=hid hu
 have HT:=hid hT
 have HI:=hid (isOne_any u y w hu)
 have HJ:=hid (isOne_any v x w hv)
 obtain ⟨A,n,c,rfl,hnn⟩:=hv.ex
 obtain ⟨A',n',c',rfl,hnn'⟩:=hu.ex
 by_cases hx0:wl x = 0
 ·have e:=wl_eq_zero.1 hx0
  have hn0:n = 0:=oM
  subst hn0
  have hg:Nat.gcd x y = y:=by rw [e]; exact Nat.gcd_zero_left y
  rw [hg]
  clear hg e hv hu hT hnn hx0 hnn'
  go_enter Tryz.func210,Tryz.ntmps210
  go_wp2
  go_ret
  exact ⟨_,rfl,HU.out,Below.refl _ _⟩
 have hl:((n:Int) == 0) = false:=sO
 by_cases hy1:y = 1
 ·have hd:decide (y = 1) = true:=by simp [hy1]
  rw [hd] at HI
  have hg:Nat.gcd x y = y:=by rw [hy1]; exact Nat.gcd_one_right x
  rw [hg]
  clear hd hg hv hu hT hnn hnn' hy1 hx0
  go_enter Tryz.func210,Tryz.ntmps210
  go_wp2_with fail
  refine HI.out.mono ?_
  rintro e w1 ⟨rfl,rfl⟩
  go_wp2
  go_ret
  exact ⟨_,rfl,HU.out,Below.refl _ _⟩
 have hd:decide (y = 1) = false:=by simp [hy1]
 rw [hd] at HI
 clear hd
 by_cases hy0:wl y = 0
 ·have e:=wl_eq_zero.1 hy0
  have hn0:n' = 0:=oM
  subst hn0
  have hg:Nat.gcd x y = x:=by rw [e]; exact Nat.gcd_zero_right x
  rw [hg]
  clear hg e hv hu hT hnn hnn' hy1 hx0 hy0
  go_enter Tryz.func210,Tryz.ntmps210
  go_wp2_with fail
  refine HI.out.mono ?_
  rintro e w1 ⟨rfl,rfl⟩
  go_wp2
  go_ret
  exact ⟨_,rfl,HV.out,Below.refl _ _⟩
 have hl':((n':Int) == 0) = false:=sO
 by_cases hx1:x = 1
 ·have hd:decide (x = 1) = true:=by simp [hx1]
  rw [hd] at HJ
  have hg:Nat.gcd x y = x:=by rw [hx1]; exact Nat.gcd_one_left y
  rw [hg]
  clear hd hg hv hu hT hnn hnn' hy1 hx0 hy0 hx1
  go_enter Tryz.func210,Tryz.ntmps210
  go_wp2_with fail
  refine HI.out.mono ?_
  rintro e w1 ⟨rfl,rfl⟩
  go_wp2_with fail
  refine HJ.out.mono ?_
  rintro e w1 ⟨rfl,rfl⟩
  go_wp2
  go_ret
  exact ⟨_,rfl,HV.out,Below.refl _ _⟩
 have hd:decide (x = 1) = false:=by simp [hx1]
 rw [hd] at HJ
 clear hd
 have HC:=hid (compare_any _ _ x y w hv hu oM oM)
 by_cases hxy:x = y
 ·have hc:cmpN x y = 0:=by simp [cmpN,hxy]
  rw [hc] at HC
  have hg:Nat.gcd x y = x:=by rw [<- hxy]; exact Nat.gcd_self x
  rw [hg]
  clear hg hv hu hT hnn hnn' hy1 hx0 hy0 hx1 hxy hc
  go_enter Tryz.func210,Tryz.ntmps210
  go_wp2_with fail
  refine HI.out.mono ?_
  rintro e w1 ⟨rfl,rfl⟩
  go_wp2_with fail
  refine HJ.out.mono ?_
  rintro e w1 ⟨rfl,rfl⟩
  go_wp2_with fail
  refine HC.out.mono ?_
  rintro e w1 ⟨rfl,q,rfl⟩
  go_wp2
  go_ret
  exact ⟨_,rfl,HV.out.drewN q,below_drewN w q⟩
 ·have hc:((cmpN x y) == 0) = false:=by
   unfold cmpN
   split
   ·rfl
   ·first | rfl | (rw [if_neg hxy]; rfl)
  generalize cmpN x y = cm at *
  have hxp:x ≠ 0:=fun e=>by rw [e,wl_zero] at hx0; omega
  have hyp:y ≠ 0:=fun e=>by rw [e,wl_zero] at hy0; omega
  have HTX:=hid (fun q=>twos_any _ x (w.drewN q) (HV.out.drewN q) hxp oM (HT.out.drewN q))
  have HTY:=hid (fun q=>twos_any _ y (w.drewN q) (HU.out.drewN q) hyp oM (HT.out.drewN q))
  clear hv hu hT hnn hnn' hy1 hx0 hy0 hx1 hxy
  go_enter Tryz.func210,Tryz.ntmps210
  go_wp2_with fail
  refine HI.out.mono ?_
  rintro e w1 ⟨rfl,rfl⟩
  go_wp2_with fail
  refine HJ.out.mono ?_
  rintro e w1 ⟨rfl,rfl⟩
  go_wp2_with fail
  refine HC.out.mono ?_
  rintro e w1 ⟨rfl,q,rfl⟩
  go_wp2_with fail
  refine (HTX.out q).mono ?_
  rintro e w1 ⟨a,rfl,ha,hal,rfl⟩
  go_wp2_with fail
  refine (HTY.out q).mono ?_
  rintro e w1 ⟨b,rfl,hb,hbl,rfl⟩
  have HGT:=hid (gcd_twos ha hb)
  clear ha hb
  go_wp2_with fail
  refine (down_any _ x a _ (HV.out.drewN q) oM oM).mono ?_
  rintro e w2 ⟨v1,rfl,hv1,hb1⟩
  have HV1:=hid hv1
  have HB1:=hid (bT (below_drewN w q) hb1)
  clear hv1 hb1
  go_wp2_with fail
  refine (down_any _ y b _ (HU.out.below HB1.out) oM oM).mono ?_
  rintro e w3 ⟨v2,rfl,hv2,hb2⟩
  have HV1':=hid (HV1.out.below hb2)
  have HV2:=hid hv2
  have HB2:=hid (bT HB1.out hb2)
  clear hv2 hb2
  have hw1:wl (x / 2 ^ a) <= wl x:=wl_mono (Nat.div_le_self _ _)
  have hw2:wl (y / 2 ^ b) <= wl y:=wl_mono (Nat.div_le_self _ _)
  go_wp2_with fail
  refine (gcdOdd_any _ _ _ _ _ HV1'.out HV2.out oM oM).mono ?_
  rintro e w4 ⟨v3,rfl,hv3,hb3⟩
  have HV3:=hid hv3
  have HB3:=hid (bT HB2.out hb3)
  clear hv3 hb3
  have hw3:wl (Nat.gcd (x / 2 ^ a) (y / 2 ^ b)) <= wl x:=by
   have h1:=HGT.out
   have h2:=Nat.mul_le_mul_left (Nat.gcd (x / 2 ^ a) (y / 2 ^ b)) (show 1 <= 2 ^ min a b from Nat.pow_pos oM)
   have h3:=Nat.gcd_le_left y (Nat.pos_of_ne_zero hxp)
   exact wl_mono oM
  have hmin:min (a:Int) (b:Int) = ((min a b:Nat):Int):=oM
  have hml:min a b < 32 * wl x:=oM
  go_wp2_with fail
  refine (up_any _ _ (min a b) _ HV3.out oM oM).mono ?_
  rintro e w5 ⟨v4,rfl,hv4,hb4⟩
  have HV4:=hid hv4
  have HB4:=hid (bT HB3.out hb4)
  clear hv4 hb4 hmin
  go_wp2
  go_ret
  exact ⟨v4,rfl,by rw [<- HGT.out]; exact HV4.out,HB4.out⟩
end Go.Proofs.YtjodlmanheeajaaGreatDoor
