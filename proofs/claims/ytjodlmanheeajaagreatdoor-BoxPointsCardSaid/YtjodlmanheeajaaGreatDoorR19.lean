import Derived.Laws.BitsAllLaws
import Derived.Laws.LoneSync
import Derived.Test.YtjodlmanheeajaaGreatDoorR03
import Derived.Test.YtjodlmanheeajaaGreatDoorR16
import Derived.Test.YtjodlmanheeajaaGreatDoorR17
import Derived.Test.YtjodlmanheeajaaGreatDoorR02
set_option linter.unusedVariables false
set_option linter.unusedSimpArgs false
set_option maxRecDepth 100000
set_option maxHeartbeats 8000000
namespace Go.Proofs.YtjodlmanheeajaaGreatDoor
open Go.RowKit
theorem frombits_run (w:World) (n:Nat):(callFunc 108 #[.int .u64 (n:Int)]).run Tryz.prog w = .ok (.value (.float .f64 n)) w:=by
 rw [run_callFunc_extern (f:=108) (fn:=Tryz.f108) (e:=Extern.MathFloatBits.float64frombits) kR kR kR kR kR]
 rfl
def flt (m:Nat) (neg:Bool):Nat:=if neg && decide (m ≠ 0) then m ||| 9223372036854775808 else m
theorem toFloat_any (m:Nat) (neg:Bool) (w:World) (hm:m < 18446744073709551616) :
  Calls Tryz.prog 102 #[.int .u64 (m:Int),.bool neg] w fun e w'=>e = .returned (.float .f64 (flt m neg)) /\ w = w':=by
 have hfb:=frombits_run
 cases neg
 ·have hx:flt m false = m:=by simp [flt]
  rw [hx]
  clear hx
  go_enter Tryz.func102,Tryz.ntmps102
  go_wp2
  go_ret
  exact ⟨rfl,rfl⟩
 ·by_cases h0:m = 0
  ·subst h0
   have hfb0:∀ w,(callFunc 108 #[.int .u64 0]).run Tryz.prog w = .ok (.value (.float .f64 0)) w:=fun w=>frombits_run w 0
   have hx:flt 0 true = 0:=by simp [flt]
   rw [hx]
   clear hx
   go_enter Tryz.func102,Tryz.ntmps102
   go_wp2
   go_ret
   exact ⟨rfl,rfl⟩
  ·have hx:flt m true = m ||| 9223372036854775808:=by simp [flt,h0]
   rw [hx]
   clear hx
   have b1:((m:Int) == 0) = false:=sO
   have b2:((m:Int) != 0) = true:=sO
   have hor:bits BinOp.or IntKind.u64 (m:Int) 9223372036854775808 = ((m ||| 9223372036854775808:Nat):Int):=u64_or_nat m 9223372036854775808 hm oM
   generalize m ||| 9223372036854775808 = k at *
   go_enter Tryz.func102,Tryz.ntmps102
   go_wp2
   go_ret
   exact ⟨rfl,rfl⟩
def fmtV (dg lo hi:Int):Value:=.agg #[.int .i64 dg,.int .i64 lo,.int .i64 hi]
theorem double_any (w:World):Calls Tryz.prog 99 #[] w fun e w'=>e = .returned (fmtV 53 (-1074) 971) /\ Below w.heap.size w w':=by
 go_enter Tryz.func99,Tryz.ntmps99
 go_wp2
 refine bodyPost_ret (v:=fmtV 53 (-1074) 971) (by simp [results,Tryz.results99,go_sem,fmtV]) rfl ?_
 exact ⟨rfl,below_alloc _ _⟩
theorem wl_up (p k:Nat):wl (p * 2 ^ k) <= wl p + k / 32 + 1:=by
 have h1:=lt_wl p
 refine wl_le_of ?_
 have e:(4294967296:Nat) ^ (wl p + k / 32 + 1) = 4294967296 ^ wl p * 2 ^ (32 * (k / 32 + 1)):=by
  rw [Nat.add_assoc,Nat.pow_add,Nat.pow_mul]
 rw [e]
 have h2:2 ^ k <= 2 ^ (32 * (k / 32 + 1)):=Nat.pow_le_pow_right oM oM
 have h3:0 < 2 ^ k:=Nat.pow_pos oM
 exact lL (Nat.mul_lt_mul_of_pos_right h1 h3) (Nat.mul_le_mul_left _ h2)
def scP (p:Nat) (s:Int):Nat:=p * 2 ^ s.toNat
def scQ (q:Nat) (s:Int):Nat:=q * 2 ^ (-s).toNat
def RetScaled (w:World) (P Q:Nat) (e:Ending) (w':World):Prop:=e = .returned (.tuple #[.int .u64 (if P / Q < 18446744073709551616 then ((P / Q:Nat):Int) else 0),.bool (decide (P % Q ≠ 0))]) /\ Below w.heap.size w w'
theorem RetScaled.of {w W:World} {P Q n:Nat} {z:Int} (hd:decide (P % Q ≠ 0) = decide (0 < n)) (hz:z = if P / Q < 18446744073709551616 then ((P / Q:Nat):Int) else 0) (hb:Below w.heap.size w W) :
  RetScaled w P Q (.returned (.tuple #[.int .u64 z,.bool (decide (0 < n))])) W:=by
 unfold RetScaled
 rw [hd,<- hz]
 exact ⟨rfl,hb⟩
theorem scaled_up (v u:Value) (p q k:Nat) (w:World) (hv:IsNat w v p) (hu:IsNat w u q) (hq:0 < q) (hp:wl p + k / 32 + 1 < 549755813888) (hqs:wl q < 549755813888) (hk:k < 1125899906842624) :
  Calls Tryz.prog 150 #[v,u,.int .i64 (k:Int)] w (RetScaled w (p * 2 ^ k) q):=by
 have HU:=hid (up_any v p k w hv oM hk)
 have hsz:=wl_up p k
 have HD:=hid (fun W t (hb:Below w.heap.size w W) (ht:IsNat W t (p * 2 ^ k))=>div_any t u _ q W ht (hu.below hb) hq oM hqs)
 obtain ⟨A1,n1,c1,rfl,-⟩:=hv.ex
 obtain ⟨A2,n2,c2,rfl,-⟩:=hu.ex
 have hk0:(0:Int) <= (k:Int):=oM
 clear hv hu hq hp hqs hk hsz
 generalize p * 2 ^ k = P at *
 go_enter Tryz.func150,Tryz.ntmps150
 go_wp2_with fail
 refine HU.out.mono ?_
 rintro e W7 ⟨r,rfl,hr7,hb7⟩
 obtain ⟨A7,n7,c7,rfl,-⟩:=hr7.ex
 go_wp2_with fail
 refine (HD.out _ _ hb7 hr7).mono ?_
 rintro e W8 ⟨r8,r9,rfl,hr8,hr9,hb8⟩
 obtain ⟨A8,n8,c8,rfl,-⟩:=hr8.ex
 obtain ⟨A9,n9,c9,rfl,hn9⟩:=hr9.ex
 have hd:decide (P % q ≠ 0) = decide (0 < n9):=by
  have:=wl_eq_zero (x:=P % q)
  rw [Bool.eq_iff_iff]; simp; omega
 have HDd:=hid hd
 obtain ⟨z,hz⟩:∃ z:Int,z = if P / q < 18446744073709551616 then ((P / q:Nat):Int) else 0:=⟨_,rfl⟩
 have hs:=small_any _ _ W8 hr8
 rw [<- hz] at hs
 have HS:=hid hs
 have HZ:=hid hz
 clear hd hn9 hz hs
 go_wp2_with fail
 refine HS.out.mono ?_
 rintro e W9 ⟨rfl,q9,rfl⟩
 go_wp2
 go_ret2
 exact RetScaled.of HDd.out HZ.out (bT (bT hb7 hb8) (below_drewN _ _))
theorem scaled_down (v u:Value) (p q k:Nat) (s:Int) (hs:s = -(k:Int)) (w:World) (hv:IsNat w v p) (hu:IsNat w u q) (hq:0 < q) (hp:wl p < 549755813888) (hqs:wl q + k / 32 + 1 < 549755813888) (hk:k < 1125899906842624) (hk0:0 < k) :
  Calls Tryz.prog 150 #[v,u,.int .i64 s] w (RetScaled w p (q * 2 ^ k)):=by
 have HU:=hid (up_any u q k w hu oM hk)
 have hsz:=wl_up q k
 have HD:=hid (fun W t (hb:Below w.heap.size w W) (ht:IsNat W t (q * 2 ^ k))=>div_any v t p _ W (hv.below hb) ht (Nat.mul_pos hq (Nat.pow_pos oM)) hp oM)
 obtain ⟨A1,n1,c1,rfl,-⟩:=hv.ex
 obtain ⟨A2,n2,c2,rfl,-⟩:=hu.ex
 have hk1:s < 0:=oM
 have hk2:-1125899906842624 < s:=oM
 have hk3:(k:Int) = -s:=oM
 rw [hk3] at HU
 clear hv hu hq hp hqs hk hsz hk0 hk3 hs
 generalize q * 2 ^ k = Q at *
 go_enter Tryz.func150,Tryz.ntmps150
 go_wp2_with fail
 refine HU.out.mono ?_
 rintro e W7 ⟨r,rfl,hr7,hb7⟩
 obtain ⟨A7,n7,c7,rfl,-⟩:=hr7.ex
 go_wp2_with fail
 refine (HD.out _ _ hb7 hr7).mono ?_
 rintro e W8 ⟨r8,r9,rfl,hr8,hr9,hb8⟩
 obtain ⟨A8,n8,c8,rfl,-⟩:=hr8.ex
 obtain ⟨A9,n9,c9,rfl,hn9⟩:=hr9.ex
 have hd:decide (p % Q ≠ 0) = decide (0 < n9):=by
  have:=wl_eq_zero (x:=p % Q)
  rw [Bool.eq_iff_iff]; simp; omega
 have HDd:=hid hd
 obtain ⟨z,hz⟩:∃ z:Int,z = if p / Q < 18446744073709551616 then ((p / Q:Nat):Int) else 0:=⟨_,rfl⟩
 have hs:=small_any _ _ W8 hr8
 rw [<- hz] at hs
 have HS:=hid hs
 have HZ:=hid hz
 clear hd hn9 hz hs
 go_wp2_with fail
 refine HS.out.mono ?_
 rintro e W9 ⟨rfl,q9,rfl⟩
 go_wp2
 go_ret2
 exact RetScaled.of HDd.out HZ.out (bT (bT hb7 hb8) (below_drewN _ _))
def rUp (kept rest half:Nat) (inx:Bool) (way:Int):Bool :=
 if way = 1 then decide (0 < rest) || inx else if way = 2 then decide (half < rest) || (decide (rest = half) && (inx || decide (kept % 2 = 1))) else false
theorem roundsUp_0 (kept rest half:Nat) (inx:Bool) (w:World) :
  Calls Tryz.prog 153 #[.int .u64 (kept:Int),.int .u64 (rest:Int),.int .u64 (half:Int),.bool inx,.int .i64 0] w fun e w'=>e = .returned (.bool (rUp kept rest half inx 0)) /\ w = w':=by
 have HV:=hid (show rUp kept rest half inx 0 = false by simp [rUp])
 go_enter Tryz.func153,Tryz.ntmps153
 go_wp2
 go_ret
 exact ⟨by rw [HV.out]; rfl,rfl⟩
theorem roundsUp_1y (kept rest half:Nat) (inx:Bool) (w:World) (h:0 < rest) :
  Calls Tryz.prog 153 #[.int .u64 (kept:Int),.int .u64 (rest:Int),.int .u64 (half:Int),.bool inx,.int .i64 1] w fun e w'=>e = .returned (.bool (rUp kept rest half inx 1)) /\ w = w':=by
 have HV:=hid (show rUp kept rest half inx 1 = true by simp [rUp,h])
 have b1:decide ((0:Int) < (rest:Int)) = true:=sO
 have b2:(0:Int) < (rest:Int):=oM
 clear h
 go_enter Tryz.func153,Tryz.ntmps153
 go_wp2
 go_ret
 exact ⟨by rw [HV.out]; rfl,rfl⟩
theorem roundsUp_1n (kept rest half:Nat) (inx:Bool) (w:World) (h:¬ 0 < rest) :
  Calls Tryz.prog 153 #[.int .u64 (kept:Int),.int .u64 (rest:Int),.int .u64 (half:Int),.bool inx,.int .i64 1] w fun e w'=>e = .returned (.bool (rUp kept rest half inx 1)) /\ w = w':=by
 have HV:=hid (show rUp kept rest half inx 1 = inx by simp [rUp,h])
 obtain rfl:rest = 0:=oM
 clear h
 go_enter Tryz.func153,Tryz.ntmps153
 go_wp2
 go_ret
 exact ⟨by rw [HV.out]; rfl,rfl⟩
theorem roundsUp_2g (kept rest half:Nat) (inx:Bool) (w:World) (h:half < rest) :
  Calls Tryz.prog 153 #[.int .u64 (kept:Int),.int .u64 (rest:Int),.int .u64 (half:Int),.bool inx,.int .i64 2] w fun e w'=>e = .returned (.bool (rUp kept rest half inx 2)) /\ w = w':=by
 have HV:=hid (show rUp kept rest half inx 2 = true by simp [rUp,h])
 have d1:decide ((half:Int) < (rest:Int)) = true:=sO
 have d2:decide (half < rest) = true:=sO
 have d3:((rest:Int) == (half:Int)) = false:=sO
 have d4:(rest == half) = false:=sO
 clear h
 go_enter Tryz.func153,Tryz.ntmps153
 go_wp2
 go_ret
 exact ⟨by rw [HV.out]; rfl,rfl⟩
theorem roundsUp_2l (kept rest half:Nat) (inx:Bool) (w:World) (h:rest < half) :
  Calls Tryz.prog 153 #[.int .u64 (kept:Int),.int .u64 (rest:Int),.int .u64 (half:Int),.bool inx,.int .i64 2] w fun e w'=>e = .returned (.bool (rUp kept rest half inx 2)) /\ w = w':=by
 have HV:=hid (show rUp kept rest half inx 2 = false by simp [rUp]; omega)
 have d1:decide ((half:Int) < (rest:Int)) = false:=sO
 have d2:decide (half < rest) = false:=sO
 have d3:((rest:Int) == (half:Int)) = false:=sO
 have d4:(rest == half) = false:=sO
 clear h
 go_enter Tryz.func153,Tryz.ntmps153
 go_wp2
 go_ret
 exact ⟨by rw [HV.out]; rfl,rfl⟩
theorem roundsUp_2e (kept half:Nat) (inx:Bool) (w:World) (hk:kept < 18446744073709551616) :
  Calls Tryz.prog 153 #[.int .u64 (kept:Int),.int .u64 (half:Int),.int .u64 (half:Int),.bool inx,.int .i64 2] w fun e w'=>e = .returned (.bool (rUp kept half half inx 2)) /\ w = w':=by
 have HV:=hid (show rUp kept half half inx 2 = (inx || decide (kept % 2 = 1)) by simp [rUp])
 have hb:bits BinOp.and IntKind.u64 (kept:Int) 1 = ((kept % 2:Nat):Int):=by
  have:=u64_and_nat kept 1 hk oM
  rw [Nat.and_one_is_mod] at this
  exact this
 have d1:decide ((half:Int) < (half:Int)) = false:=sP
 have d2:decide (half < half) = false:=sP
 have hr:kept % 2 = 0 ∨ kept % 2 = 1:=oM
 generalize kept % 2 = r at *
 cases inx
 ·rcases hr with rfl | rfl
  ·go_enter Tryz.func153,Tryz.ntmps153
   go_wp2
   go_ret
   exact ⟨by rw [HV.out]; rfl,rfl⟩
  ·go_enter Tryz.func153,Tryz.ntmps153
   go_wp2
   go_ret
   exact ⟨by rw [HV.out]; rfl,rfl⟩
 ·clear hr
  go_enter Tryz.func153,Tryz.ntmps153
  go_wp2
  go_ret
  exact ⟨by rw [HV.out]; rfl,rfl⟩
theorem roundsUp_any (kept rest half:Nat) (inx:Bool) (way:Int) (w:World) (hk:kept < 18446744073709551616) (hw:way = 0 ∨ way = 1 ∨ way = 2) :
  Calls Tryz.prog 153 #[.int .u64 (kept:Int),.int .u64 (rest:Int),.int .u64 (half:Int),.bool inx,.int .i64 way] w fun e w'=>e = .returned (.bool (rUp kept rest half inx way)) /\ w = w':=by
 rcases hw with rfl | rfl | rfl
 ·exact roundsUp_0 _ _ _ _ _
 ·by_cases h:0 < rest
  ·exact roundsUp_1y _ _ _ _ _ h
  ·exact roundsUp_1n _ _ _ _ _ h
 ·rcases Nat.lt_trichotomy rest half with h | h | h
  ·exact roundsUp_2l _ _ _ _ _ h
  ·subst h; exact roundsUp_2e _ _ _ _ hk
  ·exact roundsUp_2g _ _ _ _ _ h
end Go.Proofs.YtjodlmanheeajaaGreatDoor
namespace Go.Proofs.YtjodlmanheeajaaGreatDoor
def rdS (dg:Nat) (p q:Nat):Int:=(dg:Int) + 2 - ((bl p:Int) - (bl q:Int))
def rdM (dg p q:Nat):Nat:=scP p (rdS dg p q) / scQ q (rdS dg p q)
def rdX (dg p q:Nat):Bool:=decide (scP p (rdS dg p q) % scQ q (rdS dg p q) ≠ 0)
def rdU (dg:Nat) (lo:Int) (p q:Nat):Int:=max ((bl (rdM dg p q):Int) - rdS dg p q - (dg:Int)) lo
def rdD (dg:Nat) (lo:Int) (p q:Nat):Nat:=(min (rdU dg lo p q + rdS dg p q) 63).toNat
def rdB (dg:Nat) (lo:Int) (p q:Nat) (way:Int):Nat :=
 (rdU dg lo p q - lo).toNat * 2 ^ (dg - 1) + rdM dg p q / 2 ^ rdD dg lo p q +
  (if rUp (rdM dg p q / 2 ^ rdD dg lo p q) (rdM dg p q % 2 ^ rdD dg lo p q) (2 ^ (rdD dg lo p q - 1)) (rdX dg p q) way then 1 else 0)
theorem bl_pow {x:Nat} (h:0 < x):0 < bl x /\ 2 ^ (bl x - 1) <= x /\ x < 2 ^ bl x:=by
 have hx:x ≠ 0:=oM
 have hb:bl x = (bl x - 1) + 1:=by unfold bl; rw [if_neg hx]; omega
 have:=(bl_spec (n:=bl x - 1) hx).1 hb
 refine ⟨oM,this.1,?_⟩
 rw [hb]; exact this.2
theorem rdM_bounds {dg p q:Nat} (hp:0 < p) (hq:0 < q):2 ^ (dg + 1) <= rdM dg p q /\ rdM dg p q < 2 ^ (dg + 3) /\ 0 < scQ q (rdS dg p q):=by
 obtain ⟨p0,p1,p2⟩:=bl_pow hp
 obtain ⟨q0,q1,q2⟩:=bl_pow hq
 have hs:rdS dg p q = (dg:Int) + 2 - ((bl p:Int) - (bl q:Int)):=rfl
 unfold rdM
 generalize rdS dg p q = s at *
 generalize bl p = a at *
 generalize bl q = b at *
 have hQ:0 < scQ q s:=Nat.mul_pos hq (Nat.pow_pos oM)
 rw [Nat.le_div_iff_mul_le hQ,Nat.div_lt_iff_lt_mul hQ]
 rcases Int.lt_or_le s 0 with h | h
 ·obtain ⟨t,ht⟩:∃ t:Nat,s = -(t:Int):=⟨s.natAbs,oM⟩
  have e1:s.toNat = 0:=oM
  have e2:(-s).toNat = t:=oM
  unfold scP scQ
  rw [e1,e2,Nat.pow_zero,Nat.mul_one]
  have hab:a = b + dg + 2 + t:=oM
  subst hab
  refine ⟨?_,?_,Nat.mul_pos hq (Nat.pow_pos oM)⟩
  ·refine Nat.le_trans ?_ p1
   have e:2 ^ (b + dg + 2 + t - 1) = 2 ^ (dg + 1) * (2 ^ b * 2 ^ t):=by
    rw [<- Nat.pow_add,<- Nat.pow_add]; congr 1; omega
   rw [e]
   exact Nat.mul_le_mul_left _ (Nat.mul_le_mul_right _ (Nat.le_of_lt q2))
  ·refine lL p2 ?_
   have e:2 ^ (b + dg + 2 + t) = 2 ^ (dg + 3) * (2 ^ (b - 1) * 2 ^ t):=by
    rw [<- Nat.pow_add,<- Nat.pow_add]; congr 1; omega
   rw [e]
   exact Nat.mul_le_mul_left _ (Nat.mul_le_mul_right _ q1)
 ·obtain ⟨t,ht⟩:∃ t:Nat,s = (t:Int):=⟨s.toNat,oM⟩
  have e1:s.toNat = t:=oM
  have e2:(-s).toNat = 0:=oM
  unfold scP scQ
  rw [e1,e2,Nat.pow_zero,Nat.mul_one]
  have hab:a + t = b + dg + 2:=oM
  refine ⟨?_,?_,hq⟩
  ·have e:2 ^ (a - 1) * 2 ^ t = 2 ^ (dg + 1) * 2 ^ b:=by
    rw [<- Nat.pow_add,<- Nat.pow_add]; congr 1; omega
   have h1:2 ^ (dg + 1) * q <= 2 ^ (dg + 1) * 2 ^ b:=Nat.mul_le_mul_left _ (Nat.le_of_lt q2)
   rw [<- e] at h1
   exact Nat.le_trans h1 (Nat.mul_le_mul_right _ p1)
  ·have e:2 ^ a * 2 ^ t = 2 ^ (dg + 3) * 2 ^ (b - 1):=by
    rw [<- Nat.pow_add,<- Nat.pow_add]; congr 1; omega
   have h1:p * 2 ^ t < 2 ^ a * 2 ^ t:=Nat.mul_lt_mul_of_pos_right p2 (Nat.pow_pos oM)
   rw [e] at h1
   exact lL h1 (Nat.mul_le_mul_left _ q1)
theorem bl_between {x n m:Nat} (h1:2 ^ n <= x) (h2:x < 2 ^ m):n + 1 <= bl x /\ bl x <= m:=by
 have h0:0 < x:=lL (Nat.pow_pos oM) h1
 obtain ⟨p0,p1,p2⟩:=bl_pow h0
 constructor
 ·rcases Nat.lt_or_ge n (bl x) with h | h
  ·exact h
  ·have:=Nat.pow_le_pow_right (n:=2) oM h
   omega
 ·rcases Nat.lt_or_ge m (bl x) with h | h
  ·have:=Nat.pow_le_pow_right (n:=2) oM (show m <= bl x - 1 by omega)
   omega
  ·exact h
theorem rd_facts {dg p q:Nat} {lo:Int} (hp:0 < p) (hq:0 < q) :
  dg + 2 <= bl (rdM dg p q) /\ bl (rdM dg p q) <= dg + 3 /\ 2 <= rdU dg lo p q + rdS dg p q /\ lo <= rdU dg lo p q /\ 2 <= rdD dg lo p q /\ rdD dg lo p q <= 63:=by
 obtain ⟨h1,h2,-⟩:=rdM_bounds (dg:=dg) hp hq
 obtain ⟨h3,h4⟩:=bl_between h1 h2
 have h5:2 <= rdU dg lo p q + rdS dg p q:=by unfold rdU; omega
 refine ⟨h3,h4,h5,by unfold rdU; omega,?_,?_⟩ <;> unfold rdD <;> omega
end Go.Proofs.YtjodlmanheeajaaGreatDoor
namespace Go.Proofs.YtjodlmanheeajaaGreatDoor
open Go.RowKit
theorem scaled_any (v u:Value) (p q:Nat) (s:Int) (w:World) (hv:IsNat w v p) (hu:IsNat w u q) (hq:0 < q) (hp:wl p < 268435456) (hqs:wl q < 268435456) (h1:-17179869184 < s) (h2:s < 17179869184) :
  Calls Tryz.prog 150 #[v,u,.int .i64 s] w (RetScaled w (scP p s) (scQ q s)):=by
 rcases Int.lt_or_le s 0 with h | h
 ·obtain ⟨t,ht⟩:∃ t:Nat,s = -(t:Int):=⟨s.natAbs,oM⟩
  have e1:s.toNat = 0:=oM
  have e2:(-s).toNat = t:=oM
  have:=scaled_down v u p q t s ht w hv hu hq oM oM oM oM
  unfold scP scQ
  rw [e1,e2,Nat.pow_zero,Nat.mul_one]
  exact this
 ·obtain ⟨t,ht⟩:∃ t:Nat,s = (t:Int):=⟨s.toNat,oM⟩
  subst ht
  have:=scaled_up v u p q t w hv hu hq oM oM oM
  unfold scP scQ
  rw [Int.toNat_natCast,show (-(t:Int)).toNat = 0 by omega,Nat.pow_zero,Nat.mul_one]
  exact this
theorem bl_wl (x:Nat):bl x <= 32 * wl x:=by
 refine bl_le ?_
 rw [Nat.pow_mul]
 exact lt_wl x
theorem pow_int (D:Nat):(2:Int) ^ D = ((2 ^ D:Nat):Int):=by rw [Int.natCast_pow]; rfl
theorem pow_63 {D:Nat} (h:D <= 63):0 < 2 ^ D /\ 2 ^ D <= 9223372036854775808:=by
 refine ⟨Nat.pow_pos oM,?_⟩
 have:=Nat.pow_le_pow_right (n:=2) oM h
 have e:(2:Nat) ^ 63 = 9223372036854775808:=dK
 omega
theorem wrap_pow (D:Nat) (h:D <= 63):IntKind.u64.wrap ((2 ^ D:Nat):Int) = ((2 ^ D:Nat):Int):=by
 have:=pow_63 h
 generalize 2 ^ D = x at *
 simp [IntKind.wrap,IntKind.bits,IntKind.signed]; omega
theorem wrap_pow1 (D:Nat) (h:D <= 63):IntKind.u64.wrap (((2 ^ D:Nat):Int) - 1) = ((2 ^ D - 1:Nat):Int):=by
 have:=pow_63 h
 generalize 2 ^ D = x at *
 simp [IntKind.wrap,IntKind.bits,IntKind.signed]; omega
theorem and_low (M D:Nat) (h:M < 18446744073709551616) (hD:D <= 63):bits BinOp.and IntKind.u64 (M:Int) ((2 ^ D - 1:Nat):Int) = ((M % 2 ^ D:Nat):Int):=by
 have:=pow_63 hD
 rw [u64_and_nat M _ h oM,Nat.and_two_pow_sub_one_eq_mod]
theorem div_int (M x:Nat):(M:Int) / ((x:Nat):Int) = ((M / x:Nat):Int):=by rw [Int.natCast_ediv]
theorem div_pow_lt (M D:Nat) (h:M < 18446744073709551616) (hD:2 <= D):M / 2 ^ D < 4611686018427387904:=by
 rw [Nat.div_lt_iff_lt_mul (Nat.pow_pos oM)]
 have:=Nat.pow_le_pow_right (n:=2) oM hD
 omega
theorem ret_int {k:IntKind} {a b:Int} (h:a = b):Ending.returned (.int k a) = Ending.returned (.int k b):=by rw [h]
theorem final_bits (z:Int) (t e k:Nat) (hz:z = (t:Int)) (ht:t <= 2045) (he:e <= 52) (hk:k <= 4611686018427387904) :
  IntKind.u64.wrap (IntKind.u64.wrap (z * 2 ^ e) + (k:Int)) = ((t * 2 ^ e + k:Nat):Int):=by
 subst hz
 have h1:2 ^ e <= 4503599627370496:=by
  have:=Nat.pow_le_pow_right (n:=2) oM he
  have e:(2:Nat) ^ 52 = 4503599627370496:=dK
  omega
 have h2:t * 2 ^ e <= 2045 * 4503599627370496:=Nat.mul_le_mul ht h1
 rw [pow_int,<- Int.natCast_mul]
 generalize t * 2 ^ e = x at *
 simp [IntKind.wrap,IntKind.bits,IntKind.signed]
 omega
theorem rdB_eq (dg:Nat) (lo:Int) (p q:Nat) (way:Int):rdB dg lo p q way = (rdU dg lo p q - lo).toNat * 2 ^ (dg - 1) + rdM dg p q / 2 ^ rdD dg lo p q +
  (if rUp (rdM dg p q / 2 ^ rdD dg lo p q) (rdM dg p q % 2 ^ rdD dg lo p q) (2 ^ (rdD dg lo p q - 1)) (rdX dg p q) way then 1 else 0):=rfl
def Fm (dg:Nat) (lo hi:Int):Prop:=24 <= dg /\ dg <= 53 /\ -1074 <= lo /\ lo <= -149 /\ 104 <= hi /\ hi <= 971
theorem round_zero (v u:Value) (q:Nat) (dg:Nat) (lo hi way:Int) (w:World) (hv:IsNat w v 0) (hu:IsNat w u q) :
  Calls Tryz.prog 100 #[fmtV dg lo hi,v,u,.int .i64 way] w fun e w'=>e = .returned (.int .u64 0) /\ Below w.heap.size w w':=by
 obtain ⟨A1,n1,c1,rfl,hn1⟩:=hv.ex
 obtain ⟨A2,n2,c2,rfl,-⟩:=hu.ex
 rw [wl_zero] at hn1
 subst hn1
 clear hv hu
 unfold fmtV
 go_enter Tryz.func100,Tryz.ntmps100
 go_wp2
 go_ret
 exact ⟨rfl,below_alloc _ _⟩
theorem round_in (v u:Value) (p q:Nat) (dg:Nat) (lo hi way:Int) (w:World) (hf:Fm dg lo hi) (hv:IsNat w v p) (hu:IsNat w u q) (hp0:0 < p) (hq:0 < q) (hp:wl p < 268435456) (hqs:wl q < 268435456) (hw:way = 0 ∨ way = 1 ∨ way = 2)
  (hU:rdU dg lo p q <= hi) :
  Calls Tryz.prog 100 #[fmtV dg lo hi,v,u,.int .i64 way] w fun e w'=>e = .returned (.int .u64 ((rdB dg lo p q way:Nat):Int)) /\ Below w.heap.size w w':=by
 obtain ⟨f1,f2,f3,f4,f5,f6⟩:=hf
 have lp:=bl_wl p
 have lq:=bl_wl q
 obtain ⟨m1,m2,mQ⟩:=rdM_bounds (dg:=dg) hp0 hq
 obtain ⟨b1,b2,b3,b4,b5,b6⟩:=rd_facts (dg:=dg) (lo:=lo) hp0 hq
 have hs:rdS dg p q = (dg:Int) + 2 - ((bl p:Int) - (bl q:Int)):=rfl
 have hu':rdU dg lo p q = max ((bl (rdM dg p q):Int) - rdS dg p q - (dg:Int)) lo:=rfl
 have hd':rdD dg lo p q = (min (rdU dg lo p q + rdS dg p q) 63).toNat:=rfl
 have m3:rdM dg p q < 18446744073709551616:=lL m2 (by
  have:=Nat.pow_le_pow_right (n:=2) oM (show dg + 3 <= 56 by omega)
  have e:(2:Nat) ^ 56 = 72057594037927936:=dK
  omega)
 have HL1:=hid (fun W (hb:Below w.heap.size w W)=>(length_any v p W (hv.below hb) oM).mono (R':=fun e w'=>e = .returned (.int .i64 ((bl p:Nat):Int)) /\ Below W.heap.size W w') fun e w' ⟨h,k,hk⟩=>⟨h,by rw [hk]; exact below_drewN _ _⟩)
 have HL2:=hid (fun W (hb:Below w.heap.size w W)=>(length_any u q W (hu.below hb) oM).mono (R':=fun e w'=>e = .returned (.int .i64 ((bl q:Nat):Int)) /\ Below W.heap.size W w') fun e w' ⟨h,k,hk⟩=>⟨h,by rw [hk]; exact below_drewN _ _⟩)
 have HSc:=hid (fun W (hb:Below w.heap.size w W)=>(scaled_any v u p q (rdS dg p q) W (hv.below hb) (hu.below hb) hq hp hqs oM oM).mono (R':=fun e w'=>e = .returned (.tuple #[.int .u64 ((rdM dg p q:Nat):Int),.bool (rdX dg p q)]) /\ Below W.heap.size W w') fun e w' ⟨h,hb⟩=>⟨by rw [h]; unfold rdX rdM at *; rw [if_pos m3],hb⟩)
 have HLe:=hid (fun W=>len64_any (rdM dg p q) W m3)
 have HRB:=hid (rdB_eq dg lo p q way)
 obtain ⟨A1,n1,c1,rfl,hn1⟩:=hv.ex
 obtain ⟨A2,n2,c2,rfl,-⟩:=hu.ex
 have hn0:((n1:Int) == 0) = false:=by
  have:=wl_eq_zero (x:=p)
  simp; omega
 have w1:IntKind.i64.wrap ((dg:Int) + 2) = (dg:Int) + 2:=by simp [IntKind.wrap,IntKind.bits,IntKind.signed]; omega
 have w2:IntKind.i64.wrap ((bl p:Int) - (bl q:Int)) = (bl p:Int) - (bl q:Int):=by simp [IntKind.wrap,IntKind.bits,IntKind.signed]; omega
 have w3:IntKind.i64.wrap ((dg:Int) + 2 - ((bl p:Int) - (bl q:Int))) = rdS dg p q:=by rw [hs]; simp [IntKind.wrap,IntKind.bits,IntKind.signed]; omega
 have w4:IntKind.i64.wrap ((bl (rdM dg p q):Int) - rdS dg p q) = (bl (rdM dg p q):Int) - rdS dg p q:=by simp [IntKind.wrap,IntKind.bits,IntKind.signed]; omega
 have w5:IntKind.i64.wrap ((bl (rdM dg p q):Int) - rdS dg p q - (dg:Int)) = (bl (rdM dg p q):Int) - rdS dg p q - (dg:Int):=by simp [IntKind.wrap,IntKind.bits,IntKind.signed]; omega
 have HK:=hid (show -17179869184 < rdS dg p q /\ rdS dg p q < 17179869184 by omega)
 unfold fmtV
 have HU:=hid hu'
 have HD:=hid hd'
 have HUh:=hid hU
 have HB:=hid (And.intro b3 (And.intro b4 (And.intro b5 b6)))
 clear hs hu' hd' hU b1 b2 b3 b4 b5 b6 m1 m2 mQ hn1 lp lq hp hqs hv hu hp0 hq
 have HDi:=hid (show min (rdU dg lo p q + rdS dg p q) 63 = ((rdD dg lo p q:Nat):Int) by have:=HB.out; have:=HD.out; omega)
 have hU1:=HB.out.2.1
 have hU2:=HUh.out
 have hD1:=HB.out.2.2.1
 have hD2:=HB.out.2.2.2
 have hU3:=HB.out.1
 generalize rdD dg lo p q = D at *
 generalize rdU dg lo p q = U at *
 generalize rdX dg p q = X at *
 generalize rdM dg p q = M at *
 generalize rdS dg p q = s at *
 generalize bl p = P at *
 generalize bl q = Q at *
 generalize bl M = L at *
 go_enter Tryz.func100,Tryz.ntmps100
 go_upto_region 3 with fail
 go_region_held3 (fun w'=>w'.cell? ⟨w.heap.size,0,none⟩ = some (.int .i64 (dg:Int))) (go_keep) (first | (go_at_call 149; (first | ((with_reducible refine (HL1.out _ ?_).mono ?_); (exact bel); (rintro e W7 ⟨rfl,hb7⟩; obtain ⟨hc7,hf7,hz7⟩:=bcells hb7 (w.heap.size + 1) sP)) | ((with_reducible refine (HL2.out _ ?_).mono ?_); (exact bel); (rintro e W8 ⟨rfl,hb8⟩; have kb8:Below W7.heap.size W7 W8:=bel; clear hb8; obtain ⟨hc8,hf8,hz8⟩:=bcells kb8 (w.heap.size + 1) oM)))))
 go_wp2_with fail
 have B7:Below w.heap.size w W7:=bel
 have B8:=bT B7 kb8
 refine (HSc.out _ B8).mono ?_
 rintro e W9 ⟨rfl,hb9⟩
 obtain ⟨hc9,hf9,hz9⟩:=bcells hb9 (w.heap.size + 1) oM
 have B9:=bT B8 hb9
 have g0:W9.cell? ⟨w.heap.size,0,none⟩ = some (.int .i64 (dg:Int)):=(hc9 _ _ oM).trans ((hc8 _ _ oM).trans ((hc7 _ _ oM).trans sG))
 have g1:W9.cell? ⟨w.heap.size,1,none⟩ = some (.int .i64 lo):=(hc9 _ _ oM).trans ((hc8 _ _ oM).trans ((hc7 _ _ oM).trans sG))
 have g2:W9.cell? ⟨w.heap.size,2,none⟩ = some (.int .i64 hi):=(hc9 _ _ oM).trans ((hc8 _ _ oM).trans ((hc7 _ _ oM).trans sG))
 clear hc7 hc8 hc9 hf7 hf8 hf9
 go_upto_region 5 with fail
 go_region_held3 (fun w'=>w'.cell? ⟨w.heap.size,0,none⟩ = some (.int .i64 (dg:Int)) /\ w'.cell? ⟨w.heap.size,1,none⟩ = some (.int .i64 lo)) (go_keep) (first | (go_at_call 151; (refine (HLe.out _).mono ?_); (rintro e W10 ⟨rfl,rfl⟩)))
 go_upto_region 6 with fail
 rw [<- HU.out]
 have k1:=HK.out
 have w6:IntKind.i64.wrap (U + s) = U + s:=by simp [IntKind.wrap,IntKind.bits,IntKind.signed]; omega
 clear w1 w2 w3 w4 w5
 go_upto_region 9 with fail
 rw [HDi.out]
 have d1:(0:Int) <= (D:Int):=oM
 have d2:(D:Int) <= 63:=oM
 have d3:¬ ((D:Int) < 0):=oM
 clear w6
 go_quiet (fail)
 go_upto_region 10 with fail
 rw [pow_int D,wrap_pow D oM,wrap_pow1 D oM,and_low M D m3 oM,div_int M (2 ^ D)]
 have hK:M / 2 ^ D < 4611686018427387904:=div_pow_lt M D m3 hD1
 generalize M / 2 ^ D = K at *
 generalize M % 2 ^ D = R at *
 go_wp2_with fail
 rw [pow_int (D - 1),wrap_pow (D - 1) oM]
 refine (roundsUp_any K R (2 ^ (D - 1)) X way _ oM hw).mono ?_
 rintro e W10 ⟨rfl,rfl⟩
 generalize rUp K R (2 ^ (D - 1)) X way = c at *
 have hK0:(0:Int) <= (K:Int):=oM
 have w7:IntKind.u64.wrap ((K:Int) + 1) = (K:Int) + 1:=by simp [IntKind.wrap,IntKind.bits,IntKind.signed]; omega
 have w8:IntKind.i64.wrap (U - lo) = U - lo:=by simp [IntKind.wrap,IntKind.bits,IntKind.signed]; omega
 have w9:IntKind.u64.wrap (U - lo) = U - lo:=by simp [IntKind.wrap,IntKind.bits,IntKind.signed]; omega
 have w10:IntKind.i64.wrap ((dg:Int) - 1) = (dg:Int) - 1:=by simp [IntKind.wrap,IntKind.bits,IntKind.signed]; omega
 have f7:(0:Int) <= (dg:Int) - 1:=oM
 have f8:¬ ((dg:Int) - 1 < 0):=oM
 have HT:=hid (show (U - lo = ((U - lo).toNat:Int)) /\ (U - lo).toNat <= 2045 by omega)
 have B10:Below w.heap.size w (W9.drewN (1 + nq)):=bel
 cases c
 ·go_wp2
  go_ret
  exact ⟨ret_int ((final_bits (U - lo) _ (dg - 1) K HT.out.1 HT.out.2 oM oM).trans (by rw [HRB.out]; simp)),B10⟩
 ·go_wp2
  go_ret
  exact ⟨ret_int ((final_bits (U - lo) _ (dg - 1) (K + 1) HT.out.1 HT.out.2 oM oM).trans (by rw [HRB.out]; simp [Nat.add_assoc])),B10⟩
def infB (dg:Nat) (lo hi:Int):Nat:=(hi - lo + 2).toNat * 2 ^ (dg - 1)
def ovB (dg:Nat) (lo hi way:Int):Nat:=if way = 0 then infB dg lo hi - 1 else infB dg lo hi
theorem infB_pos {dg:Nat} {lo hi:Int} (hf:Fm dg lo hi):0 < infB dg lo hi /\ infB dg lo hi < 18446744073709551616:=by
 obtain ⟨f1,f2,f3,f4,f5,f6⟩:=hf
 unfold infB
 have h1:2 ^ (dg - 1) <= 4503599627370496:=by
  have:=Nat.pow_le_pow_right (n:=2) oM (show dg - 1 <= 52 by omega)
  have e:(2:Nat) ^ 52 = 4503599627370496:=dK
  omega
 have h2:(hi - lo + 2).toNat * 2 ^ (dg - 1) <= 2047 * 4503599627370496:=Nat.mul_le_mul oM h1
 refine ⟨Nat.mul_pos oM (Nat.pow_pos oM),oM⟩
theorem overflow_any (dg:Nat) (lo hi way:Int) (w:World) (hf:Fm dg lo hi) (hw:way = 0 ∨ way = 1 ∨ way = 2) :
  Calls Tryz.prog 152 #[fmtV dg lo hi,.int .i64 way] w fun e w'=>e = .returned (.int .u64 ((ovB dg lo hi way:Nat):Int)) /\ Below w.heap.size w w':=by
 have hinf:=infB_pos hf
 obtain ⟨f1,f2,f3,f4,f5,f6⟩:=hf
 have w1:IntKind.i64.wrap (hi - lo) = hi - lo:=by simp [IntKind.wrap,IntKind.bits,IntKind.signed]; omega
 have w2:IntKind.i64.wrap (hi - lo + 2) = hi - lo + 2:=by simp [IntKind.wrap,IntKind.bits,IntKind.signed]; omega
 have w3:IntKind.u64.wrap (hi - lo + 2) = hi - lo + 2:=by simp [IntKind.wrap,IntKind.bits,IntKind.signed]; omega
 have w4:IntKind.i64.wrap ((dg:Int) - 1) = (dg:Int) - 1:=by simp [IntKind.wrap,IntKind.bits,IntKind.signed]; omega
 have f7:(0:Int) <= (dg:Int) - 1:=oM
 have f8:¬ ((dg:Int) - 1 < 0):=oM
 have w5:IntKind.u64.wrap ((hi - lo + 2) * 2 ^ (dg - 1)) = ((infB dg lo hi:Nat):Int):=by
  have e:(hi - lo + 2) * 2 ^ (dg - 1) = ((infB dg lo hi:Nat):Int):=by
   unfold infB
   rw [Int.natCast_mul,pow_int]
   congr 1
   omega
  rw [e]
  generalize infB dg lo hi = x at *
  simp [IntKind.wrap,IntKind.bits,IntKind.signed]; omega
 have w6:IntKind.u64.wrap (((infB dg lo hi:Nat):Int) - 1) = ((infB dg lo hi - 1:Nat):Int):=by
  generalize infB dg lo hi = x at *
  simp [IntKind.wrap,IntKind.bits,IntKind.signed]; omega
 have HO:=hid (show ovB dg lo hi way = if way = 0 then infB dg lo hi - 1 else infB dg lo hi from rfl)
 clear hinf
 unfold fmtV
 generalize infB dg lo hi - 1 = I1 at *
 generalize infB dg lo hi = I0 at *
 rcases hw with rfl | rfl | rfl
 ·go_enter Tryz.func152,Tryz.ntmps152
  go_wp2
  go_ret
  exact ⟨ret_int (by rw [HO.out]; simp),bel⟩
 ·go_enter Tryz.func152,Tryz.ntmps152
  go_wp2
  go_ret
  exact ⟨ret_int (by rw [HO.out]; simp),bel⟩
 ·go_enter Tryz.func152,Tryz.ntmps152
  go_wp2
  go_ret
  exact ⟨ret_int (by rw [HO.out]; simp),bel⟩
theorem round_out (v u:Value) (p q:Nat) (dg:Nat) (lo hi way:Int) (w:World) (hf:Fm dg lo hi) (hv:IsNat w v p) (hu:IsNat w u q) (hp0:0 < p) (hq:0 < q) (hp:wl p < 268435456) (hqs:wl q < 268435456) (hw:way = 0 ∨ way = 1 ∨ way = 2)
  (hU:hi < rdU dg lo p q) :
  Calls Tryz.prog 100 #[fmtV dg lo hi,v,u,.int .i64 way] w fun e w'=>e = .returned (.int .u64 ((ovB dg lo hi way:Nat):Int)) /\ Below w.heap.size w w':=by
 have HOv:=hid (fun W=>overflow_any dg lo hi way W hf hw)
 obtain ⟨f1,f2,f3,f4,f5,f6⟩:=hf
 have lp:=bl_wl p
 have lq:=bl_wl q
 obtain ⟨m1,m2,mQ⟩:=rdM_bounds (dg:=dg) hp0 hq
 obtain ⟨b1,b2,b3,b4,b5,b6⟩:=rd_facts (dg:=dg) (lo:=lo) hp0 hq
 have hs:rdS dg p q = (dg:Int) + 2 - ((bl p:Int) - (bl q:Int)):=rfl
 have hu':rdU dg lo p q = max ((bl (rdM dg p q):Int) - rdS dg p q - (dg:Int)) lo:=rfl
 have hd':rdD dg lo p q = (min (rdU dg lo p q + rdS dg p q) 63).toNat:=rfl
 have m3:rdM dg p q < 18446744073709551616:=lL m2 (by
  have:=Nat.pow_le_pow_right (n:=2) oM (show dg + 3 <= 56 by omega)
  have e:(2:Nat) ^ 56 = 72057594037927936:=dK
  omega)
 have HL1:=hid (fun W (hb:Below w.heap.size w W)=>(length_any v p W (hv.below hb) oM).mono (R':=fun e w'=>e = .returned (.int .i64 ((bl p:Nat):Int)) /\ Below W.heap.size W w') fun e w' ⟨h,k,hk⟩=>⟨h,by rw [hk]; exact below_drewN _ _⟩)
 have HL2:=hid (fun W (hb:Below w.heap.size w W)=>(length_any u q W (hu.below hb) oM).mono (R':=fun e w'=>e = .returned (.int .i64 ((bl q:Nat):Int)) /\ Below W.heap.size W w') fun e w' ⟨h,k,hk⟩=>⟨h,by rw [hk]; exact below_drewN _ _⟩)
 have HSc:=hid (fun W (hb:Below w.heap.size w W)=>(scaled_any v u p q (rdS dg p q) W (hv.below hb) (hu.below hb) hq hp hqs oM oM).mono (R':=fun e w'=>e = .returned (.tuple #[.int .u64 ((rdM dg p q:Nat):Int),.bool (rdX dg p q)]) /\ Below W.heap.size W w') fun e w' ⟨h,hb⟩=>⟨by rw [h]; unfold rdX rdM at *; rw [if_pos m3],hb⟩)
 have HLe:=hid (fun W=>len64_any (rdM dg p q) W m3)
 obtain ⟨A1,n1,c1,rfl,hn1⟩:=hv.ex
 obtain ⟨A2,n2,c2,rfl,-⟩:=hu.ex
 have hn0:((n1:Int) == 0) = false:=by
  have:=wl_eq_zero (x:=p)
  simp; omega
 have w1:IntKind.i64.wrap ((dg:Int) + 2) = (dg:Int) + 2:=by simp [IntKind.wrap,IntKind.bits,IntKind.signed]; omega
 have w2:IntKind.i64.wrap ((bl p:Int) - (bl q:Int)) = (bl p:Int) - (bl q:Int):=by simp [IntKind.wrap,IntKind.bits,IntKind.signed]; omega
 have w3:IntKind.i64.wrap ((dg:Int) + 2 - ((bl p:Int) - (bl q:Int))) = rdS dg p q:=by rw [hs]; simp [IntKind.wrap,IntKind.bits,IntKind.signed]; omega
 have w4:IntKind.i64.wrap ((bl (rdM dg p q):Int) - rdS dg p q) = (bl (rdM dg p q):Int) - rdS dg p q:=by simp [IntKind.wrap,IntKind.bits,IntKind.signed]; omega
 have w5:IntKind.i64.wrap ((bl (rdM dg p q):Int) - rdS dg p q - (dg:Int)) = (bl (rdM dg p q):Int) - rdS dg p q - (dg:Int):=by simp [IntKind.wrap,IntKind.bits,IntKind.signed]; omega
 have HK:=hid (show -17179869184 < rdS dg p q /\ rdS dg p q < 17179869184 by omega)
 unfold fmtV at HOv ⊢
 have HU:=hid hu'
 have HD:=hid hd'
 have HUh:=hid hU
 have HB:=hid (And.intro b3 (And.intro b4 (And.intro b5 b6)))
 clear hs hu' hd' hU b1 b2 b3 b4 b5 b6 m1 m2 mQ hn1 lp lq hp hqs hv hu hp0 hq
 have HDi:=hid (show min (rdU dg lo p q + rdS dg p q) 63 = ((rdD dg lo p q:Nat):Int) by have:=HB.out; have:=HD.out; omega)
 have hU1:=HB.out.2.1
 have hU2:=HUh.out
 have hD1:=HB.out.2.2.1
 have hD2:=HB.out.2.2.2
 have hU3:=HB.out.1
 generalize rdD dg lo p q = D at *
 generalize rdU dg lo p q = U at *
 generalize rdX dg p q = X at *
 generalize rdM dg p q = M at *
 generalize rdS dg p q = s at *
 generalize bl p = P at *
 generalize bl q = Q at *
 generalize bl M = L at *
 go_enter Tryz.func100,Tryz.ntmps100
 go_upto_region 3 with fail
 go_region_held3 (fun w'=>w'.cell? ⟨w.heap.size,0,none⟩ = some (.int .i64 (dg:Int))) (go_keep) (first | (go_at_call 149; (first | ((with_reducible refine (HL1.out _ ?_).mono ?_); (exact bel); (rintro e W7 ⟨rfl,hb7⟩; obtain ⟨hc7,hf7,hz7⟩:=bcells hb7 (w.heap.size + 1) sP)) | ((with_reducible refine (HL2.out _ ?_).mono ?_); (exact bel); (rintro e W8 ⟨rfl,hb8⟩; have kb8:Below W7.heap.size W7 W8:=bel; clear hb8; obtain ⟨hc8,hf8,hz8⟩:=bcells kb8 (w.heap.size + 1) oM)))))
 go_wp2_with fail
 have B7:Below w.heap.size w W7:=bel
 have B8:=bT B7 kb8
 refine (HSc.out _ B8).mono ?_
 rintro e W9 ⟨rfl,hb9⟩
 obtain ⟨hc9,hf9,hz9⟩:=bcells hb9 (w.heap.size + 1) oM
 have B9:=bT B8 hb9
 have g0:W9.cell? ⟨w.heap.size,0,none⟩ = some (.int .i64 (dg:Int)):=(hc9 _ _ oM).trans ((hc8 _ _ oM).trans ((hc7 _ _ oM).trans sG))
 have g1:W9.cell? ⟨w.heap.size,1,none⟩ = some (.int .i64 lo):=(hc9 _ _ oM).trans ((hc8 _ _ oM).trans ((hc7 _ _ oM).trans sG))
 have g2:W9.cell? ⟨w.heap.size,2,none⟩ = some (.int .i64 hi):=(hc9 _ _ oM).trans ((hc8 _ _ oM).trans ((hc7 _ _ oM).trans sG))
 clear hc7 hc8 hc9 hf7 hf8 hf9
 go_upto_region 5 with fail
 go_region_held3 (fun w'=>w'.cell? ⟨w.heap.size,0,none⟩ = some (.int .i64 (dg:Int)) /\ w'.cell? ⟨w.heap.size,1,none⟩ = some (.int .i64 lo)) (go_keep) (first | (go_at_call 151; (refine (HLe.out _).mono ?_); (rintro e W10 ⟨rfl,rfl⟩)))
 go_upto_region 6 with fail
 rw [<- HU.out]
 go_wp2_with fail
 refine (HOv.out _).mono ?_
 rintro e W10 ⟨rfl,hb10⟩
 go_wp2
 go_ret
 exact ⟨rfl,(by (repeat (first | exact Below.refl _ _ | assumption | exact B9 | with_reducible refine Below.drew ?_ | with_reducible refine bT ?_ (below_alloc _ _) | with_reducible refine bT ?_ (below_drewN _ _) | with_reducible refine Below.setCell ?_ (by simp <;> omega) _ | refine bT ?_ (by assumption))))⟩
def rdF (dg:Nat) (lo hi:Int) (p q:Nat) (way:Int):Nat:=if p = 0 then 0 else if hi < rdU dg lo p q then ovB dg lo hi way else rdB dg lo p q way
theorem round_any (v u:Value) (p q:Nat) (dg:Nat) (lo hi way:Int) (w:World) (hf:Fm dg lo hi) (hv:IsNat w v p) (hu:IsNat w u q) (hq:0 < q) (hp:wl p < 268435456) (hqs:wl q < 268435456) (hw:way = 0 ∨ way = 1 ∨ way = 2) :
  Calls Tryz.prog 100 #[fmtV dg lo hi,v,u,.int .i64 way] w fun e w'=>e = .returned (.int .u64 ((rdF dg lo hi p q way:Nat):Int)) /\ Below w.heap.size w w':=by
 unfold rdF
 by_cases h0:p = 0
 ·subst h0
  rw [if_pos rfl]
  exact round_zero v u q dg lo hi way w hv hu
 ·rw [if_neg h0]
  by_cases hU:hi < rdU dg lo p q
  ·rw [if_pos hU]
   exact round_out v u p q dg lo hi way w hf hv hu oM hq hp hqs hw hU
  ·rw [if_neg hU]
   exact round_in v u p q dg lo hi way w hf hv hu oM hq hp hqs hw oM
theorem ovB_lt {dg:Nat} {lo hi:Int} (hf:Fm dg lo hi) (way:Int):ovB dg lo hi way < 18446744073709551616:=by
 have:=infB_pos hf
 unfold ovB
 split <;> omega
theorem Fm.double:Fm 53 (-1074) 971:=by unfold Fm; omega
theorem rdB_lt {dg:Nat} {lo hi:Int} {p q:Nat} (hf:Fm dg lo hi) (hp:0 < p) (hq:0 < q) (hU:rdU dg lo p q <= hi) (way:Int):rdB dg lo p q way < 18446744073709551616:=by
 obtain ⟨f1,f2,f3,f4,f5,f6⟩:=hf
 obtain ⟨m1,m2,mQ⟩:=rdM_bounds (dg:=dg) hp hq
 obtain ⟨b1,b2,b3,b4,b5,b6⟩:=rd_facts (dg:=dg) (lo:=lo) hp hq
 have m3:rdM dg p q < 18446744073709551616:=lL m2 (by
  have:=Nat.pow_le_pow_right (n:=2) oM (show dg + 3 <= 56 by omega)
  have e:(2:Nat) ^ 56 = 72057594037927936:=dK
  omega)
 have hK:=div_pow_lt (rdM dg p q) (rdD dg lo p q) m3 b5
 have h1:2 ^ (dg - 1) <= 4503599627370496:=by
  have:=Nat.pow_le_pow_right (n:=2) oM (show dg - 1 <= 52 by omega)
  have e:(2:Nat) ^ 52 = 4503599627370496:=dK
  omega
 have h2:(rdU dg lo p q - lo).toNat * 2 ^ (dg - 1) <= 2045 * 4503599627370496:=Nat.mul_le_mul oM h1
 rw [rdB_eq]
 split <;> omega
theorem rdF_lt {dg:Nat} {lo hi:Int} {p q:Nat} (hf:Fm dg lo hi) (hq:0 < q) (way:Int):rdF dg lo hi p q way < 18446744073709551616:=by
 unfold rdF
 split
 ·omega
 ·split
  ·exact ovB_lt hf way
  ·exact rdB_lt hf oM hq oM way
end Go.Proofs.YtjodlmanheeajaaGreatDoor
