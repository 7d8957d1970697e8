import Derived.Test.YtjodlmanheeajaaGreatDoorR01
import Derived.Test.YtjodlmanheeajaaGreatDoorR19
import Derived.Test.YtjodlmanheeajaaGreatDoorR21
import Derived.Test.YtjodlmanheeajaaGreatDoorR02
set_option linter.unusedVariables false
set_option linter.unusedSimpArgs false
set_option maxRecDepth 100000
set_option maxHeartbeats 8000000
namespace Go.Proofs.YtjodlmanheeajaaGreatDoor
def ex74:Nat:=1074
theorem ex74_eq:ex74 = 1074:=rfl
def two74:Nat:=2 ^ ex74
theorem two74_pos:0 < two74:=Nat.pow_pos oM
def cf (a b:Nat):Cx:=⟨(fI a:Rat) / (two74:Rat),(fI b:Rat) / (two74:Rat)⟩
theorem gcd_two_odd {k m:Nat} (h:m % 2 = 1):Nat.gcd (2 ^ k) m = 1:=by
 refine Nat.Coprime.pow_left k ?_
 show Nat.gcd 2 m = 1
 rw [Nat.gcd_rec,h,Nat.gcd_one_left]
theorem scale_part {z n low:Int} {f:Int} (h:z * 2 ^ (n + 1074).toNat = f) (h1:-1074 <= n) (h2:low <= n) (h3:low <= 0) :
  (f:Rat) / (two74:Rat) * ((2 ^ (-low).toNat:Nat):Rat) = ((z * 2 ^ (n - low).toNat:Int):Rat):=by
 have hT:(two74:Rat) ≠ 0:=natCast_ne two74_pos
 have hi:=Rat.inv_mul_cancel _ hT
 have e1:(2:Int) ^ (n + 1074).toNat * 2 ^ (-low).toNat = 2 ^ (n - low).toNat * (two74:Int):=by
  unfold two74
  rw [show (((2 ^ ex74:Nat)):Int) = (2:Int) ^ ex74 from by rw [Int.natCast_pow]; rfl,<- Int.pow_add,<- Int.pow_add]
  congr 1
  have:=ex74_eq
  omega
 have e2:f * ((2 ^ (-low).toNat:Nat):Int) = z * 2 ^ (n - low).toNat * (two74:Int):=by
  rw [<- h,show (((2 ^ (-low).toNat:Nat)):Int) = (2:Int) ^ (-low).toNat from by rw [Int.natCast_pow]; rfl,Int.mul_assoc,e1,Int.mul_assoc]
 have e3:=congrArg (fun t:Int=>(t:Rat)) e2
 simp only [Rat.intCast_mul,Rat.intCast_natCast] at e3
 rw [Rat.div_def,Rat.intCast_mul]
 grind
theorem cf_low {x y:Nat} {z1 z2 n1 n2 low:Int} (h1:z1 * 2 ^ (n1 + 1074).toNat = fI x) (h2:z2 * 2 ^ (n2 + 1074).toNat = fI y) (b1:-1074 <= n1) (b2:-1074 <= n2)
  (o1:z1 = 0 /\ n1 = 0 ∨ z1 % 2 ≠ 0) (o2:z2 = 0 /\ n2 = 0 ∨ z2 % 2 ≠ 0) (hl:low = min (min n1 n2) 0) :
  Low (cf x y) (z1 * 2 ^ (n1 - low).toNat) (z2 * 2 ^ (n2 - low).toNat) (2 ^ (-low).toNat):=by
 refine ⟨Nat.pow_pos oM,?_,scale_part h1 b1 oM oM,scale_part h2 b2 oM oM⟩
 rcases Int.lt_or_le low 0 with h0 | h0
 ·rcases (show low = n1 ∨ low = n2 by omega) with h | h
  ·rcases o1 with ⟨-,h3⟩ | h3
   ·omega
   ·have e:(n1 - low).toNat = 0:=oM
    rw [e,gcd_two_odd sO]
    simp
  ·rcases o2 with ⟨-,h3⟩ | h3
   ·omega
   ·have e:(n2 - low).toNat = 0:=oM
    rw [e]
    refine Nat.Coprime.coprime_dvd_left (Nat.gcd_dvd_left _ _) (gcd_two_odd sO)
 ·have e:(-low).toNat = 0:=oM
  rw [e]
  simp
theorem fI_abs (b:Nat):(fI b).natAbs = fmag b * 2 ^ fup b:=by
 unfold fI
 split
 ·rw [Int.natAbs_neg,Int.natAbs_natCast]
 ·rw [Int.natAbs_natCast]
theorem compare_scale (x y:Int) (k:Nat):compare (x * ((2 ^ k:Nat):Int)) (y * ((2 ^ k:Nat):Int)) = compare x y:=by
 have hk:(0:Int) < ((2 ^ k:Nat):Int):=by have:=Nat.pow_pos (a:=2) (n:=k) oM; omega
 generalize ((2 ^ k:Nat):Int) = c at hk
 show compareOfLessAndEq _ _ = compareOfLessAndEq _ _
 unfold compareOfLessAndEq
 have e1:x * c < y * c ↔ x < y:=⟨fun h=>Int.lt_of_mul_lt_mul_right h (Int.le_of_lt hk),fun h=>Int.mul_lt_mul_of_pos_right h hk⟩
 have e2:x * c = y * c ↔ x = y:=⟨fun h=>Int.eq_of_mul_eq_mul_right oM h,fun h=>by rw [h]⟩
 simp only [e1,e2]
theorem signed_up {b k:Nat} (h:k <= fup b):Ieee.signed (fneg b) (fmag b) (fup b - k) * ((2 ^ k:Nat):Int) = fI b:=by
 have e:fmag b * 2 ^ (fup b - k) * 2 ^ k = fmag b * 2 ^ fup b:=by rw [Nat.mul_assoc,<- Nat.pow_add]; congr 2; omega
 unfold Ieee.signed fI
 rw [Nat.shiftLeft_eq,<- e]
 split
 ·rw [Int.neg_mul,<- Int.natCast_mul]
 ·rw [<- Int.natCast_mul]
theorem order_fI {a b:Nat} (ha:a < 18446744073709551616) (hb:b < 18446744073709551616) (xa:fx a ≠ 2047) (xb:fx b ≠ 2047):Ieee.double.order a b = some (compare (fI a) (fI b)):=by
 unfold Ieee.Format.order
 rw [read_fin ha xa,read_fin hb xb]
 unfold Ieee.Datum.order
 simp only
 obtain ⟨k,hk⟩:∃ k,k = min (fup a) (fup b):=⟨_,rfl⟩
 have e0:min ((fup a:Nat) - 1074:Int) ((fup b:Nat) - 1074) = (k:Int) - 1074:=oM
 rw [e0]
 have e1:((fup a:Nat) - 1074 - ((k:Int) - 1074):Int).toNat = fup a - k:=oM
 have e2:((fup b:Nat) - 1074 - ((k:Int) - 1074):Int).toNat = fup b - k:=oM
 rw [e1,e2,<- compare_scale _ _ k,signed_up oM,signed_up oM]
def fz (b:Nat):Nat:=if fmag b = 0 then 0 else b
theorem wl_of_two {x k n:Nat} (h:x < 2 ^ k) (hk:k <= 32 * n):wl x <= n :=
 wl_le_of (by rw [show (4294967296:Nat) = 2 ^ 32 from rfl,<- Nat.pow_mul]; exact lL h (Nat.pow_le_pow_right oM hk))
theorem two74_wl:wl two74 <= 34:=wl_of_two (k:=ex74 + 1) (Nat.pow_lt_pow_right oM (Nat.lt_succ_self _)) (by rw [ex74_eq]; omega)
theorem fI_wl (b:Nat):wl (fI b).natAbs <= 67:=by
 have h:=fmag_lt b
 have hu:fup b <= 2046:=by have:=fx_lt b; unfold fup; omega
 have hk:fmag b * 2 ^ fup b < 2 ^ (53 + fup b):=by
  rw [Nat.pow_add]
  exact Nat.mul_lt_mul_of_pos_right (by simpa using h) (Nat.pow_pos oM)
 rw [fI_abs]
 exact wl_of_two hk oM
theorem div_two74 (z:Int):(z:Rat) / (two74:Rat) * (two74:Rat) = (z:Rat):=by
 have hi:=Rat.inv_mul_cancel _ (natCast_ne two74_pos)
 rw [Rat.div_def,Rat.mul_assoc,hi,Rat.mul_one]
theorem cf_sz (x y:Nat):Sz (cf x y) 67:=Sz.of two74_pos (div_two74 _) (div_two74 _) (fI_wl x) (fI_wl y) (Nat.le_trans two74_wl oM)
end Go.Proofs.YtjodlmanheeajaaGreatDoor
