import Derived.Test.YtjodlmanheeajaaGreatDoorR22
import Derived.Test.YtjodlmanheeajaaGreatDoorR36
import Derived.Test.YtjodlmanheeajaaGreatDoorR02
set_option linter.unusedVariables false
set_option linter.unusedSimpArgs false
set_option maxRecDepth 100000
set_option maxHeartbeats 8000000
namespace Go.Proofs.YtjodlmanheeajaaGreatDoor
def exBig:Nat:=2100
theorem exBig_eq:exBig = 2100:=rfl
def bigI:Int:=((2 ^ exBig:Nat):Int)
def rk64 (b:Nat):Int:=if fx b = 2047 then (if fneg b then -bigI else bigI) else fI b
theorem read_bad {b:Nat} (hb:b < 18446744073709551616) (h:fx b = 2047):Ieee.double.read b = .infinity (fneg b) ∨ ∃ s f,Ieee.double.read b = .nan s f:=by
 have e1:Ieee.double.signWeight = 9223372036854775808:=dE
 have e2:Ieee.double.binade = 4503599627370496:=dE
 have e3:Ieee.double.infRung = 9218868437227405312:=dK
 have hn:(b / 9223372036854775808 % 2 == 1) = fneg b:=by
  unfold fneg
  rw [Bool.eq_iff_iff]
  simp
  omega
 unfold fx at h
 unfold Ieee.Format.read
 simp only [e1,e2,e3,hn]
 rw [if_neg oM,if_neg oM]
 split
 ·exact .inl rfl
 ·exact .inr ⟨_,_,rfl⟩
theorem read_inf {b:Nat} (hb:b < 18446744073709551616) (h:fx b = 2047) (hn:nanb b = false):Ieee.double.read b = .infinity (fneg b):=by
 rcases read_bad hb h with h1 | ⟨s,f,h1⟩
 ·exact h1
 ·exfalso
  unfold nanb at hn
  have:FloatKind.f64.format.order b b = none:=by
   show Ieee.double.order b b = none
   unfold Ieee.Format.order
   rw [h1]
   rfl
  rw [this] at hn
  exact absurd hn dE
theorem fI_big (b:Nat):-bigI < fI b /\ fI b < bigI:=by
 have h:=fmag_lt b
 have hu:fup b <= 2046:=by have:=fx_lt b; unfold fup; omega
 have hk:fmag b * 2 ^ fup b < 2 ^ exBig:=by
  refine Nat.lt_of_lt_of_le (m:=2 ^ (53 + fup b)) ?_ (Nat.pow_le_pow_right oM (by rw [exBig_eq]; omega))
  rw [Nat.pow_add]
  exact Nat.mul_lt_mul_of_pos_right (by simpa using h) (Nat.pow_pos oM)
 have ha:=fI_abs b
 unfold bigI
 generalize fmag b * 2 ^ fup b = m at *
 generalize 2 ^ exBig = M at *
 omega
theorem big_pos:0 < bigI:=by
 unfold bigI
 have:=Nat.pow_pos (a:=2) (n:=exBig) oM
 omega
theorem cmp_lt {x y:Int} (h:x < y):compare x y = Ordering.lt:=Int.compare_eq_lt.2 h
theorem cmp_gt {x y:Int} (h:y < x):compare x y = Ordering.gt:=Int.compare_eq_gt.2 h
theorem cmp_eq (x:Int):compare x x = Ordering.eq:=by show compareOfLessAndEq _ _ = _; simp [compareOfLessAndEq]
theorem order_rank {a b:Nat} (ha:a < 18446744073709551616) (hb:b < 18446744073709551616) (na:nanb a = false) (nb:nanb b = false):FloatKind.f64.format.order a b = some (compare (rk64 a) (rk64 b)):=by
 show Ieee.double.order a b = _
 have hB:=big_pos
 have hfa:=fI_big a
 have hfb:=fI_big b
 unfold rk64
 by_cases xa:fx a = 2047
 ·by_cases xb:fx b = 2047
  ·unfold Ieee.Format.order
   rw [read_inf ha xa na,read_inf hb xb nb,if_pos xa,if_pos xb]
   cases fneg a <;> cases fneg b <;> simp only [Bool.false_eq_true,if_true,if_false] <;> unfold Ieee.Datum.order <;> simp only
   ·rw [cmp_eq]; rfl
   ·rw [cmp_gt oM]; rfl
   ·rw [cmp_lt oM]; rfl
   ·rw [cmp_eq]; rfl
  ·unfold Ieee.Format.order
   rw [read_inf ha xa na,read_fin hb xb,if_pos xa,if_neg xb]
   cases fneg a <;> simp only [Bool.false_eq_true,if_true,if_false] <;> unfold Ieee.Datum.order <;> simp only [Bool.false_eq_true,if_true,if_false]
   ·rw [cmp_gt oM]
   ·rw [cmp_lt oM]
 ·by_cases xb:fx b = 2047
  ·unfold Ieee.Format.order
   rw [read_fin ha xa,read_inf hb xb nb,if_neg xa,if_pos xb]
   cases fneg b <;> simp only [Bool.false_eq_true,if_true,if_false] <;> unfold Ieee.Datum.order <;> simp only [Bool.false_eq_true,if_true,if_false]
   ·rw [cmp_lt oM]
   ·rw [cmp_gt oM]
  ·rw [order_fI ha hb xa xb,if_neg xa,if_neg xb]
end Go.Proofs.YtjodlmanheeajaaGreatDoor
namespace Go.Proofs.YtjodlmanheeajaaGreatDoor
open Go.RowKit
structure FB (b:Nat):Prop where
 lt:b < 18446744073709551616
 nn:nanb b = false
def ltb (a b:Nat):Bool:=FloatKind.f64.format.order a b == some Ordering.lt
def leb (a b:Nat):Bool:=FloatKind.f64.format.order a b == some Ordering.lt || FloatKind.f64.format.order a b == some Ordering.eq
def geb (a b:Nat):Bool:=FloatKind.f64.format.order a b == some Ordering.gt || FloatKind.f64.format.order a b == some Ordering.eq
def eqb (a b:Nat):Bool:=FloatKind.f64.format.order a b == some Ordering.eq
theorem FB.ord {a b:Nat} (ha:FB a) (hb:FB b):FloatKind.f64.format.order a b = some (compare (rk64 a) (rk64 b)):=order_rank ha.lt hb.lt ha.nn hb.nn
theorem cmp_cases (x y:Int):compare x y = Ordering.lt /\ x < y ∨ compare x y = Ordering.eq /\ x = y ∨ compare x y = Ordering.gt /\ y < x:=by
 rcases Int.lt_trichotomy x y with h | h | h
 ·exact .inl ⟨cmp_lt h,h⟩
 ·exact .inr (.inl ⟨h ▸ cmp_eq x,h⟩)
 ·exact .inr (.inr ⟨cmp_gt h,h⟩)
theorem FB.ltb {a b:Nat} (ha:FB a) (hb:FB b):ltb a b = decide (rk64 a < rk64 b):=by
 unfold Go.Proofs.YtjodlmanheeajaaGreatDoor.ltb
 rw [ha.ord hb]
 rcases cmp_cases (rk64 a) (rk64 b) with ⟨h,h'⟩ | ⟨h,h'⟩ | ⟨h,h'⟩ <;> rw [h]
 ·rw [decide_eq_true h']; rfl
 ·rw [decide_eq_false oM]; rfl
 ·rw [decide_eq_false oM]; rfl
theorem FB.gtb {a b:Nat} (ha:FB a) (hb:FB b):gtb a b = decide (rk64 b < rk64 a):=by
 unfold Go.Proofs.YtjodlmanheeajaaGreatDoor.gtb
 rw [ha.ord hb]
 rcases cmp_cases (rk64 a) (rk64 b) with ⟨h,h'⟩ | ⟨h,h'⟩ | ⟨h,h'⟩ <;> rw [h]
 ·rw [decide_eq_false oM]; rfl
 ·rw [decide_eq_false oM]; rfl
 ·rw [decide_eq_true h']; rfl
theorem FB.leb {a b:Nat} (ha:FB a) (hb:FB b):leb a b = decide (rk64 a <= rk64 b):=by
 unfold Go.Proofs.YtjodlmanheeajaaGreatDoor.leb
 rw [ha.ord hb]
 rcases cmp_cases (rk64 a) (rk64 b) with ⟨h,h'⟩ | ⟨h,h'⟩ | ⟨h,h'⟩ <;> rw [h]
 ·rw [decide_eq_true oM]; rfl
 ·rw [decide_eq_true oM]; rfl
 ·rw [decide_eq_false oM]; rfl
theorem FB.geb {a b:Nat} (ha:FB a) (hb:FB b):geb a b = decide (rk64 b <= rk64 a):=by
 unfold Go.Proofs.YtjodlmanheeajaaGreatDoor.geb
 rw [ha.ord hb]
 rcases cmp_cases (rk64 a) (rk64 b) with ⟨h,h'⟩ | ⟨h,h'⟩ | ⟨h,h'⟩ <;> rw [h]
 ·rw [decide_eq_false oM]; rfl
 ·rw [decide_eq_true oM]; rfl
 ·rw [decide_eq_true oM]; rfl
theorem FB.eqb {a b:Nat} (ha:FB a) (hb:FB b):eqb a b = decide (rk64 a = rk64 b):=by
 unfold Go.Proofs.YtjodlmanheeajaaGreatDoor.eqb
 rw [ha.ord hb]
 rcases cmp_cases (rk64 a) (rk64 b) with ⟨h,h'⟩ | ⟨h,h'⟩ | ⟨h,h'⟩ <;> rw [h]
 ·rw [decide_eq_false oM]; rfl
 ·rw [decide_eq_true h']; rfl
 ·rw [decide_eq_false oM]; rfl
def fmn (a b:Nat):Nat:=match FloatKind.f64.format.order a b with | some .lt=>a | some .gt=>b | _=>if (FloatKind.f64.decode a).neg then a else b
def fmx (a b:Nat):Nat:=match FloatKind.f64.format.order a b with | some .gt=>a | some .lt=>b | _=>if (FloatKind.f64.decode a).neg then b else a
theorem fmn_run {a b:Nat} {ts:Array TypeId} {t:TypeId} (ha:FB a) (hb:FB b) (W:World):(Builtin.min_ ts t #[.float .f64 a,.float .f64 b]).run Tryz.prog W = .ok (.float .f64 (fmn a b)) W:=by
 have h:=ha.ord hb
 unfold fmn
 rcases cmp_cases (rk64 a) (rk64 b) with ⟨h',-⟩ | ⟨h',-⟩ | ⟨h',-⟩ <;> rw [h'] at h <;> simp [Builtin.min_,Builtin.min2,h]
theorem fmx_run {a b:Nat} {ts:Array TypeId} {t:TypeId} (ha:FB a) (hb:FB b) (W:World):(Builtin.max_ ts t #[.float .f64 a,.float .f64 b]).run Tryz.prog W = .ok (.float .f64 (fmx a b)) W:=by
 have h:=ha.ord hb
 unfold fmx
 rcases cmp_cases (rk64 a) (rk64 b) with ⟨h',-⟩ | ⟨h',-⟩ | ⟨h',-⟩ <;> rw [h'] at h <;> simp [Builtin.max_,Builtin.max2,h]
theorem fmn_ok {a b:Nat} (ha:FB a) (hb:FB b):FB (fmn a b) /\ rk64 (fmn a b) = min (rk64 a) (rk64 b):=by
 have h:=ha.ord hb
 unfold fmn
 rcases cmp_cases (rk64 a) (rk64 b) with ⟨h',h2⟩ | ⟨h',h2⟩ | ⟨h',h2⟩ <;> rw [h'] at h <;> rw [h] <;> simp only
 ·exact ⟨ha,oM⟩
 ·split
  ·exact ⟨ha,oM⟩
  ·exact ⟨hb,oM⟩
 ·exact ⟨hb,oM⟩
theorem fmx_ok {a b:Nat} (ha:FB a) (hb:FB b):FB (fmx a b) /\ rk64 (fmx a b) = max (rk64 a) (rk64 b):=by
 have h:=ha.ord hb
 unfold fmx
 rcases cmp_cases (rk64 a) (rk64 b) with ⟨h',h2⟩ | ⟨h',h2⟩ | ⟨h',h2⟩ <;> rw [h'] at h <;> rw [h] <;> simp only
 ·exact ⟨hb,oM⟩
 ·split
  ·exact ⟨hb,oM⟩
  ·exact ⟨ha,oM⟩
 ·exact ⟨ha,oM⟩
theorem FB.zero:FB 0:=⟨oM,dK⟩
theorem rk_zero:rk64 0 = 0:=dK
theorem ez_rk {a:Nat} (ha:FB a):FB (ez a) /\ rk64 (ez a) = rk64 a:=by
 unfold ez
 cases h:zeb a
 ·exact ⟨ha,rfl⟩
 ·refine ⟨FB.zero,?_⟩
  rw [if_pos rfl,rk_zero]
  have h2:eqb a 0 = true:=h
  rw [ha.eqb FB.zero,rk_zero] at h2
  exact (of_decide_eq_true h2).symm
structure Sp where
 lo:Nat
 hi:Nat
def Sp.v (s:Sp):Value:=.agg #[.float .f64 s.lo,.float .f64 s.hi]
structure Sp.Ok (s:Sp):Prop where
 lo:FB s.lo
 hi:FB s.hi
 le:rk64 s.lo <= rk64 s.hi
def Sp.zero:Sp:=⟨0,0⟩
theorem Sp.Ok.zero:Sp.zero.Ok:=⟨FB.zero,FB.zero,Int.le_refl _⟩
def spP (a b:Nat):Nat:=if gtb a b then b else a
def spQ (a b:Nat):Nat:=if gtb a b then a else b
def spOf (a b:Nat):Sp:=⟨msL (spP a b) (spQ a b),msH (spP a b) (spQ a b)⟩
def spB (a b:Nat):Bool:=decide (msK (spP a b) (spQ a b) = 0)
theorem spB_k {a b:Nat} (h:spB a b = true):msK (spP a b) (spQ a b) = 0:=of_decide_eq_true h
theorem spB_n {a b:Nat} (h:spB a b = false):msK (spP a b) (spQ a b) ≠ 0:=of_decide_eq_false h
theorem sp_ok {a b:Nat} (ha:a < 18446744073709551616) (hb:b < 18446744073709551616) (h:spB a b = true):(spOf a b).Ok:=by
 have hk:=spB_k h
 have hp:spP a b < 18446744073709551616:=by unfold spP; split <;> assumption
 have hq:spQ a b < 18446744073709551616:=by unfold spQ; split <;> assumption
 unfold spOf
 generalize spP a b = p at *
 generalize spQ a b = q at *
 unfold msK at hk
 cases hm:mayB p q
 ·rw [hm,if_neg dE] at hk; exact absurd hk dE
 rw [hm,if_pos rfl] at hk
 cases hg:gtb p q
 ·have hmm:=hm
  unfold mayB at hmm
  have fp:FB p:=⟨hp,by cases h1:nanb p <;> simp_all⟩
  have fq:FB q:=⟨hq,by cases h1:nanb q <;> simp_all⟩
  have h1:=ez_rk fp
  have h2:=ez_rk fq
  have h3:¬ rk64 q < rk64 p:=by
   rw [fp.gtb fq] at hg
   exact of_decide_eq_false hg
  have e1:msL p q = ez p:=by unfold msL; rw [hm,hg]; rfl
  have e2:msH p q = ez q:=by unfold msH; rw [hm,hg]; rfl
  rw [e1,e2]
  exact ⟨h1.1,h2.1,by simp only; omega⟩
 ·rw [hg] at hk; exact absurd hk dE
theorem sp_no {a b:Nat} (h:spB a b = false):spOf a b = .zero:=by
 have hk:=spB_n h
 unfold spOf Sp.zero
 generalize spP a b = p at *
 generalize spQ a b = q at *
 unfold msK at hk
 have:(mayB p q && !gtb p q) = false:=by
  cases hm:mayB p q
  ·rfl
  ·rw [hm,if_pos rfl] at hk
   cases hg:gtb p q
   ·rw [hg] at hk; exact absurd rfl hk
   ·rfl
 unfold msL msH
 rw [this]
 rfl
theorem sp_fine {a b:Nat} (ha:a < 18446744073709551616) (hb:b < 18446744073709551616):(spOf a b).Ok:=by
 cases h:spB a b
 ·rw [sp_no h]; exact Sp.Ok.zero
 ·exact sp_ok ha hb h
def Sp.within (s t:Sp):Bool:=leb t.lo s.lo && leb s.hi t.hi
def Sp.hull (s t:Sp):Sp:=⟨fmn s.lo t.lo,fmx s.hi t.hi⟩
def Sp.mt (s t:Sp):Sp:=⟨fmx s.lo t.lo,fmn s.hi t.hi⟩
def Sp.meets (s t:Sp):Bool:=!gtb (fmx s.lo t.lo) (fmn s.hi t.hi)
def Sp.meet (s t:Sp):Sp:=if s.meets t then s.mt t else .zero
def Sp.same (s t:Sp):Bool:=eqb s.lo t.lo && eqb s.hi t.hi
theorem Sp.Ok.hull {s t:Sp} (hs:s.Ok) (ht:t.Ok):(s.hull t).Ok :=
 ⟨(fmn_ok hs.lo ht.lo).1,(fmx_ok hs.hi ht.hi).1,by
  have h1:=(fmn_ok hs.lo ht.lo).2
  have h2:=(fmx_ok hs.hi ht.hi).2
  have h3:=hs.le
  unfold Sp.hull
  simp only
  omega⟩
theorem Sp.meets_eq {s t:Sp} (hs:s.Ok) (ht:t.Ok):s.meets t = decide (max (rk64 s.lo) (rk64 t.lo) <= min (rk64 s.hi) (rk64 t.hi)):=by
 unfold Sp.meets
 rw [(fmx_ok hs.lo ht.lo).1.gtb (fmn_ok hs.hi ht.hi).1,(fmx_ok hs.lo ht.lo).2,(fmn_ok hs.hi ht.hi).2,Bool.eq_iff_iff]
 simp
theorem Sp.Ok.mt {s t:Sp} (hs:s.Ok) (ht:t.Ok) (h:s.meets t = true):(s.mt t).Ok :=
 ⟨(fmx_ok hs.lo ht.lo).1,(fmn_ok hs.hi ht.hi).1,by
  have h1:=(fmx_ok hs.lo ht.lo).2
  have h2:=(fmn_ok hs.hi ht.hi).2
  rw [Sp.meets_eq hs ht] at h
  have h3:=of_decide_eq_true h
  unfold Sp.mt
  simp only
  omega⟩
theorem Sp.within_eq {s t:Sp} (hs:s.Ok) (ht:t.Ok):s.within t = decide (rk64 t.lo <= rk64 s.lo /\ rk64 s.hi <= rk64 t.hi):=by
 unfold Sp.within
 rw [ht.lo.leb hs.lo,hs.hi.leb ht.hi,Bool.eq_iff_iff]
 simp
theorem Sp.same_eq {s t:Sp} (hs:s.Ok) (ht:t.Ok):s.same t = decide (rk64 s.lo = rk64 t.lo /\ rk64 s.hi = rk64 t.hi):=by
 unfold Sp.same
 rw [hs.lo.eqb ht.lo,hs.hi.eqb ht.hi,Bool.eq_iff_iff]
 simp
structure Bx where
 re:Sp
 im:Sp
def Bx.v (b:Bx):Value:=.agg #[.float .f64 b.re.lo,.float .f64 b.re.hi,.float .f64 b.im.lo,.float .f64 b.im.hi]
structure Bx.Ok (b:Bx):Prop where
 re:b.re.Ok
 im:b.im.Ok
def Bx.zero:Bx:=⟨.zero,.zero⟩
def Bx.within (b c:Bx):Bool:=b.re.within c.re && b.im.within c.im
def Bx.hull (b c:Bx):Bx:=⟨b.re.hull c.re,b.im.hull c.im⟩
def Bx.meets (b c:Bx):Bool:=b.re.meets c.re && b.im.meets c.im
def Bx.meet (b c:Bx):Bx:=if b.meets c then ⟨b.re.mt c.re,b.im.mt c.im⟩ else .zero
def Bx.same (b c:Bx):Bool:=b.re.same c.re && b.im.same c.im
theorem Bx.Ok.zero:Bx.zero.Ok:=⟨Sp.Ok.zero,Sp.Ok.zero⟩
theorem Bx.Ok.hull {b c:Bx} (hb:b.Ok) (hc:c.Ok):(b.hull c).Ok:=⟨hb.re.hull hc.re,hb.im.hull hc.im⟩
theorem Bx.Ok.meet {b c:Bx} (hb:b.Ok) (hc:c.Ok):(b.meet c).Ok:=by
 unfold Bx.meet
 cases h:b.meets c
 ·exact Bx.Ok.zero
 ·unfold Bx.meets at h
  rw [Bool.and_eq_true] at h
  exact ⟨hb.re.mt hc.re h.1,hb.im.mt hc.im h.2⟩
end Go.Proofs.YtjodlmanheeajaaGreatDoor
namespace Go.Proofs.YtjodlmanheeajaaGreatDoor
section
variable {s t u:Sp}
theorem Sp.hull_lo (hs:s.Ok) (ht:t.Ok):rk64 (s.hull t).lo = min (rk64 s.lo) (rk64 t.lo):=(fmn_ok hs.lo ht.lo).2
theorem Sp.hull_hi (hs:s.Ok) (ht:t.Ok):rk64 (s.hull t).hi = max (rk64 s.hi) (rk64 t.hi):=(fmx_ok hs.hi ht.hi).2
theorem Sp.mt_lo (hs:s.Ok) (ht:t.Ok):rk64 (s.mt t).lo = max (rk64 s.lo) (rk64 t.lo):=(fmx_ok hs.lo ht.lo).2
theorem Sp.mt_hi (hs:s.Ok) (ht:t.Ok):rk64 (s.mt t).hi = min (rk64 s.hi) (rk64 t.hi):=(fmn_ok hs.hi ht.hi).2
theorem Sp.hull_comm (hs:s.Ok) (ht:t.Ok):(s.hull t).same (t.hull s) = true:=by
 rw [Sp.same_eq (hs.hull ht) (ht.hull hs),Sp.hull_lo hs ht,Sp.hull_hi hs ht,Sp.hull_lo ht hs,Sp.hull_hi ht hs]
 exact decide_eq_true oM
theorem Sp.hull_assoc (hs:s.Ok) (ht:t.Ok) (hu:u.Ok):((s.hull t).hull u).same (s.hull (t.hull u)) = true:=by
 rw [Sp.same_eq ((hs.hull ht).hull hu) (hs.hull (ht.hull hu)),Sp.hull_lo (hs.hull ht) hu,Sp.hull_hi (hs.hull ht) hu,Sp.hull_lo hs (ht.hull hu),Sp.hull_hi hs (ht.hull hu),Sp.hull_lo hs ht,Sp.hull_hi hs ht,Sp.hull_lo ht hu,Sp.hull_hi ht hu]
 exact decide_eq_true oM
theorem Sp.in_hull (hs:s.Ok) (ht:t.Ok):s.within (s.hull t) = true /\ t.within (s.hull t) = true:=by
 rw [Sp.within_eq hs (hs.hull ht),Sp.within_eq ht (hs.hull ht),Sp.hull_lo hs ht,Sp.hull_hi hs ht]
 exact ⟨decide_eq_true oM,decide_eq_true oM⟩
theorem Sp.meets_comm (hs:s.Ok) (ht:t.Ok):s.meets t = t.meets s:=by
 rw [Sp.meets_eq hs ht,Sp.meets_eq ht hs,Int.max_comm,Int.min_comm]
theorem Sp.mt_comm (hs:s.Ok) (ht:t.Ok) (h:s.meets t = true):(s.mt t).same (t.mt s) = true:=by
 rw [Sp.same_eq (hs.mt ht h) (ht.mt hs (Sp.meets_comm hs ht ▸ h)),Sp.mt_lo hs ht,Sp.mt_hi hs ht,Sp.mt_lo ht hs,Sp.mt_hi ht hs]
 exact decide_eq_true oM
theorem Sp.mt_in (hs:s.Ok) (ht:t.Ok) (h:s.meets t = true):(s.mt t).within s = true /\ (s.mt t).within t = true:=by
 rw [Sp.within_eq (hs.mt ht h) hs,Sp.within_eq (hs.mt ht h) ht,Sp.mt_lo hs ht,Sp.mt_hi hs ht]
 exact ⟨decide_eq_true oM,decide_eq_true oM⟩
theorem Sp.hull_mt (hs:s.Ok) (ht:t.Ok) (h:s.meets t = true):(s.hull (s.mt t)).same s = true:=by
 rw [Sp.same_eq (hs.hull (hs.mt ht h)) hs,Sp.hull_lo hs (hs.mt ht h),Sp.hull_hi hs (hs.mt ht h),Sp.mt_lo hs ht,Sp.mt_hi hs ht]
 exact decide_eq_true oM
theorem Sp.meets3 (hs:s.Ok) (ht:t.Ok) (hu:u.Ok) (h:s.meets t = true) (h2:(s.mt t).meets u = true):t.meets u = true /\ s.meets (t.mt u) = true:=by
 rw [Sp.meets_eq (hs.mt ht h) hu,Sp.mt_lo hs ht,Sp.mt_hi hs ht] at h2
 have h3:=of_decide_eq_true h2
 have h4:t.meets u = true:=by rw [Sp.meets_eq ht hu]; exact decide_eq_true oM
 refine ⟨h4,?_⟩
 rw [Sp.meets_eq hs (ht.mt hu h4),Sp.mt_lo ht hu,Sp.mt_hi ht hu]
 exact decide_eq_true oM
theorem Sp.meets3' (hs:s.Ok) (ht:t.Ok) (hu:u.Ok) (h:s.meets t = true) (h4:t.meets u = true) (h2:s.meets (t.mt u) = true):(s.mt t).meets u = true:=by
 rw [Sp.meets_eq hs (ht.mt hu h4),Sp.mt_lo ht hu,Sp.mt_hi ht hu] at h2
 have h3:=of_decide_eq_true h2
 rw [Sp.meets_eq (hs.mt ht h) hu,Sp.mt_lo hs ht,Sp.mt_hi hs ht]
 exact decide_eq_true oM
theorem Sp.mt_assoc (hs:s.Ok) (ht:t.Ok) (hu:u.Ok) (h:s.meets t = true) (h2:(s.mt t).meets u = true):((s.mt t).mt u).same (s.mt (t.mt u)) = true:=by
 obtain ⟨h4,h5⟩:=Sp.meets3 hs ht hu h h2
 rw [Sp.same_eq ((hs.mt ht h).mt hu h2) (hs.mt (ht.mt hu h4) h5),Sp.mt_lo (hs.mt ht h) hu,Sp.mt_hi (hs.mt ht h) hu,Sp.mt_lo hs (ht.mt hu h4),Sp.mt_hi hs (ht.mt hu h4),Sp.mt_lo hs ht,Sp.mt_hi hs ht,Sp.mt_lo ht hu,Sp.mt_hi ht hu]
 exact decide_eq_true oM
end
section
variable {a b c:Bx}
theorem bands {x y:Bool} (hx:x = true) (hy:y = true):(x && y) = true:=by rw [hx,hy]; rfl
theorem Bx.hull_comm (ha:a.Ok) (hb:b.Ok):(a.hull b).same (b.hull a) = true:=bands (Sp.hull_comm ha.re hb.re) (Sp.hull_comm ha.im hb.im)
theorem Bx.hull_assoc (ha:a.Ok) (hb:b.Ok) (hc:c.Ok):((a.hull b).hull c).same (a.hull (b.hull c)) = true:=bands (Sp.hull_assoc ha.re hb.re hc.re) (Sp.hull_assoc ha.im hb.im hc.im)
theorem Bx.in_hull (ha:a.Ok) (hb:b.Ok):a.within (a.hull b) = true /\ b.within (a.hull b) = true:=⟨bands (Sp.in_hull ha.re hb.re).1 (Sp.in_hull ha.im hb.im).1,bands (Sp.in_hull ha.re hb.re).2 (Sp.in_hull ha.im hb.im).2⟩
theorem Bx.meets_comm (ha:a.Ok) (hb:b.Ok):a.meets b = b.meets a:=by
 unfold Bx.meets
 rw [Sp.meets_comm ha.re hb.re,Sp.meets_comm ha.im hb.im]
theorem Bx.parts {h:a.meets b = true}:a.re.meets b.re = true /\ a.im.meets b.im = true:=by
 unfold Bx.meets at h
 rwa [Bool.and_eq_true] at h
theorem Bx.meet_comm (ha:a.Ok) (hb:b.Ok):(a.meet b).same (b.meet a) = true:=by
 unfold Bx.meet
 rw [Bx.meets_comm hb ha]
 cases h:a.meets b
 ·simp only [Bool.false_eq_true,if_false]
  decide +kernel
 ·obtain ⟨h1,h2⟩:=Bx.parts (h:=h)
  exact bands (Sp.mt_comm ha.re hb.re h1) (Sp.mt_comm ha.im hb.im h2)
theorem Bx.meet_yes (h:a.meets b = true):a.meet b = ⟨a.re.mt b.re,a.im.mt b.im⟩:=by unfold Bx.meet; rw [if_pos h]
theorem Bx.meet_in (ha:a.Ok) (hb:b.Ok) (h:a.meets b = true):(a.meet b).within a = true /\ (a.meet b).within b = true /\ (a.hull (a.meet b)).same a = true:=by
 obtain ⟨h1,h2⟩:=Bx.parts (h:=h)
 rw [Bx.meet_yes h]
 exact ⟨bands (Sp.mt_in ha.re hb.re h1).1 (Sp.mt_in ha.im hb.im h2).1,bands (Sp.mt_in ha.re hb.re h1).2 (Sp.mt_in ha.im hb.im h2).2,bands (Sp.hull_mt ha.re hb.re h1) (Sp.hull_mt ha.im hb.im h2)⟩
theorem Bx.meet_left (ha:a.Ok) (hb:b.Ok) (hc:c.Ok) (h:a.meets b = true) (h2:(a.meet b).meets c = true):b.meets c = true /\ a.meets (b.meet c) = true /\ ((a.meet b).meet c).same (a.meet (b.meet c)) = true:=by
 obtain ⟨p1,p2⟩:=Bx.parts (h:=h)
 have h2':=h2
 rw [Bx.meet_yes h] at h2'
 obtain ⟨q1,q2⟩:=Bx.parts (h:=h2')
 obtain ⟨r1,r2⟩:=Sp.meets3 ha.re hb.re hc.re p1 q1
 obtain ⟨s1,s2⟩:=Sp.meets3 ha.im hb.im hc.im p2 q2
 have k1:b.meets c = true:=bands r1 s1
 have k2:a.meets (b.meet c) = true:=by rw [Bx.meet_yes k1]; exact bands r2 s2
 refine ⟨k1,k2,?_⟩
 rw [Bx.meet_yes h2,Bx.meet_yes k2,Bx.meet_yes h,Bx.meet_yes k1]
 exact bands (Sp.mt_assoc ha.re hb.re hc.re p1 q1) (Sp.mt_assoc ha.im hb.im hc.im p2 q2)
theorem Bx.meet_right (ha:a.Ok) (hb:b.Ok) (hc:c.Ok) (h:a.meets b = true) (h2:(a.meet b).meets c = false) (k1:b.meets c = true):a.meets (b.meet c) = false:=by
 cases k2:a.meets (b.meet c)
 ·rfl
 ·exfalso
  have:(a.meet b).meets c = true:=by
   obtain ⟨p1,p2⟩:=Bx.parts (h:=h)
   obtain ⟨q1,q2⟩:=Bx.parts (h:=k1)
   rw [Bx.meet_yes k1] at k2
   obtain ⟨r1,r2⟩:=Bx.parts (h:=k2)
   rw [Bx.meet_yes h]
   exact bands (Sp.meets3' ha.re hb.re hc.re p1 q1 r1) (Sp.meets3' ha.im hb.im hc.im p2 q2 r2)
  rw [h2] at this
  cases this
end
end Go.Proofs.YtjodlmanheeajaaGreatDoor
