import Derived.Test.YtjodlmanheeajaaGreatDoorR19
import Derived.Test.YtjodlmanheeajaaGreatDoorU01
import Derived.Test.YtjodlmanheeajaaGreatDoorR22
import Derived.Test.YtjodlmanheeajaaGreatDoorU02
import Derived.Test.YtjodlmanheeajaaGreatDoorR34
import Derived.Test.YtjodlmanheeajaaGreatDoorR02
set_option linter.unusedVariables false
set_option linter.unusedSimpArgs false
set_option maxRecDepth 100000
set_option maxHeartbeats 8000000
namespace Go.Proofs.YtjodlmanheeajaaGreatDoor
structure Spl (dg:Nat) (lo:Int) (p q m t:Nat):Prop where
 le:m * 2 ^ t * q <= p * 2 ^ (-lo).toNat
 lt:p * 2 ^ (-lo).toNat < (m + 1) * 2 ^ t * q
 hm:m < 2 ^ dg
 ht:t = 0 ∨ 2 ^ (dg - 1) <= m
def splR (lo:Int) (p q m t:Nat):Nat:=p * 2 ^ (-lo).toNat - m * 2 ^ t * q
def upR (m R V:Nat) (way:Int):Bool:=if way = 1 then decide (0 < R) else if way = 2 then decide (V < 2 * R) || (decide (2 * R = V) && decide (m % 2 = 1)) else false
theorem Spl.not_lt {dg:Nat} {lo:Int} {p q m t m' t':Nat} (hd:0 < dg) (h:Spl dg lo p q m t) (h':Spl dg lo p q m' t') (hq:0 < q):¬ t < t':=by
 intro hlt
 have hm':2 ^ (dg - 1) <= m':=by rcases h'.ht with e | e; omega; exact e
 have e1:(m + 1) * 2 ^ t * q <= 2 ^ dg * 2 ^ t * q:=Nat.mul_le_mul_right _ (Nat.mul_le_mul_right _ h.hm)
 have e2:2 ^ (dg - 1) * 2 ^ t' * q <= m' * 2 ^ t' * q:=Nat.mul_le_mul_right _ (Nat.mul_le_mul_right _ hm')
 have e3:2 ^ dg * 2 ^ t <= 2 ^ (dg - 1) * 2 ^ t':=by
  rw [<- Nat.pow_add,<- Nat.pow_add]
  exact Nat.pow_le_pow_right oM oM
 have e4:=Nat.mul_le_mul_right q e3
 have:=h.lt
 have:=h'.le
 omega
theorem Spl.uniq {dg:Nat} {lo:Int} {p q m t m' t':Nat} (hd:0 < dg) (h:Spl dg lo p q m t) (h':Spl dg lo p q m' t') (hq:0 < q):m = m' /\ t = t':=by
 have h1:=Spl.not_lt hd h h' hq
 have h2:=Spl.not_lt hd h' h hq
 obtain rfl:t = t':=oM
 refine ⟨?_,rfl⟩
 have hV:0 < 2 ^ t * q:=Nat.mul_pos (Nat.pow_pos oM) hq
 have a1:=Nat.lt_of_le_of_lt h.le h'.lt
 have a2:=Nat.lt_of_le_of_lt h'.le h.lt
 rw [Nat.mul_assoc,Nat.mul_assoc] at a1 a2
 have a3:=Nat.lt_of_mul_lt_mul_right a1
 have a4:=Nat.lt_of_mul_lt_mul_right a2
 omega
theorem half_step {M rest K D Q rho:Nat} (hD:2 <= D) (hM:M = K * 2 ^ D + rest) (hr:rest < 2 ^ D) (hrho:rho < Q) :
  (2 ^ D * Q < 2 * (rest * Q + rho) ↔ (2 ^ (D - 1) < rest ∨ rest = 2 ^ (D - 1) /\ rho ≠ 0)) /\ (2 * (rest * Q + rho) = 2 ^ D * Q ↔ rest = 2 ^ (D - 1) /\ rho = 0) /\ (rest * Q + rho = 0 ↔ rest = 0 /\ rho = 0) /\ rest * Q + rho < 2 ^ D * Q:=by
 obtain ⟨h,hh⟩:∃ h,h = 2 ^ (D - 1):=⟨_,rfl⟩
 have e:2 ^ D = 2 * h:=by rw [hh,show D = D - 1 + 1 by omega,Nat.pow_succ]; simp [Nat.mul_comm]
 rw [<- hh]
 rw [e] at hM hr ⊢
 have hQ:0 < Q:=oM
 have hlt:rest * Q + rho < 2 * h * Q:=by
  have:(rest + 1) * Q <= 2 * h * Q:=Nat.mul_le_mul_right _ hr
  rw [Nat.add_mul] at this
  omega
 rcases Nat.lt_trichotomy rest h with c | c | c
 ·have h1:(rest + 1) * Q <= h * Q:=Nat.mul_le_mul_right _ c
  rw [Nat.add_mul] at h1
  rw [Nat.mul_assoc] at *
  generalize hx:rest * Q = x at *
  generalize hy:h * Q = y at *
  refine ⟨⟨fun h=>oM,fun h=>oM⟩,⟨fun h=>oM,fun h=>oM⟩,⟨fun h0=>?_,fun h0=>?_⟩,hlt⟩
  ·have:x = 0:=oM
   rw [this] at hx
   rcases Nat.mul_eq_zero.1 hx with e | e <;> omega
  ·rw [h0.1,Nat.zero_mul] at hx; omega
 ·subst c
  rw [Nat.mul_assoc] at *
  generalize hx:rest * Q = x at *
  refine ⟨⟨fun h=>oM,fun h=>oM⟩,⟨fun h=>oM,fun h=>oM⟩,⟨fun h0=>?_,fun h0=>?_⟩,hlt⟩
  ·have:x = 0:=oM
   rw [this] at hx
   rcases Nat.mul_eq_zero.1 hx with e | e <;> omega
  ·rw [h0.1,Nat.zero_mul] at hx; omega
 ·have h1:(h + 1) * Q <= rest * Q:=Nat.mul_le_mul_right _ c
  rw [Nat.add_mul] at h1
  rw [Nat.mul_assoc] at *
  generalize hx:rest * Q = x at *
  generalize hy:h * Q = y at *
  refine ⟨⟨fun h=>oM,fun h=>oM⟩,⟨fun h=>oM,fun h=>oM⟩,⟨fun h0=>?_,fun h0=>?_⟩,hlt⟩
  ·omega
  ·omega
theorem rd_spl {dg:Nat} {lo:Int} {p q:Nat} (hp:0 < p) (hq:0 < q) (hdg:1 <= dg) (hdg2:dg <= 53) (hlo:lo <= 0) :
  ∃ m t,Spl dg lo p q m t /\ (t:Int) = rdU dg lo p q - lo /\ rdM dg p q / 2 ^ rdD dg lo p q = m /\
   ∀ way,rUp (rdM dg p q / 2 ^ rdD dg lo p q) (rdM dg p q % 2 ^ rdD dg lo p q) (2 ^ (rdD dg lo p q - 1)) (rdX dg p q) way = upR m (splR lo p q m t) (2 ^ t * q) way:=by
 obtain ⟨m1,m2,mQ⟩:=rdM_bounds (dg:=dg) hp hq
 obtain ⟨f1,f2,f3,f4,f5,f6⟩:=rd_facts (dg:=dg) (lo:=lo) hp hq
 obtain ⟨t,ht⟩:∃ t:Nat,(t:Int) = rdU dg lo p q - lo:=⟨(rdU dg lo p q - lo).toNat,oM⟩
 obtain ⟨D,hD⟩:∃ D:Nat,(D:Int) = rdU dg lo p q + rdS dg p q:=⟨(rdU dg lo p q + rdS dg p q).toNat,oM⟩
 have hU:rdU dg lo p q = max ((bl (rdM dg p q):Int) - rdS dg p q - (dg:Int)) lo:=rfl
 have hDD:rdD dg lo p q = min D 63:=by unfold rdD; omega
 have hX:rdX dg p q = decide (scP p (rdS dg p q) % scQ q (rdS dg p q) ≠ 0):=rfl
 have hM:rdM dg p q = scP p (rdS dg p q) / scQ q (rdS dg p q):=rfl
 obtain ⟨bp,b1,b2⟩:=bl_pow (x:=rdM dg p q) (by have:=Nat.pow_pos (a:=2) (n:=dg + 1) oM; omega)
 have hMB:rdM dg p q < 2 ^ 56:=lL m2 (Nat.pow_le_pow_right oM oM)
 have hdm:=Nat.div_add_mod (scP p (rdS dg p q)) (scQ q (rdS dg p q))
 have hml:=Nat.mod_lt (scP p (rdS dg p q)) mQ
 rw [<- hM] at hdm
 -- powers
 obtain ⟨sp,hsp⟩:∃ sp,(rdS dg p q).toNat = sp:=⟨_,rfl⟩
 obtain ⟨sm,hsm⟩:∃ sm,(-rdS dg p q).toNat = sm:=⟨_,rfl⟩
 obtain ⟨c,hc⟩:∃ c,(-lo).toNat = c:=⟨_,rfl⟩
 have hP:scP p (rdS dg p q) = p * 2 ^ sp:=by unfold scP; rw [hsp]
 have hQ:scQ q (rdS dg p q) = q * 2 ^ sm:=by unfold scQ; rw [hsm]
 have hex:sm + D + c = t + sp:=oM
 rw [hP,hQ] at hdm
 rw [hP,hQ] at hml
 rw [hQ] at mQ
 rw [hX,hP,hQ]
 unfold splR
 generalize hrho:p * 2 ^ sp % (q * 2 ^ sm) = rho at *
 have hV:2 ^ D * (q * 2 ^ sm) * 2 ^ c = 2 ^ t * q * 2 ^ sp:=by
  rw [show 2 ^ D * (q * 2 ^ sm) * 2 ^ c = q * 2 ^ (sm + D + c) by (rw [Nat.pow_add,Nat.pow_add]; (try ac_rfl)),hex,Nat.pow_add,Nat.mul_comm (2 ^ t) q,Nat.mul_assoc]
 have hspos:0 < 2 ^ sp:=Nat.pow_pos oM
 have hcpos:0 < 2 ^ c:=Nat.pow_pos oM
 rcases Nat.le_total D 63 with d63 | d63
 ·rw [hDD,Nat.min_eq_left d63]
  generalize rdM dg p q = M at *
  have hK:=Nat.div_add_mod M (2 ^ D)
  have hr:=Nat.mod_lt M (Nat.pow_pos (n:=D) (show 0 < 2 by omega))
  generalize hKe:M / 2 ^ D = K at *
  generalize hre:M % 2 ^ D = rest at *
  obtain ⟨g1,g2,g3,g4⟩:=half_step (M:=M) (D:=D) (Q:=q * 2 ^ sm) (K:=K) oM (by rw [<- hK,Nat.mul_comm]) hr hml
  -- p 2^c in units
  have hR:p * 2 ^ c * 2 ^ sp = K * 2 ^ t * q * 2 ^ sp + (rest * (q * 2 ^ sm) + rho) * 2 ^ c:=by
   rw [show p * 2 ^ c * 2 ^ sp = p * 2 ^ sp * 2 ^ c by grind,<- hdm,<- hK,show K * 2 ^ t * q * 2 ^ sp = K * (2 ^ t * q * 2 ^ sp) by grind,<- hV]
   grind
  generalize hr0:rest * (q * 2 ^ sm) + rho = r0 at *
  obtain ⟨R,hRR⟩:∃ R,p * 2 ^ c = K * 2 ^ t * q + R:=⟨p * 2 ^ c - K * 2 ^ t * q,by
   have:K * 2 ^ t * q * 2 ^ sp <= p * 2 ^ c * 2 ^ sp:=oM
   have:=Nat.le_of_mul_le_mul_right this hspos
   omega⟩
  have hR2:R * 2 ^ sp = r0 * 2 ^ c:=by
   rw [hRR,Nat.add_mul] at hR
   omega
  have hRV:R < 2 ^ t * q:=by
   refine Nat.lt_of_mul_lt_mul_right (a:=2 ^ sp) ?_
   rw [hR2,<- hV]
   exact Nat.mul_lt_mul_of_pos_right g4 hcpos
  have hsub:p * 2 ^ (-lo).toNat - K * 2 ^ t * q = R:=by rw [hc]; omega
  have k1:2 ^ t * q < 2 * R ↔ 2 ^ D * (q * 2 ^ sm) < 2 * r0:=by
   constructor
   ·intro h
    refine Nat.lt_of_mul_lt_mul_right (a:=2 ^ c) ?_
    rw [hV,Nat.mul_assoc 2 r0,<- hR2,<- Nat.mul_assoc]
    exact Nat.mul_lt_mul_of_pos_right h hspos
   ·intro h
    refine Nat.lt_of_mul_lt_mul_right (a:=2 ^ sp) ?_
    rw [<- hV,Nat.mul_assoc 2 R,hR2,<- Nat.mul_assoc 2 r0]
    exact Nat.mul_lt_mul_of_pos_right h hcpos
  have k2:2 * R = 2 ^ t * q ↔ 2 * r0 = 2 ^ D * (q * 2 ^ sm):=by
   constructor
   ·intro h
    refine Nat.eq_of_mul_eq_mul_right hcpos ?_
    rw [hV,Nat.mul_assoc 2 r0,<- hR2,<- Nat.mul_assoc,h]
   ·intro h
    refine Nat.eq_of_mul_eq_mul_right hspos ?_
    rw [<- hV,Nat.mul_assoc 2 R,hR2,<- Nat.mul_assoc,h]
  have k3:0 < R ↔ r0 ≠ 0:=by
   constructor
   ·intro h e
    rw [e,Nat.zero_mul] at hR2
    have:=Nat.mul_pos h hspos
    omega
   ·intro h
    refine Nat.pos_of_ne_zero fun e=>?_
    rw [e,Nat.zero_mul] at hR2
    have:=Nat.mul_pos (Nat.pos_of_ne_zero h) hcpos
    omega
  refine ⟨K,t,⟨by rw [hc]; omega,?_,?_,?_⟩,ht,rfl,fun way=>?_⟩
  ·rw [hc,hRR,Nat.add_mul,Nat.add_mul,Nat.one_mul]; omega
  ·rw [<- hKe,Nat.div_lt_iff_lt_mul (Nat.pow_pos oM),<- Nat.pow_add]
   refine lL b2 (Nat.pow_le_pow_right oM ?_)
   omega
  ·rcases Nat.eq_zero_or_pos t with e | e
   ·exact .inl e
   ·right
    rw [<- hKe,Nat.le_div_iff_mul_le (Nat.pow_pos oM),<- Nat.pow_add]
    refine Nat.le_trans (Nat.pow_le_pow_right oM ?_) b1
    omega
  ·rw [hsub]
   unfold rUp upR
   split
   ·rw [Bool.eq_iff_iff]; simp [k3]; omega
   split
   ·rw [Bool.eq_iff_iff]; simp [k1,k2]; rw [g1,g2]; grind
   ·rfl
 ·rw [hDD,Nat.min_eq_right d63]
  have h63:rdM dg p q < 2 ^ 62:=lL hMB (Nat.pow_le_pow_right oM oM)
  have h62:(2:Nat) ^ 63 = 2 * 2 ^ 62:=dK
  have hK0:rdM dg p q / 2 ^ 63 = 0:=Nat.div_eq_of_lt oM
  have hr0:rdM dg p q % 2 ^ 63 = rdM dg p q:=Nat.mod_eq_of_lt oM
  rw [hK0,hr0]
  have hMpos:0 < rdM dg p q:=by have:=Nat.pow_pos (a:=2) (n:=dg + 1) oM; omega
  have ht0:t = 0:=by
   rcases Nat.eq_zero_or_pos t with e | e
   ·exact e
   ·have:dg + D = bl (rdM dg p q):=oM
    omega
  subst ht0
  -- p 2^c is less than half a unit
  have hlt:2 * (p * 2 ^ c) < 2 ^ 0 * q:=by
   refine Nat.lt_of_mul_lt_mul_right (a:=2 ^ sp) ?_
   rw [<- hV]
   have e1:p * 2 ^ sp < (rdM dg p q + 1) * (q * 2 ^ sm):=by rw [Nat.add_mul,Nat.one_mul,Nat.mul_comm (rdM dg p q)]; omega
   have e2:(rdM dg p q + 1) * (q * 2 ^ sm) <= 2 ^ 62 * (q * 2 ^ sm):=Nat.mul_le_mul_right _ h63
   have e3:2 * (2 ^ 62 * (q * 2 ^ sm)) <= 2 ^ D * (q * 2 ^ sm):=by
    rw [<- Nat.mul_assoc,<- h62]
    exact Nat.mul_le_mul_right _ (Nat.pow_le_pow_right oM d63)
   have e4:2 * (p * 2 ^ sp) < 2 ^ D * (q * 2 ^ sm):=oM
   have e5:=Nat.mul_lt_mul_of_pos_right e4 hcpos
   rw [show 2 * (p * 2 ^ c) * 2 ^ sp = 2 * (p * 2 ^ sp) * 2 ^ c by grind]
   exact e5
  have hpc:0 < p * 2 ^ c:=Nat.mul_pos hp hcpos
  refine ⟨0,0,⟨sP,by rw [hc]; simp at hlt ⊢; omega,Nat.pow_pos oM,.inl rfl⟩,ht,rfl,fun way=>?_⟩
  rw [hc]; simp only [Nat.zero_mul,Nat.sub_zero]
  unfold rUp upR
  split
  ·rw [decide_eq_true hMpos,decide_eq_true hpc]; rfl
  split
  ·have n1:¬ (2 ^ (63 - 1) < rdM dg p q):=by have:(2:Nat) ^ (63 - 1) = 2 ^ 62:=rfl; omega
   have n2:¬ (rdM dg p q = 2 ^ (63 - 1)):=by have:(2:Nat) ^ (63 - 1) = 2 ^ 62:=rfl; omega
   have n3:¬ (2 ^ 0 * q < 2 * (p * 2 ^ c)):=oM
   have n4:¬ (2 * (p * 2 ^ c) = 2 ^ 0 * q):=oM
   rw [decide_eq_false n1,decide_eq_false n2,decide_eq_false n3,decide_eq_false n4]; rfl
  ·rfl
theorem rdF_spl {dg:Nat} {lo hi:Int} {p q:Nat} (hf:Fm dg lo hi) (hp:0 < p) (hq:0 < q) :
  ∃ m t,Spl dg lo p q m t /\ ∀ way,rdF dg lo hi p q way = if hi - lo < (t:Int) then ovB dg lo hi way else t * 2 ^ (dg - 1) + m + (if upR m (splR lo p q m t) (2 ^ t * q) way then 1 else 0):=by
 obtain ⟨f1,f2,f3,f4,f5,f6⟩:=hf
 obtain ⟨m,t,h,ht,hm,hu⟩:=rd_spl (dg:=dg) (lo:=lo) hp hq oM f2 oM
 refine ⟨m,t,h,fun way=>?_⟩
 unfold rdF
 rw [if_neg oM]
 by_cases c:hi < rdU dg lo p q
 ·rw [if_pos c,if_pos oM]
 ·rw [if_neg c,if_neg oM,rdB_eq,hu way,hm,<- ht,Int.toNat_natCast]
end Go.Proofs.YtjodlmanheeajaaGreatDoor
namespace Go.Proofs.YtjodlmanheeajaaGreatDoor
theorem two52:(2:Nat) ^ (53 - 1) = 4503599627370496:=dK
theorem two53:(2:Nat) ^ 53 = 9007199254740992:=dK
theorem infB_double:infB 53 (-1074) 971 = 9218868437227405312:=dK
theorem mg_of {m t:Nat} (hm:m <= 9007199254740992) (ht:t = 0 ∨ 4503599627370496 <= m) (hf:t * 4503599627370496 + m < 9218868437227405312) :
  fmag (t * 4503599627370496 + m) * 2 ^ fup (t * 4503599627370496 + m) = m * 2 ^ t:=by
 have hx:fx (t * 4503599627370496 + m) = (t * 4503599627370496 + m) / 4503599627370496:=by unfold fx; omega
 unfold fmag fup fm
 rw [hx]
 rcases Nat.lt_or_ge m 4503599627370496 with h | h
 ·obtain rfl:t = 0:=oM
  rw [Nat.zero_mul,Nat.zero_add,Nat.div_eq_of_lt h,if_pos rfl,Nat.mod_eq_of_lt h]
 ·rcases Nat.lt_or_ge m 9007199254740992 with h2 | h2
  ·rw [show (t * 4503599627370496 + m) / 4503599627370496 = t + 1 by omega,if_neg oM,show (t * 4503599627370496 + m) % 4503599627370496 = m - 4503599627370496 by omega,Nat.add_sub_cancel,Nat.sub_add_cancel h]
  ·obtain rfl:m = 9007199254740992:=oM
   rw [show (t * 4503599627370496 + 9007199254740992) / 4503599627370496 = t + 1 + 1 by omega,if_neg oM,show (t * 4503599627370496 + 9007199254740992) % 4503599627370496 = 0 by omega,Nat.add_sub_cancel,Nat.pow_succ]
   generalize 2 ^ t = x
   omega
theorem c74:(-(-1074:Int)).toNat = ex74:=rfl
def ex45:Nat:=2045
theorem ex45_eq:ex45 = 2045:=rfl
theorem cast3 {x y z w:Nat} (h:x * y <= z * w):(x:Int) * (y:Int) <= (z:Int) * (w:Int):=by
 have:((x * y:Nat):Int) <= ((z * w:Nat):Int):=Int.ofNat_le.2 h
 rwa [Int.natCast_mul,Int.natCast_mul] at this
theorem cast4 {x y z w:Nat} (h:x * y = z * w):(x:Int) * (y:Int) = (z:Int) * (w:Int):=by
 have:((x * y:Nat):Int) = ((z * w:Nat):Int):=congrArg _ h
 rwa [Int.natCast_mul,Int.natCast_mul] at this
theorem max_mag:fmag 9218868437227405311 = 9007199254740991 /\ fup 9218868437227405311 = ex45:=⟨dK,rfl⟩
theorem over_low {p q m t:Nat} (hq:0 < q) (hle:m * 2 ^ t * q <= p * two74) (h52:4503599627370496 <= m) (ov:2046 <= t):fmag 9218868437227405311 * 2 ^ fup 9218868437227405311 * q < p * two74:=by
 rw [max_mag.1,max_mag.2]
 refine lL ?_ hle
 clear hle
 refine Nat.mul_lt_mul_of_pos_right ?_ hq
 obtain ⟨k,hk⟩:∃ k,t = ex45 + 1 + k:=⟨t - 2046,by have:=ex45_eq; omega⟩
 have e3:2 ^ t = 2 ^ ex45 * 2 * 2 ^ k:=by rw [hk,Nat.pow_add,Nat.pow_succ]
 have e4:2 ^ ex45 * 2 <= 2 ^ t:=by rw [e3]; exact Nat.le_mul_of_pos_right _ (Nat.pow_pos oM)
 have e5:4503599627370496 * (2 ^ ex45 * 2) <= m * 2 ^ t:=Nat.mul_le_mul h52 e4
 have e6:0 < 2 ^ ex45:=Nat.pow_pos oM
 clear e3 hk e4
 generalize 2 ^ ex45 = x at *
 generalize m * 2 ^ t = y at *
 omega
theorem ov_0:ovB 53 (-1074) 971 0 = 9218868437227405311:=by
 unfold ovB; rw [infB_double]; rfl
theorem ov_1:ovB 53 (-1074) 971 1 = 9218868437227405312:=by
 unfold ovB; rw [infB_double]; rfl
theorem up_0 (m R V:Nat):upR m R V 0 = false:=rfl
theorem up_1 (m R V:Nat):upR m R V 1 = decide (0 < R):=rfl
theorem low_high {p q:Nat} (hp:0 < p) (hq:0 < q):∃ n0 n1,rdF 53 (-1074) 971 p q 0 = n0 /\ rdF 53 (-1074) 971 p q 1 = n1 /\ n0 < 9218868437227405312 /\ n1 <= 9218868437227405312 /\
  fmag n0 * 2 ^ fup n0 * q <= p * two74 /\ (n1 = n0 /\ fmag n0 * 2 ^ fup n0 * q = p * two74 ∨ n1 = n0 + 1 /\ fmag n0 * 2 ^ fup n0 * q < p * two74) /\ (n1 < 9218868437227405312 -> p * two74 <= fmag n1 * 2 ^ fup n1 * q) /\ n1 ≠ 0:=by
 obtain ⟨m,t,h,hr⟩:=rdF_spl (hi:=971) Fm.double hp hq
 have h0:=hr 0
 have h1:=hr 1
 have hle:=h.le
 have hlt:=h.lt
 have hm:=h.hm
 have ht:=h.ht
 unfold splR at h0 h1
 rw [c74] at hle hlt h0 h1
 rw [two52] at ht
 rw [two53] at hm
 have hV:0 < 2 ^ t * q:=Nat.mul_pos (Nat.pow_pos oM) hq
 have hpT:0 < p * two74:=Nat.mul_pos hp two74_pos
 have hT:p * 2 ^ ex74 = p * two74:=by unfold two74; rfl
 rw [hT] at hle hlt h0 h1
 by_cases ov:(971:Int) - (-1074) < (t:Int)
 ·rw [if_pos ov] at h0 h1
  refine ⟨9218868437227405311,9218868437227405312,by rw [h0,ov_0],by rw [h1,ov_1],oM,oM,?_⟩
  have h5:=over_low hq hle oM oM
  exact ⟨Nat.le_of_lt h5,.inr ⟨rfl,h5⟩,fun h=>absurd h oM,oM⟩
 ·rw [if_neg ov] at h0 h1
  rw [up_0,two52,if_neg Bool.false_ne_true,Nat.add_zero] at h0
  rw [up_1,two52] at h1
  have hfin:t * 4503599627370496 + m < 9218868437227405312:=oM
  have g0:=mg_of (Nat.le_of_lt hm) ht hfin
  by_cases hx:m * 2 ^ t * q = p * two74
  ·rw [if_neg sO,Nat.add_zero] at h1
   refine ⟨_,_,h0,h1,hfin,Nat.le_of_lt hfin,by rw [g0]; omega,.inl ⟨rfl,by rw [g0]; exact hx⟩,fun _=>by rw [g0]; omega,fun h=>?_⟩
   have:m = 0:=oM
   rw [this,Nat.zero_mul,Nat.zero_mul] at hx
   omega
  ·rw [if_pos sO,Nat.add_assoc] at h1
   refine ⟨_,_,h0,h1,hfin,oM,by rw [g0]; omega,.inr ⟨oM,by rw [g0]; omega⟩,fun hf=>?_,oM⟩
   rw [mg_of oM oM hf]
   omega
theorem flt_pos (n:Nat):flt n false = n:=by unfold flt; simp
theorem flt_neg {n:Nat} (h:n < 9223372036854775808):flt n true = if n = 0 then 0 else n + 9223372036854775808:=by
 unfold flt
 by_cases e:n = 0
 ·simp [e]
 ·simp [e]; exact or_63 h
theorem fI_pos {n:Nat} (h:n < 9223372036854775808):fI n = ((fmag n * 2 ^ fup n:Nat):Int):=by
 unfold fI fneg
 rw [decide_eq_false oM]; rfl
theorem fI_neg' {n:Nat} (h:n < 9223372036854775808):fI (n + 9223372036854775808) = -((fmag n * 2 ^ fup n:Nat):Int):=by
 have e:fx (n + 9223372036854775808) = fx n:=by unfold fx; omega
 have e2:fm (n + 9223372036854775808) = fm n:=by unfold fm; omega
 unfold fI fneg
 rw [decide_eq_true oM,if_pos rfl]
 unfold fmag fup
 rw [e,e2]
theorem fx_fin {n:Nat} (h:n < 9218868437227405312):fx n ≠ 2047:=by unfold fx; omega
theorem fx_fin' {n:Nat} (h:n < 9218868437227405312):fx (n + 9223372036854775808) ≠ 2047:=by unfold fx; omega
structure Around (a:Int) (d L H:Nat):Prop where
 l64:L < 18446744073709551616
 h64:H < 18446744073709551616
 lowI:fx L = 2047 -> L = 18442240474082181120
 highI:fx H = 2047 -> H = 9218868437227405312
 low:fx L ≠ 2047 -> fI L * (d:Int) <= a * (two74:Int)
 high:fx H ≠ 2047 -> a * (two74:Int) <= fI H * (d:Int)
 step:L = H /\ fx L ≠ 2047 /\ IsF L a d ∨ (L < 9218868437227405312 /\ H = L + 1) ∨ ∃ n,n < 9218868437227405312 /\ L = n + 1 + 9223372036854775808 /\ H = if n = 0 then 0 else n + 9223372036854775808
theorem around_of (a:Int) {d:Nat} (hd:0 < d):Around a d (rdB64 a d (if a < 0 then 1 else 0)) (rdB64 a d (if a < 0 then 0 else 1)):=by
 unfold rdB64
 rcases Int.lt_trichotomy a 0 with h | h | h
 ·obtain ⟨n0,n1,e0,e1,f0,f1,g0,g1,g2,g3⟩:=low_high (p:=a.natAbs) (q:=d) oM hd
  obtain ⟨p,rfl⟩:∃ p:Nat,a = -(p:Int):=⟨a.natAbs,oM⟩
  rw [if_pos h,if_pos h,decide_eq_true h,e0,e1,flt_neg oM,flt_neg oM,if_neg g3]
  rw [Int.natAbs_neg,Int.natAbs_natCast] at *
  have c0:(if n0 = 0 then 0 else n0 + 9223372036854775808) < 18446744073709551616 /\ fx (if n0 = 0 then 0 else n0 + 9223372036854775808) ≠ 2047 /\ fI (if n0 = 0 then 0 else n0 + 9223372036854775808) = -((fmag n0 * 2 ^ fup n0:Nat):Int):=by
   split
   ·rename_i e; subst e; decide
   ·exact ⟨oM,fx_fin' f0,fI_neg' oM⟩
  refine ⟨oM,c0.1,fun hx=>?_,fun hx=>absurd hx c0.2.1,fun hx=>?_,fun _=>?_,?_⟩
  ·have:n1 = 9218868437227405312:=by
    refine Nat.le_antisymm f1 (Nat.le_of_not_lt fun hl=>fx_fin' hl hx)
   omega
  ·have hl:n1 < 9218868437227405312:=by
    refine Nat.lt_of_le_of_ne f1 fun e=>hx ?_
    rw [e]; decide
   have:=g2 hl
   rw [fI_neg' oM,Int.neg_mul,Int.neg_mul]
   have h1:=cast3 this
   omega
  ·rw [c0.2.2,Int.neg_mul,Int.neg_mul]
   have h1:=cast3 g0
   omega
  ·rcases g1 with ⟨k1,k2⟩ | ⟨k1,k2⟩
   ·left
    subst k1
    rw [if_neg g3]
    refine ⟨rfl,fx_fin' f0,?_⟩
    unfold IsF
    rw [fI_neg' oM,Int.neg_mul,Int.neg_mul]
    have h1:=cast4 k2
    omega
   ·exact .inr (.inr ⟨n0,f0,oM,rfl⟩)
 ·subst h
  have e:flt (rdF 53 (-1074) 971 (Int.natAbs 0) d (if (0:Int) < 0 then 1 else 0)) (decide ((0:Int) < 0)) = 0:=by simp [rdF,flt]
  have e':flt (rdF 53 (-1074) 971 (Int.natAbs 0) d (if (0:Int) < 0 then 0 else 1)) (decide ((0:Int) < 0)) = 0:=by simp [rdF,flt]
  rw [e,e']
  have hI:fI 0 = 0:=dE
  have hx:fx 0 ≠ 2047:=dE
  refine ⟨oM,oM,fun h=>absurd h hx,fun h=>absurd h hx,fun _=>?_,fun _=>?_,.inl ⟨rfl,hx,?_⟩⟩ <;> (try unfold IsF) <;> rw [hI] <;> simp
 ·obtain ⟨n0,n1,e0,e1,f0,f1,g0,g1,g2,g3⟩:=low_high (p:=a.natAbs) (q:=d) oM hd
  obtain ⟨p,rfl⟩:∃ p:Nat,a = (p:Int):=⟨a.natAbs,oM⟩
  rw [if_neg oM,if_neg oM,decide_eq_false oM,e0,e1,flt_pos,flt_pos]
  rw [Int.natAbs_natCast] at *
  refine ⟨oM,oM,fun hx=>absurd hx (fx_fin f0),fun hx=>?_,fun _=>?_,fun hx=>?_,?_⟩
  ·exact Nat.le_antisymm f1 (Nat.le_of_not_lt fun hl=>fx_fin hl hx)
  ·rw [fI_pos oM]
   have h1:=cast3 g0
   omega
  ·have hl:n1 < 9218868437227405312:=by
    refine Nat.lt_of_le_of_ne f1 fun e=>hx ?_
    rw [e]; decide
   have:=g2 hl
   rw [fI_pos oM]
   have h1:=cast3 this
   omega
  ·rcases g1 with ⟨k1,k2⟩ | ⟨k1,k2⟩
   ·left
    subst k1
    refine ⟨rfl,fx_fin f0,?_⟩
    unfold IsF
    rw [fI_pos oM]
    have h1:=cast4 k2
    omega
   ·exact .inr (.inl ⟨f0,k1⟩)
end Go.Proofs.YtjodlmanheeajaaGreatDoor
namespace Go.Proofs.YtjodlmanheeajaaGreatDoor
open Go.RowKit
theorem cmpI_eq (x:Int):compare x x = Ordering.eq:=by show compareOfLessAndEq _ _ = _; simp [compareOfLessAndEq]
theorem ord_self {b:Nat} (hb:b < 18446744073709551616) (h:fx b ≠ 2047):FloatKind.f64.format.order b b = some Ordering.eq:=by
 show Ieee.double.order b b = _
 rw [order_fI hb hb h h,cmpI_eq]
theorem mag_step {n:Nat} (h:n + 1 < 9218868437227405312):fmag n * 2 ^ fup n < fmag (n + 1) * 2 ^ fup (n + 1):=by
 have h1:fx n = n / 4503599627370496:=by unfold fx; omega
 have h2:fx (n + 1) = (n + 1) / 4503599627370496:=by unfold fx; omega
 rcases (show (n + 1) / 4503599627370496 = n / 4503599627370496 ∨ (n + 1) / 4503599627370496 = n / 4503599627370496 + 1 by omega) with e | e
 ·have e1:fx (n + 1) = fx n:=by rw [h1,h2,e]
  have e2:fm (n + 1) = fm n + 1:=by unfold fm; omega
  have e3:fmag (n + 1) = fmag n + 1:=by unfold fmag; rw [e1,e2]; split <;> omega
  have e4:fup (n + 1) = fup n:=by unfold fup; rw [e1]
  rw [e3,e4,Nat.add_mul]
  have:=Nat.pow_pos (a:=2) (n:=fup n) oM
  omega
 ·have e1:fx (n + 1) = fx n + 1:=by rw [h1,h2,e]
  have e2:fm (n + 1) = 0:=by unfold fm; omega
  have e3:fmag (n + 1) = 4503599627370496:=by unfold fmag; rw [e1,e2,if_neg oM]
  have e4:fup (n + 1) = fx n:=by unfold fup; rw [e1]; omega
  rw [e3,e4]
  rcases Nat.eq_zero_or_pos (fx n) with e0 | e0
  ·have:fmag n = fm n:=by unfold fmag; rw [if_pos e0]
   have:=fm_lt n
   have e5:fup n = 0:=by unfold fup; omega
   rw [e5,e0]
   omega
  ·obtain ⟨k,hk⟩:∃ k,fx n = k + 1:=⟨fx n - 1,oM⟩
   have e5:fup n = k:=by unfold fup; omega
   rw [e5,hk,Nat.pow_succ]
   have:=fmag_lt n
   have hp:=Nat.pow_pos (a:=2) (n:=k) oM
   have h9:fmag n * 2 ^ k < 9007199254740992 * 2 ^ k:=Nat.mul_lt_mul_of_pos_right this hp
   generalize 2 ^ k = x at *
   omega
theorem fI_step {n:Nat} (h:n + 1 < 9218868437227405312):fI n < fI (n + 1):=by
 rw [fI_pos oM,fI_pos oM]
 exact Int.ofNat_lt.2 (mag_step h)
theorem fI_step' {n:Nat} (h:n + 1 < 9218868437227405312):fI (n + 1 + 9223372036854775808) < fI (n + 9223372036854775808):=by
 rw [fI_neg' oM,fI_neg' oM]
 have:=Int.ofNat_lt.2 (mag_step h)
 omega
end Go.Proofs.YtjodlmanheeajaaGreatDoor
